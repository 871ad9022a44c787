/-
  SHIFTED: traces that come later.
-/
import Derived.Test.YthgnemkfaiejbaaTAdd
set_option linter.unusedVariables false
set_option linter.unusedSimpArgs false
namespace Go.Proofs.Ythgnemkfaiejbaa
open Go.RowKit

/-- a trace that comes by samples later -/
def shT (x : Nat → Int) (m : Int) : Nat → Int := fun k => if inB ((k : Int) - m) 0 63 = true then x ((k : Int) - m).toNat else 0
theorem shT_bd {x : Nat → Int} {m : Int} {c : Nat} (h : ∀ k, k < 64 → (x k).natAbs ≤ c) (k : Nat) : (shT x m k).natAbs ≤ c := by
  unfold shT
  split
  · rename_i hb
    have := of_decide_eq_true hb
    exact h _ (by omega)
  · simp
set_option maxRecDepth 100000 in
set_option maxHeartbeats 1000000 in
theorem shifted1_any (x : Nat → Int) (m : Int) (b1 b2 k : Nat) (w : World) (hk : k < 64) (hm : m.natAbs ≤ 64) (hx : Hid (∀ k, k < 64 → (x k).natAbs < 2 ^ 24)) (hc : w.cell? ⟨b1, 0, none⟩ = some (.int .i64 m)) (hd : Hid (∀ k, k < 64 → w.cell? ⟨b2, k, none⟩ = some (f32 (x k)))) :
    Calls Try.prog 129 #[.int .i64 (k : Int), .pointer (some ⟨b1, 0, none⟩), .pointer (some ⟨b2, 0, none⟩)] w fun e w' => e = .returned (.int .i64 (shT x m k)) ∧ Below w.heap.size w w' := by
  have HS := Lib.hid (show shT x m k = if inB ((k : Int) - m) 0 63 = true then x ((k : Int) - m).toNat else 0 from rfl)
  have wr1 : IntKind.i64.wrap ((k : Int) - m) = (k : Int) - m := IntWalk.i64_in _ (by omega)
  have K := Lib.hid (fun W => isSample_any ((k : Int) - m) W)
  generalize shT x m k = r at *
  cases hb : inB ((k : Int) - m) 0 63
  · rw [hb] at K HS
    clear hb
    go_enter Try.func129, Try.ntmps129
    go_wp2_with fail
    refine (K.out _).mono ?_
    rintro e w' ⟨rfl, rfl⟩
    go_wp2
    go_ret
    exact ⟨ri HS.out.symm, by (repeat' (first | (with_reducible exact Below.refl _ _) | (with_reducible assumption) | (with_reducible refine Below.alloc ?_ ?_ _) | (with_reducible refine Below.drew ?_) | (with_reducible refine below_drewN ?_ _) | (with_reducible refine Below.setCell ?_ ?_ _) | (with_reducible refine below_step (by with_reducible assumption) ?_ ?_) | (with_reducible exact Below.size (by with_reducible assumption)) | go_size))⟩
  · rw [hb] at K HS
    have hj := of_decide_eq_true hb
    obtain ⟨j, hjj⟩ : ∃ j : Nat, (k : Int) - m = j := ⟨((k : Int) - m).toNat, by omega⟩
    have hjl : j < 64 := by omega
    have d0 := hd.out j hjl
    have hcv : ∀ w, _ := fun w => run_int32 (x j) w (hx.out j hjl)
    rw [hjj] at K HS
    have wr2 : IntKind.i64.wrap ((k : Int) - m) = (j : Int) := wr1.trans hjj
    rw [Int.toNat_natCast] at HS
    unfold f32 at d0
    clear hb wr1 hj hjj
    generalize wd Ieee.single (x j) = v at *
    generalize x j = y at *
    have e0 : (0 : Int) ≤ (j : Int) := by omega
    have e1 : (j : Int) < 64 := by omega
    go_enter Try.func129, Try.ntmps129
    go_wp2_with fail
    refine (K.out _).mono ?_
    rintro e w' ⟨rfl, rfl⟩
    go_wp2
    go_ret
    exact ⟨ri HS.out.symm, by (repeat' (first | (with_reducible exact Below.refl _ _) | (with_reducible assumption) | (with_reducible refine Below.alloc ?_ ?_ _) | (with_reducible refine Below.drew ?_) | (with_reducible refine below_drewN ?_ _) | (with_reducible refine Below.setCell ?_ ?_ _) | (with_reducible refine below_step (by with_reducible assumption) ?_ ?_) | (with_reducible exact Below.size (by with_reducible assumption)) | go_size))⟩
def sfE (x : Nat → Int) (m : Int) : Int := frst [tE x 64, unl (inB m (-64) 64) 2]
set_option maxRecDepth 100000 in
set_option maxHeartbeats 2000000 in
theorem shifted_err (x : Nat → Int) (m : Int) (w : World) (hx : Hid (∀ k, k < 64 → (x k).natAbs < 2 ^ 24)) (h : sfE x m ≠ 0) :
    Calls Try.prog 53 #[.agg (tC x), .int .i64 m] w fun e w' => e = .returned (.tuple #[.agg (tC fun _ => 0), .int .i64 (sfE x m)]) ∧ Below w.heap.size w w' := by
  have HE := Lib.hid (show sfE x m = frst [tE x 64, unl (inB m (-64) 64) 2] from rfl)
  have hT : (sfE x m != 0) = true := by simpa using h
  have K1 := Lib.hid (fun W => traceError_any x W hx)
  have hC := Lib.hid (show (Try.prog.info? 26).map (·.size) = some (tC x).size by rw [tC_size]; exact infoTrace)
  have hs0 := Lib.hid (tC_size fun _ => 0)
  have ho0 := Lib.hid (tC_one fun _ => 0)
  have HZ := Lib.hid zero_trace
  generalize sfE x m = T at *
  generalize tC x = c at *
  generalize (tC fun _ => 0) = z at *
  generalize tE x 64 = ex at *
  go_enter Try.func53, Try.ntmps53
  go_wp2_with (refine wpl_alloc rfl 26 z rfl (HZ.out _) ?_)
  refine wp_region_held_drew (S := fun w' => w'.heap[w.heap.size]? = some (.cells (c) 26 (0, 0)) ∧ w'.heap[w.heap.size + 1 + 1]? = some (.cells (z) 26 (0, 0)) ∧ w'.cell? ⟨w.heap.size + 1, 0, none⟩ = some (.int .i64 (m))) (by kernel_rfl) ?_ (fun hH1 => ?_)
  · (first | assumption | (refine ⟨?_, ?_, ?_⟩ <;> (first | assumption | ((repeat (first | assumption | (refine heap_alloc_at ?_; (first | rfl | (simp only [World.size_alloc, World.size_drew, World.size_setCell, size_drewN]; done))) | refine block_alloc ?_ | refine Buf.alloc ?_ _ | refine Buf.drew ?_ | refine Buf.setCell ?_ (by omega) _ _)); done) | (go_keep; done) | (simp [*, go_sem]; done))))
  refine wpAnyH_pure (i := 0) (v := ?_) rfl (by kernel_rfl) (by kernel_rfl) (by kernel_rfl) (fun _ _ _ h => h) (by rfl) (by assumption) ?_ ?_
  rotate_left
  · (intro w hSw; (try dsimp only at hSw); refine exec_load_arr 26 (p := .tmp 2) ?_ ?_ Try.underlying26 (hC.out) (by repeat (first | exact hSw | exact hSw.1 | replace hSw := hSw.2)) <;> rfl)
  simp only [Act.put, List.getElem_toArray, List.getElem_cons_succ, List.getElem_cons_zero, List.setIfInBounds_toArray, List.set_cons_zero, List.set_cons_succ]
  refine wpAnyH_pure (i := 2) (v := ?_) rfl (by kernel_rfl) (by kernel_rfl) (by kernel_rfl) (fun _ _ _ h => h) (by rfl) (by assumption) ?_ ?_
  rotate_left
  · (intro w hSw; (try dsimp only at hSw); go_simp; (try with_reducible rfl))
  simp only [Act.put, List.getElem_toArray, List.getElem_cons_succ, List.getElem_cons_zero, List.setIfInBounds_toArray, List.set_cons_zero, List.set_cons_succ]
  refine wpAnyH_ready (rs := [1]) (by kernel_rfl) (by simp) ?_
  refine AllReadyH.cons rfl (fun Kq hKq => ?_) AllReadyH.nil
  go_simp
  refine (K1.out _).mono ?_
  (rintro e w1 ⟨rfl, hw1⟩)
  obtain ⟨hcw1, hfw1, hlw1, hmw1, hnw1⟩ := bcell3 hw1
  have hzw1 := hw1.size
  (try simp only [World.size_alloc, World.size_setCell, World.size_drew, size_drewN] at hzw1)
  have ca1_0 : w1.heap[w.heap.size]? = some (.cells (c) 26 (0, 0)) := block_below0 hw1 (by first | assumption | (repeat (first | assumption | (refine heap_alloc_at ?_; (first | rfl | (simp only [World.size_alloc, World.size_drew, World.size_setCell, size_drewN]; done))) | refine block_alloc ?_)))
  have cb1_0 : w1.cell? ⟨w.heap.size + 1, 0, none⟩ = some (.int .i64 (m)) := (hcw1 (w.heap.size + 1) (0) (by first | omega | (simp only [World.size_alloc, World.size_drew, World.size_setCell, size_drewN]; omega))).trans (by first | assumption | (simp [go_sem, *]; done)); have ob1 : w.heap.size + 1 < w1.heap.size := (by omega)
  have cr1_0 : w1.heap[w.heap.size + 1 + 1]? = some (.cells (z) 26 (0, 0)) := block_below0 hw1 (by first | assumption | (repeat (first | assumption | (refine heap_alloc_at ?_; (first | rfl | (simp only [World.size_alloc, World.size_drew, World.size_setCell, size_drewN]; done))) | refine block_alloc ?_)))
  refine hKq.out _ _ ?_ (fun hH2 => ?_)
  · (first | assumption | (refine ⟨?_, ?_, ?_⟩ <;> (first | assumption | ((repeat (first | assumption | (refine heap_alloc_at ?_; (first | rfl | (simp only [World.size_alloc, World.size_drew, World.size_setCell, size_drewN]; done))) | refine block_alloc ?_ | refine Buf.alloc ?_ _ | refine Buf.drew ?_ | refine Buf.setCell ?_ (by omega) _ _)); done) | (go_keep; done) | (simp [*, go_sem]; done))))
  clear hKq Kq
  clear hH1
  refine wpAnyH_ready (rs := [3]) (by kernel_rfl) (by simp) ?_
  refine AllReadyH.cons rfl (fun Kq hKq => ?_) AllReadyH.nil
  go_simp
  refine (rangeError_any _ _ _ _).mono ?_
  (rintro e w' ⟨rfl, rfl⟩)
  refine hKq.out _ _ ?_ (fun hH3 => ?_)
  · (first | assumption | (refine ⟨?_, ?_, ?_⟩ <;> (first | assumption | ((repeat (first | assumption | (refine heap_alloc_at ?_; (first | rfl | (simp only [World.size_alloc, World.size_drew, World.size_setCell, size_drewN]; done))) | refine block_alloc ?_ | refine Buf.alloc ?_ _ | refine Buf.drew ?_ | refine Buf.setCell ?_ (by omega) _ _)); done) | (go_keep; done) | (simp [*, go_sem]; done))))
  clear hKq Kq
  clear hH2
  refine wpAnyH_ready (rs := [4]) (by kernel_rfl) (by simp) ?_
  refine AllReadyH.cons rfl (fun Kq hKq => ?_) AllReadyH.nil
  go_simp
  refine hKq.out _ _ ?_ (fun hH4 => ?_)
  · (first | assumption | (refine ⟨?_, ?_, ?_⟩ <;> (first | assumption | ((repeat (first | assumption | (refine heap_alloc_at ?_; (first | rfl | (simp only [World.size_alloc, World.size_drew, World.size_setCell, size_drewN]; done))) | refine block_alloc ?_ | refine Buf.alloc ?_ _ | refine Buf.drew ?_ | refine Buf.setCell ?_ (by omega) _ _)); done) | (go_keep; done) | (simp [*, go_sem]; done))))
  clear hKq Kq
  clear hH3
  refine wpAnyH_ready (rs := [5]) (by kernel_rfl) (by simp) ?_
  refine AllReadyH.cons rfl (fun Kq hKq => ?_) AllReadyH.nil
  go_simp
  refine (first2 _ _ _ _ (cell_fresh _ _ _ _ _ _ rfl rfl) (cell_fresh _ _ _ _ _ _ rfl rfl)).mono ?_
  (rintro e w' ⟨rfl, rfl⟩)
  refine hKq.out _ _ ?_ (fun hH5 => ?_)
  · (first | assumption | (refine ⟨?_, ?_, ?_⟩ <;> (first | assumption | ((repeat (first | assumption | (refine heap_alloc_at ?_; (first | rfl | (simp only [World.size_alloc, World.size_drew, World.size_setCell, size_drewN]; done))) | refine block_alloc ?_ | refine Buf.alloc ?_ _ | refine Buf.drew ?_ | refine Buf.setCell ?_ (by omega) _ _)); done) | (go_keep; done) | (simp [*, go_sem]; done))))
  clear hKq Kq
  clear hH4
  refine wpAnyH_pure (i := 6) (v := ?_) rfl (by kernel_rfl) (by kernel_rfl) (by kernel_rfl) (fun _ _ _ h => h) (by rfl) (by assumption) ?_ ?_
  rotate_left
  · (intro w hSw; (try dsimp only at hSw); go_simp; (try with_reducible rfl))
  simp only [Act.put, List.getElem_toArray, List.getElem_cons_succ, List.getElem_cons_zero, List.setIfInBounds_toArray, List.set_cons_zero, List.set_cons_succ]
  refine wpAnyH_done (by kernel_rfl) ?_ _
  rw [← HE.out]
  first | refine abs_calls (fun w4 hw4 => ?_) | refine abs_last (fun w4 hw4 => ?_)
  have hw40 : Below w.heap.size w w4 := by rw [hw4]; (repeat' (first | (with_reducible exact Below.refl _ _) | (with_reducible assumption) | (with_reducible refine Below.alloc ?_ ?_ _) | (with_reducible refine Below.drew ?_) | (with_reducible refine below_drewN ?_ _) | (with_reducible refine Below.setCell ?_ ?_ _) | (with_reducible refine below_step (by with_reducible assumption) ?_ ?_) | (with_reducible exact Below.size (by with_reducible assumption)) | go_size))
  have hzz4 := hw40.size
  have ca4_0 : w4.heap[w.heap.size]? = some (.cells (c) 26 (0, 0)) := by rw [hw4]; (repeat (first | assumption | (refine heap_alloc_at ?_; (first | rfl | (simp only [World.size_alloc, World.size_drew, World.size_setCell, size_drewN]; done))) | refine block_alloc ?_))
  have cb4_0 : w4.cell? ⟨w.heap.size + 1, 0, none⟩ = some (.int .i64 (m)) := by (first | (rw [hw4]; assumption) | (simp [go_sem, *]; done))
  have cr4_0 : w4.heap[w.heap.size + 1 + 1]? = some (.cells (z) 26 (0, 0)) := by rw [hw4]; (repeat (first | assumption | (refine heap_alloc_at ?_; (first | rfl | (simp only [World.size_alloc, World.size_drew, World.size_setCell, size_drewN]; done))) | refine block_alloc ?_))
  clear ca1_0
  clear cb1_0
  clear cr1_0
  clear hw4
  go_wp2_with (first | (refine wpl_build0 rfl 26 z rfl (HZ.out _) Try.underlying26 (sz := 1) (by kernel_rfl) ?_) | (refine wpl_store rfl 26 26 _ _ (w.heap.size + 1 + 1) z z rfl rfl rfl (by rw [hs0.out]; exact infoTrace) rfl ho0.out cr4_0 ?_))
  refine bodyPost_ret (v := .tuple #[.agg z, .int .i64 T]) ?_ rfl ⟨rfl, below_setRow (by (repeat' (first | (with_reducible exact Below.refl _ _) | (with_reducible assumption) | (with_reducible refine Below.alloc ?_ ?_ _) | (with_reducible refine Below.drew ?_) | (with_reducible refine below_drewN ?_ _) | (with_reducible refine Below.setCell ?_ ?_ _) | (with_reducible refine below_step (by with_reducible assumption) ?_ ?_) | (with_reducible exact Below.size (by with_reducible assumption)) | go_size))) z (by omega)⟩
  rw [results_cell_tmp (p := 4) (u := 5) (ty := 26) rfl]
  have hl : (loadVar 26 ⟨w.heap.size + 1 + 1, 0, none⟩).run Try.prog (w4.setRow (w.heap.size + 1 + 1) z) = .ok (.agg z) _ := run_loadVar_row _ _ 26 26 z (0, 0) _ (block_setRow cr4_0) Try.underlying26 rfl (by rw [hs0.out]; exact infoTrace)
  change ((loadVar 26 ⟨w.heap.size + 1 + 1, 0, none⟩).run Try.prog _).andThen _ = _
  rw [hl]
  rfl
set_option maxRecDepth 100000 in
set_option maxHeartbeats 2000000 in
theorem shifted_ok (x : Nat → Int) (m : Int) (w : World) (hx : Hid (∀ k, k < 64 → (x k).natAbs ≤ 2047)) (hm : m.natAbs ≤ 64) :
    Calls Try.prog 53 #[.agg (tC x), .int .i64 m] w fun e w' => e = .returned (.tuple #[.agg (tC (shT x m)), .int .i64 0]) ∧ Below w.heap.size w w' := by
  have HE := Lib.hid (show frst [0, unl (inB m (-64) 64) 2] = 0 by rw [show inB m (-64) 64 = true by unfold inB; exact decide_eq_true (by omega)]; rfl)
  have K1 := Lib.hid (fun W => traceError_ok x W hx)
  have hmf : ∀ (fn : Fn) (first cap : Array Value) (w : World), (Instr.makeFunc fn first cap).run Try.prog w = .ok (.func fn first cap) w := fun _ _ _ _ => rfl
  have HF : Hid (Enters Try.prog 129) := Lib.hid (enters_of Try.func129 (by kernel_rfl) rfl)
  have KT : Hid (∀ (b1 b2 : Nat) (W : World), W.heap[b2]? = some (.cells (tC x) 26 (0, 0)) → b1 < W.heap.size → W.cell? ⟨b1, 0, none⟩ = some (.int .i64 m) → Calls Try.prog 127 #[.func (.func 129) #[] #[.pointer (some ⟨b1, 0, none⟩), .pointer (some ⟨b2, 0, none⟩)]] W fun e w' => e = .returned (.agg (tC (shT x m))) ∧ Below W.heap.size W w') :=
    Lib.hid fun b1 b2 W h2 hb h1 => traceWith_bel (shT x m) _ _ W HF (Lib.hid fun k hk W' hB => shifted1_any x m b1 b2 k W' hk hm (Lib.hid fun k hk => by have := hx.out k hk; omega) ((hB.cell (p := ⟨b1, 0, none⟩) hb).trans h1) (Lib.hid fun k hk => (cell_block (block_below0 hB h2)).trans (tC_get x hk)))
  have hC := Lib.hid (show (Try.prog.info? 26).map (·.size) = some (tC x).size by rw [tC_size]; exact infoTrace)
  have hs0 := Lib.hid (tC_size fun _ => 0)
  have hs1 := Lib.hid (tC_size (shT x m))
  have ho1 := Lib.hid (tC_one (shT x m))
  have HZ := Lib.hid zero_trace
  clear hm
  generalize tC (shT x m) = s at *
  generalize tC x = c at *
  generalize (tC fun _ => 0) = z at *
  go_enter Try.func53, Try.ntmps53
  go_wp2_with (refine wpl_alloc rfl 26 z rfl (HZ.out _) ?_)
  refine wp_region_held_drew (S := fun w' => w'.heap[w.heap.size]? = some (.cells (c) 26 (0, 0)) ∧ w'.heap[w.heap.size + 1 + 1]? = some (.cells (z) 26 (0, 0)) ∧ w'.cell? ⟨w.heap.size + 1, 0, none⟩ = some (.int .i64 (m))) (by kernel_rfl) ?_ (fun hH1 => ?_)
  · (first | assumption | (refine ⟨?_, ?_, ?_⟩ <;> (first | assumption | ((repeat (first | assumption | (refine heap_alloc_at ?_; (first | rfl | (simp only [World.size_alloc, World.size_drew, World.size_setCell, size_drewN]; done))) | refine block_alloc ?_ | refine Buf.alloc ?_ _ | refine Buf.drew ?_ | refine Buf.setCell ?_ (by omega) _ _)); done) | (go_keep; done) | (simp [*, go_sem]; done))))
  refine wpAnyH_pure (i := 0) (v := ?_) rfl (by kernel_rfl) (by kernel_rfl) (by kernel_rfl) (fun _ _ _ h => h) (by rfl) (by assumption) ?_ ?_
  rotate_left
  · (intro w hSw; (try dsimp only at hSw); refine exec_load_arr 26 (p := .tmp 2) ?_ ?_ Try.underlying26 (hC.out) (by repeat (first | exact hSw | exact hSw.1 | replace hSw := hSw.2)) <;> rfl)
  simp only [Act.put, List.getElem_toArray, List.getElem_cons_succ, List.getElem_cons_zero, List.setIfInBounds_toArray, List.set_cons_zero, List.set_cons_succ]
  refine wpAnyH_pure (i := 2) (v := ?_) rfl (by kernel_rfl) (by kernel_rfl) (by kernel_rfl) (fun _ _ _ h => h) (by rfl) (by assumption) ?_ ?_
  rotate_left
  · (intro w hSw; (try dsimp only at hSw); go_simp; (try with_reducible rfl))
  simp only [Act.put, List.getElem_toArray, List.getElem_cons_succ, List.getElem_cons_zero, List.setIfInBounds_toArray, List.set_cons_zero, List.set_cons_succ]
  refine wpAnyH_ready (rs := [1]) (by kernel_rfl) (by simp) ?_
  refine AllReadyH.cons rfl (fun Kq hKq => ?_) AllReadyH.nil
  go_simp
  refine (K1.out _).mono ?_
  (rintro e w1 ⟨rfl, hw1⟩)
  obtain ⟨hcw1, hfw1, hlw1, hmw1, hnw1⟩ := bcell3 hw1
  have hzw1 := hw1.size
  (try simp only [World.size_alloc, World.size_setCell, World.size_drew, size_drewN] at hzw1)
  have ca1_0 : w1.heap[w.heap.size]? = some (.cells (c) 26 (0, 0)) := block_below0 hw1 (by first | assumption | (repeat (first | assumption | (refine heap_alloc_at ?_; (first | rfl | (simp only [World.size_alloc, World.size_drew, World.size_setCell, size_drewN]; done))) | refine block_alloc ?_)))
  have cb1_0 : w1.cell? ⟨w.heap.size + 1, 0, none⟩ = some (.int .i64 (m)) := (hcw1 (w.heap.size + 1) (0) (by first | omega | (simp only [World.size_alloc, World.size_drew, World.size_setCell, size_drewN]; omega))).trans (by first | assumption | (simp [go_sem, *]; done)); have ob1 : w.heap.size + 1 < w1.heap.size := (by omega)
  have cr1_0 : w1.heap[w.heap.size + 1 + 1]? = some (.cells (z) 26 (0, 0)) := block_below0 hw1 (by first | assumption | (repeat (first | assumption | (refine heap_alloc_at ?_; (first | rfl | (simp only [World.size_alloc, World.size_drew, World.size_setCell, size_drewN]; done))) | refine block_alloc ?_)))
  refine hKq.out _ _ ?_ (fun hH2 => ?_)
  · (first | assumption | (refine ⟨?_, ?_, ?_⟩ <;> (first | assumption | ((repeat (first | assumption | (refine heap_alloc_at ?_; (first | rfl | (simp only [World.size_alloc, World.size_drew, World.size_setCell, size_drewN]; done))) | refine block_alloc ?_ | refine Buf.alloc ?_ _ | refine Buf.drew ?_ | refine Buf.setCell ?_ (by omega) _ _)); done) | (go_keep; done) | (simp [*, go_sem]; done))))
  clear hKq Kq
  clear hH1
  refine wpAnyH_ready (rs := [3]) (by kernel_rfl) (by simp) ?_
  refine AllReadyH.cons rfl (fun Kq hKq => ?_) AllReadyH.nil
  go_simp
  refine (rangeError_any _ _ _ _).mono ?_
  (rintro e w' ⟨rfl, rfl⟩)
  refine hKq.out _ _ ?_ (fun hH3 => ?_)
  · (first | assumption | (refine ⟨?_, ?_, ?_⟩ <;> (first | assumption | ((repeat (first | assumption | (refine heap_alloc_at ?_; (first | rfl | (simp only [World.size_alloc, World.size_drew, World.size_setCell, size_drewN]; done))) | refine block_alloc ?_ | refine Buf.alloc ?_ _ | refine Buf.drew ?_ | refine Buf.setCell ?_ (by omega) _ _)); done) | (go_keep; done) | (simp [*, go_sem]; done))))
  clear hKq Kq
  clear hH2
  refine wpAnyH_ready (rs := [4]) (by kernel_rfl) (by simp) ?_
  refine AllReadyH.cons rfl (fun Kq hKq => ?_) AllReadyH.nil
  go_simp
  refine hKq.out _ _ ?_ (fun hH4 => ?_)
  · (first | assumption | (refine ⟨?_, ?_, ?_⟩ <;> (first | assumption | ((repeat (first | assumption | (refine heap_alloc_at ?_; (first | rfl | (simp only [World.size_alloc, World.size_drew, World.size_setCell, size_drewN]; done))) | refine block_alloc ?_ | refine Buf.alloc ?_ _ | refine Buf.drew ?_ | refine Buf.setCell ?_ (by omega) _ _)); done) | (go_keep; done) | (simp [*, go_sem]; done))))
  clear hKq Kq
  clear hH3
  refine wpAnyH_ready (rs := [5]) (by kernel_rfl) (by simp) ?_
  refine AllReadyH.cons rfl (fun Kq hKq => ?_) AllReadyH.nil
  go_simp
  refine (first2 _ _ _ _ (cell_fresh _ _ _ _ _ _ rfl rfl) (cell_fresh _ _ _ _ _ _ rfl rfl)).mono ?_
  (rintro e w' ⟨rfl, rfl⟩)
  refine hKq.out _ _ ?_ (fun hH5 => ?_)
  · (first | assumption | (refine ⟨?_, ?_, ?_⟩ <;> (first | assumption | ((repeat (first | assumption | (refine heap_alloc_at ?_; (first | rfl | (simp only [World.size_alloc, World.size_drew, World.size_setCell, size_drewN]; done))) | refine block_alloc ?_ | refine Buf.alloc ?_ _ | refine Buf.drew ?_ | refine Buf.setCell ?_ (by omega) _ _)); done) | (go_keep; done) | (simp [*, go_sem]; done))))
  clear hKq Kq
  clear hH4
  refine wpAnyH_pure (i := 6) (v := ?_) rfl (by kernel_rfl) (by kernel_rfl) (by kernel_rfl) (fun _ _ _ h => h) (by rfl) (by assumption) ?_ ?_
  rotate_left
  · (intro w hSw; (try dsimp only at hSw); go_simp; (try with_reducible rfl))
  simp only [Act.put, List.getElem_toArray, List.getElem_cons_succ, List.getElem_cons_zero, List.setIfInBounds_toArray, List.set_cons_zero, List.set_cons_succ]
  refine wpAnyH_done (by kernel_rfl) ?_ _
  rw [HE.out]
  first | refine abs_calls (fun w4 hw4 => ?_) | refine abs_last (fun w4 hw4 => ?_)
  have hw40 : Below w.heap.size w w4 := by rw [hw4]; (repeat' (first | (with_reducible exact Below.refl _ _) | (with_reducible assumption) | (with_reducible refine Below.alloc ?_ ?_ _) | (with_reducible refine Below.drew ?_) | (with_reducible refine below_drewN ?_ _) | (with_reducible refine Below.setCell ?_ ?_ _) | (with_reducible refine below_step (by with_reducible assumption) ?_ ?_) | (with_reducible exact Below.size (by with_reducible assumption)) | go_size))
  have hzz4 := hw40.size
  have ca4_0 : w4.heap[w.heap.size]? = some (.cells (c) 26 (0, 0)) := by rw [hw4]; (repeat (first | assumption | (refine heap_alloc_at ?_; (first | rfl | (simp only [World.size_alloc, World.size_drew, World.size_setCell, size_drewN]; done))) | refine block_alloc ?_))
  have cb4_0 : w4.cell? ⟨w.heap.size + 1, 0, none⟩ = some (.int .i64 (m)) := by (first | (rw [hw4]; assumption) | (simp [go_sem, *]; done))
  have cr4_0 : w4.heap[w.heap.size + 1 + 1]? = some (.cells (z) 26 (0, 0)) := by rw [hw4]; (repeat (first | assumption | (refine heap_alloc_at ?_; (first | rfl | (simp only [World.size_alloc, World.size_drew, World.size_setCell, size_drewN]; done))) | refine block_alloc ?_))
  have hz40 : w.heap.size + 1 < w4.heap.size := by (first | (rw [hw4]; simp; omega) | (rw [hw4]; simp; done) | (rw [hw4]; omega))
  clear ca1_0
  clear cb1_0
  clear cr1_0
  clear hw4
  go_wp2_with fail; (refine (KT.out _ _ _ ca4_0 hz40 cb4_0).mono ?_; rintro e w5 ⟨rfl, hw5⟩; obtain ⟨hcw5, hfw5, hlw5, hmw5, hnw5⟩ := bcell3 hw5; have hzw5 := hw5.size; (try simp only [World.size_alloc, World.size_setCell, World.size_drew, size_drewN] at hzw5))
  have ca5_0 : w5.heap[w.heap.size]? = some (.cells (c) 26 (0, 0)) := block_below0 hw5 (by first | assumption | (repeat (first | assumption | (refine heap_alloc_at ?_; (first | rfl | (simp only [World.size_alloc, World.size_drew, World.size_setCell, size_drewN]; done))) | refine block_alloc ?_)))
  clear ca4_0
  have cb5_0 : w5.cell? ⟨w.heap.size + 1, 0, none⟩ = some (.int .i64 (m)) := (hcw5 (w.heap.size + 1) (0) (by first | omega | (simp only [World.size_alloc, World.size_drew, World.size_setCell, size_drewN]; omega))).trans (by first | assumption | (simp [go_sem, *]; done)); have ob5 : w.heap.size + 1 < w5.heap.size := (by omega)
  clear cb4_0
  have cr5_0 : w5.heap[w.heap.size + 1 + 1]? = some (.cells (z) 26 (0, 0)) := block_below0 hw5 (by first | assumption | (repeat (first | assumption | (refine heap_alloc_at ?_; (first | rfl | (simp only [World.size_alloc, World.size_drew, World.size_setCell, size_drewN]; done))) | refine block_alloc ?_)))
  clear cr4_0
  clear hcw5 hfw5 hlw5 hmw5 hnw5
  go_wp2_with (refine wpl_store rfl 26 26 _ _ (w.heap.size + 1 + 1) z s rfl rfl rfl (by rw [hs1.out]; exact infoTrace) (by rw [hs0.out, hs1.out]) ho1.out cr5_0 ?_)
  refine bodyPost_ret (v := .tuple #[.agg s, .int .i64 0]) ?_ rfl ⟨rfl, below_setRow (by (repeat' (first | (with_reducible exact Below.refl _ _) | (with_reducible assumption) | (with_reducible refine Below.alloc ?_ ?_ _) | (with_reducible refine Below.drew ?_) | (with_reducible refine below_drewN ?_ _) | (with_reducible refine Below.setCell ?_ ?_ _) | (with_reducible refine below_step (by with_reducible assumption) ?_ ?_) | (with_reducible exact Below.size (by with_reducible assumption)) | go_size))) s (by omega)⟩
  rw [results_cell_tmp (p := 4) (u := 5) (ty := 26) rfl]
  have hl : (loadVar 26 ⟨w.heap.size + 1 + 1, 0, none⟩).run Try.prog (w5.setRow (w.heap.size + 1 + 1) s) = .ok (.agg s) _ := run_loadVar_row _ _ 26 26 s (0, 0) _ (block_setRow cr5_0) Try.underlying26 rfl (by rw [hs1.out]; exact infoTrace)
  change ((loadVar 26 ⟨w.heap.size + 1 + 1, 0, none⟩).run Try.prog _).andThen _ = _
  rw [hl]
  rfl
end Go.Proofs.Ythgnemkfaiejbaa
