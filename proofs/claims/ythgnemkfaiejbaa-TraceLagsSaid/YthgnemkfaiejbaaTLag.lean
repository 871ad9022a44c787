/-
  LAGS of right traces: likeness, LagOf.
-/
import Derived.Test.YthgnemkfaiejbaaTAna
import Derived.Test.YthgnemkfaiejbaaTPeak
import Derived.Test.YthgnemkfaiejbaaTTime
import Derived.Test.YthgnemkfaiejbaaTErr
import Derived.Test.YthgnemkfaiejbaaTLagM
set_option linter.unusedVariables false
set_option linter.unusedSimpArgs false
namespace Go.Proofs.Ythgnemkfaiejbaa
open Go.RowKit

set_option maxRecDepth 100000 in
set_option maxHeartbeats 2000000 in
theorem likeness_ok (x y : Nat → Int) (lag : Int) (w : World) (hx : Hid (∀ k, k < 64 → (x k).natAbs ≤ 2047)) (hy : Hid (∀ k, k < 64 → (y k).natAbs ≤ 2047)) (hl : lag.natAbs ≤ 1000) :
    Calls Try.prog 142 #[.agg (tC x), .agg (tC y), .int .i64 lag] w fun e w' => e = .returned (.int .i64 (lk x y lag 64)) ∧ Below w.heap.size w w' := by
  have HGx := Lib.hid (fun k (h : k < 64) => tC_get x h)
  have HGy := Lib.hid (fun k (h : k < 64) => tC_get y h)
  have HS := Lib.hid (fun k (h : k ≤ 64) => lk_bd hx.out hy.out lag k h)
  generalize tC x = c at *
  generalize tC y = d at *
  go_enter Try.func142, Try.ntmps142
  go_wp2
  go_loopw [7, 9] (fun s i wr => ∃ k : Nat, k ≤ 64 ∧ i = .int .i64 (k : Int) ∧ s = .int .i64 (lk x y lag k) ∧ Below w.heap.size w wr ∧ wr.heap[w.heap.size]? = some (.cells c 26 (0, 0)) ∧ wr.heap[w.heap.size + 1]? = some (.cells d 26 (0, 0))) (fun _ i _ => 64 - (intOf i).toNat)
  case atStart =>
    refine ⟨0, Nat.zero_le _, rfl, rfl, by (repeat' (first | (with_reducible exact Below.refl _ _) | (with_reducible assumption) | (with_reducible refine Below.alloc ?_ ?_ _) | (with_reducible refine Below.drew ?_) | (with_reducible refine below_drewN ?_ _) | (with_reducible refine Below.setCell ?_ ?_ _) | (with_reducible refine below_step (by with_reducible assumption) ?_ ?_) | (with_reducible exact Below.size (by with_reducible assumption)) | go_size)), block_alloc (heap_alloc_last w _), ?_⟩
    have := heap_alloc_last (w.alloc (.cells c 26)) (.cells d 26)
    rw [show (w.alloc (.cells c 26)).heap.size = w.heap.size + 1 by simp] at this
    exact this
  case round =>
    obtain ⟨k, hk, rfl, rfl, hB, hg0, hg1⟩ := hrel
    by_cases hlt : k < 64
    · have hb := HS.out k hk
      have e0 : (0 : Int) ≤ (k : Int) := by omega
      have e1 : (k : Int) < 64 := by omega
      have w1' : IntKind.i64.wrap ((k : Int) + lag) = (k : Int) + lag := IntWalk.i64_in _ (by omega)
      have HB := Lib.hid hB
      have G0 := Lib.hid hg0
      have G1 := Lib.hid hg1
      by_cases hin : 0 ≤ (k : Int) + lag ∧ (k : Int) + lag ≤ 63
      · obtain ⟨j, hj⟩ : ∃ j : Nat, (k : Int) + lag = j := ⟨((k : Int) + lag).toNat, by omega⟩
        have hst : lk x y lag (k + 1) = lk x y lag k + x k * y j := by
          show lk x y lag k + _ = _
          rw [if_pos hin, hj]; rfl
        have hI : inB (j : Int) 0 63 = true := by unfold inB; exact decide_eq_true (by omega)
        have hjl : j < 64 := by omega
        have d0 := (cell_block (i := k) hg0).trans (HGx.out k hlt)
        have d1 := (cell_block (i := j) hg1).trans (HGy.out j hjl)
        have hc1 : ∀ w, _ := fun w => run_int32 (x k) w (by have := hx.out k hlt; omega)
        have hc2 : ∀ w, _ := fun w => run_int32 (y j) w (by have := hy.out j hjl; omega)
        have pb := prod_bd (hx.out k hlt) (hy.out j hjl)
        have wr2 : IntKind.i64.wrap (x k * y j) = x k * y j := IntWalk.i64_in _ (by omega)
        have wr3 : IntKind.i64.wrap (lk x y lag k + x k * y j) = lk x y lag k + x k * y j := IntWalk.i64_in _ (by omega)
        have w1'' : IntKind.i64.wrap ((k : Int) + lag) = (j : Int) := w1'.trans hj
        clear w1'
        unfold f32 at d0 d1
        generalize wd Ieee.single (x k) = v0 at *
        generalize wd Ieee.single (y j) = v1 at *
        have HST := Lib.hid hst
        have q0 : (0 : Int) ≤ (j : Int) := by omega
        have q1 : (j : Int) < 64 := by omega
        have HJ := Lib.hid hj
        clear hst hB hg0 hg1 hin hl hj
        generalize x k = xk at *
        generalize y j = yj at *
        generalize lk x y lag k = s at *
        go_wp2_with fail
        refine (isSample_any _ _).mono ?_
        rintro e w' ⟨rfl, rfl⟩
        rw [hI]
        go_wp2
        refine wp_region_held_drew (S := fun w' => w'.cell? ⟨w.heap.size, k, none⟩ = some (.float .f32 v0) ∧ w'.cell? ⟨w.heap.size + 1, j, none⟩ = some (.float .f32 v1)) (by kernel_rfl) ?_ (fun hH1 => ?_)
        · (first | assumption | (refine ⟨?_, ?_⟩ <;> assumption) | (go_keep; done) | (simp [*, go_sem]; done))
        refine wpAnyH_pure (i := 0) (v := ?_) rfl (by kernel_rfl) (by kernel_rfl) (by kernel_rfl) (fun _ _ _ h => h) (by rfl) (by assumption) ?_ ?_
        rotate_left
        · (intro w hSw; (try dsimp only at hSw); go_simp; (try with_reducible rfl))
        simp only [Act.put, List.getElem_toArray, List.getElem_cons_succ, List.getElem_cons_zero, List.setIfInBounds_toArray, List.set_cons_zero, List.set_cons_succ]
        refine wpAnyH_pure (i := 1) (v := ?_) rfl (by kernel_rfl) (by kernel_rfl) (by kernel_rfl) (fun _ _ _ h => h) (by rfl) (by assumption) ?_ ?_
        rotate_left
        · (intro w hSw; (try dsimp only at hSw); go_simp; (try with_reducible rfl))
        simp only [Act.put, List.getElem_toArray, List.getElem_cons_succ, List.getElem_cons_zero, List.setIfInBounds_toArray, List.set_cons_zero, List.set_cons_succ]
        refine wpAnyH_pure (i := 2) (v := ?_) rfl (by kernel_rfl) (by kernel_rfl) (by kernel_rfl) (fun _ _ _ h => h) (by rfl) (by assumption) ?_ ?_
        rotate_left
        · (intro w hSw; (try dsimp only at hSw); go_simp; (try with_reducible rfl))
        simp only [Act.put, List.getElem_toArray, List.getElem_cons_succ, List.getElem_cons_zero, List.setIfInBounds_toArray, List.set_cons_zero, List.set_cons_succ]
        refine wpAnyH_pure (i := 3) (v := ?_) rfl (by kernel_rfl) (by kernel_rfl) (by kernel_rfl) (fun _ _ _ h => h) (by rfl) (by assumption) ?_ ?_
        rotate_left
        · (intro w hSw; (try dsimp only at hSw); go_simp; (try with_reducible rfl))
        simp only [Act.put, List.getElem_toArray, List.getElem_cons_succ, List.getElem_cons_zero, List.setIfInBounds_toArray, List.set_cons_zero, List.set_cons_succ]
        refine wpAnyH_pure (i := 4) (v := ?_) rfl (by kernel_rfl) (by kernel_rfl) (by kernel_rfl) (fun _ _ _ h => h) (by rfl) (by assumption) ?_ ?_
        rotate_left
        · (intro w hSw; (try dsimp only at hSw); go_simp; (try with_reducible rfl))
        simp only [Act.put, List.getElem_toArray, List.getElem_cons_succ, List.getElem_cons_zero, List.setIfInBounds_toArray, List.set_cons_zero, List.set_cons_succ]
        refine wpAnyH_pure (i := 5) (v := ?_) rfl (by kernel_rfl) (by kernel_rfl) (by kernel_rfl) (fun _ _ _ h => h) (by rfl) (by assumption) ?_ ?_
        rotate_left
        · (intro w hSw; (try dsimp only at hSw); go_simp; (try with_reducible rfl))
        simp only [Act.put, List.getElem_toArray, List.getElem_cons_succ, List.getElem_cons_zero, List.setIfInBounds_toArray, List.set_cons_zero, List.set_cons_succ]
        refine wpAnyH_pure (i := 6) (v := ?_) rfl (by kernel_rfl) (by kernel_rfl) (by kernel_rfl) (fun _ _ _ h => h) (by rfl) (by assumption) ?_ ?_
        rotate_left
        · (intro w hSw; (try dsimp only at hSw); go_simp; (try with_reducible rfl))
        simp only [Act.put, List.getElem_toArray, List.getElem_cons_succ, List.getElem_cons_zero, List.setIfInBounds_toArray, List.set_cons_zero, List.set_cons_succ]
        refine wpAnyH_pure (i := 7) (v := ?_) rfl (by kernel_rfl) (by kernel_rfl) (by kernel_rfl) (fun _ _ _ h => h) (by rfl) (by assumption) ?_ ?_
        rotate_left
        · (intro w hSw; (try dsimp only at hSw); go_simp; (try with_reducible rfl))
        simp only [Act.put, List.getElem_toArray, List.getElem_cons_succ, List.getElem_cons_zero, List.setIfInBounds_toArray, List.set_cons_zero, List.set_cons_succ]
        refine wpAnyH_pure (i := 8) (v := ?_) rfl (by kernel_rfl) (by kernel_rfl) (by kernel_rfl) (fun _ _ _ h => h) (by rfl) (by assumption) ?_ ?_
        rotate_left
        · (intro w hSw; (try dsimp only at hSw); go_simp; (try with_reducible rfl))
        simp only [Act.put, List.getElem_toArray, List.getElem_cons_succ, List.getElem_cons_zero, List.setIfInBounds_toArray, List.set_cons_zero, List.set_cons_succ]
        refine wpAnyH_pure (i := 9) (v := ?_) rfl (by kernel_rfl) (by kernel_rfl) (by kernel_rfl) (fun _ _ _ h => h) (by rfl) (by assumption) ?_ ?_
        rotate_left
        · (intro w hSw; (try dsimp only at hSw); go_simp; (try with_reducible rfl))
        simp only [Act.put, List.getElem_toArray, List.getElem_cons_succ, List.getElem_cons_zero, List.setIfInBounds_toArray, List.set_cons_zero, List.set_cons_succ]
        refine wpAnyH_pure (i := 10) (v := ?_) rfl (by kernel_rfl) (by kernel_rfl) (by kernel_rfl) (fun _ _ _ h => h) (by rfl) (by assumption) ?_ ?_
        rotate_left
        · (intro w hSw; (try dsimp only at hSw); go_simp; (try with_reducible rfl))
        simp only [Act.put, List.getElem_toArray, List.getElem_cons_succ, List.getElem_cons_zero, List.setIfInBounds_toArray, List.set_cons_zero, List.set_cons_succ]
        refine wpAnyH_pure (i := 11) (v := ?_) rfl (by kernel_rfl) (by kernel_rfl) (by kernel_rfl) (fun _ _ _ h => h) (by rfl) (by assumption) ?_ ?_
        rotate_left
        · (intro w hSw; (try dsimp only at hSw); go_simp; (try with_reducible rfl))
        simp only [Act.put, List.getElem_toArray, List.getElem_cons_succ, List.getElem_cons_zero, List.setIfInBounds_toArray, List.set_cons_zero, List.set_cons_succ]
        refine wpAnyH_pure (i := 12) (v := ?_) rfl (by kernel_rfl) (by kernel_rfl) (by kernel_rfl) (fun _ _ _ h => h) (by rfl) (by assumption) ?_ ?_
        rotate_left
        · (intro w hSw; (try dsimp only at hSw); go_simp; (try with_reducible rfl))
        simp only [Act.put, List.getElem_toArray, List.getElem_cons_succ, List.getElem_cons_zero, List.setIfInBounds_toArray, List.set_cons_zero, List.set_cons_succ]
        refine wpAnyH_pure (i := 13) (v := ?_) rfl (by kernel_rfl) (by kernel_rfl) (by kernel_rfl) (fun _ _ _ h => h) (by rfl) (by assumption) ?_ ?_
        rotate_left
        · (intro w hSw; (try dsimp only at hSw); go_simp; (try with_reducible rfl))
        simp only [Act.put, List.getElem_toArray, List.getElem_cons_succ, List.getElem_cons_zero, List.setIfInBounds_toArray, List.set_cons_zero, List.set_cons_succ]
        refine wpAnyH_done (by kernel_rfl) ?_ _
        clear w1'' wr2 wr3
        go_wp2
        go_roundw
        case rel => exact ⟨k + 1, by omega, by go_num, by rw [HST.out], by have := HB.out; (repeat' (first | (with_reducible exact Below.refl _ _) | (with_reducible assumption) | (with_reducible refine Below.alloc ?_ ?_ _) | (with_reducible refine Below.drew ?_) | (with_reducible refine below_drewN ?_ _) | (with_reducible refine Below.setCell ?_ ?_ _) | (with_reducible refine below_step (by with_reducible assumption) ?_ ?_) | (with_reducible exact Below.size (by with_reducible assumption)) | go_size)), by rw [heap_drew]; exact G0.out, by rw [heap_drew]; exact G1.out⟩
        case measure => simp [intOf]; omega
      · have hst : lk x y lag (k + 1) = lk x y lag k := by
          show lk x y lag k + _ = _
          rw [if_neg hin]; omega
        have hI : inB ((k : Int) + lag) 0 63 = false := by unfold inB; exact decide_eq_false hin
        have HST := Lib.hid hst
        clear hst hB hg0 hg1 hin hl
        generalize lk x y lag k = s at *
        go_wp2_with fail
        refine (isSample_any _ _).mono ?_
        rintro e w' ⟨rfl, rfl⟩
        rw [hI]
        clear w1'
        go_wp2
        go_roundw
        case rel => exact ⟨k + 1, by omega, by go_num, by rw [HST.out], HB.out, G0.out, G1.out⟩
        case measure => simp [intOf]; omega
    · have ek : k = 64 := by omega
      subst ek
      clear hg0 hg1
      go_wp2
      go_ret
      exact ⟨rfl, hB⟩
theorem bl_step (L : Int → Int) (s : Nat) : bl L (s + 1) = (let q := if L (-((s + 1 : Nat) : Int)) > (bl L s).2 then (-((s + 1 : Nat) : Int), L (-((s + 1 : Nat) : Int))) else bl L s
    if L ((s + 1 : Nat) : Int) > q.2 then (((s + 1 : Nat) : Int), L ((s + 1 : Nat) : Int)) else q) := rfl
def laE (x y : Nat → Int) (m : Int) : Int := frst [tE x 64, tE y 64, unl (inB m 0 32) 2]
set_option maxRecDepth 100000 in
set_option maxHeartbeats 2000000 in
theorem lagOf_err (x y : Nat → Int) (m : Int) (w : World) (hx : Hid (∀ k, k < 64 → (x k).natAbs < 2 ^ 24)) (hy : Hid (∀ k, k < 64 → (y k).natAbs < 2 ^ 24)) (h : laE x y m ≠ 0) :
    Calls Try.prog 70 #[.agg (tC x), .agg (tC y), .int .i64 m] w fun e w' => e = .returned (.tuple #[.int .i64 0, .int .i64 (laE x y m)]) ∧ Below w.heap.size w w' := by
  have HE := Lib.hid (show laE x y m = frst [tE x 64, tE y 64, unl (inB m 0 32) 2] from rfl)
  have hT : (laE x y m != 0) = true := by simpa using h
  have K1 := Lib.hid (fun W => traceError_any x W hx)
  have K2 := Lib.hid (fun W => traceError_any y W hy)
  have hc : (Try.prog.info? 26).map (·.size) = some (tC x).size := by rw [tC_size]; exact infoTrace
  have hd : (Try.prog.info? 26).map (·.size) = some (tC y).size := by rw [tC_size]; exact infoTrace
  have hC := Lib.hid hc
  have hD := Lib.hid hd
  clear hc hd
  generalize laE x y m = T at *
  generalize tC x = c at *
  generalize tC y = d at *
  generalize tE x 64 = ex at *
  generalize tE y 64 = ey at *
  go_enter Try.func70, Try.ntmps70
  go_wp2
  refine wp_region_held_drew (S := fun w' => w'.heap[w.heap.size]? = some (.cells (c) 26 (0, 0)) ∧ w'.heap[w.heap.size + 1]? = some (.cells (d) 26 (0, 0))) (by kernel_rfl) ?_ (fun hH1 => ?_)
  · (first | assumption | (refine ⟨?_, ?_⟩ <;> (first | assumption | ((repeat (first | assumption | (refine heap_alloc_at ?_; (first | rfl | (simp only [World.size_alloc, World.size_drew, World.size_setCell, size_drewN]; done))) | refine block_alloc ?_ | refine Buf.alloc ?_ _ | refine Buf.drew ?_ | refine Buf.setCell ?_ (by omega) _ _)); done) | (go_keep; done) | (simp [*, go_sem]; done))))
  refine wpAnyH_pure (i := 0) (v := ?_) rfl (by kernel_rfl) (by kernel_rfl) (by kernel_rfl) (fun _ _ _ h => h) (by rfl) (by assumption) ?_ ?_
  rotate_left
  · (intro w hSw; (try dsimp only at hSw); refine exec_load_arr 26 (p := .tmp 3) ?_ ?_ Try.underlying26 (hC.out) (by repeat (first | exact hSw | exact hSw.1 | replace hSw := hSw.2)) <;> rfl)
  simp only [Act.put, List.getElem_toArray, List.getElem_cons_succ, List.getElem_cons_zero, List.setIfInBounds_toArray, List.set_cons_zero, List.set_cons_succ]
  refine wpAnyH_pure (i := 2) (v := ?_) rfl (by kernel_rfl) (by kernel_rfl) (by kernel_rfl) (fun _ _ _ h => h) (by rfl) (by assumption) ?_ ?_
  rotate_left
  · (intro w hSw; (try dsimp only at hSw); refine exec_load_arr 26 (p := .tmp 4) ?_ ?_ Try.underlying26 (hD.out) (by repeat (first | exact hSw | exact hSw.1 | replace hSw := hSw.2)) <;> rfl)
  simp only [Act.put, List.getElem_toArray, List.getElem_cons_succ, List.getElem_cons_zero, List.setIfInBounds_toArray, List.set_cons_zero, List.set_cons_succ]
  refine wpAnyH_pure (i := 4) (v := ?_) rfl (by kernel_rfl) (by kernel_rfl) (by kernel_rfl) (fun _ _ _ h => h) (by rfl) (by assumption) ?_ ?_
  rotate_left
  · (intro w hSw; (try dsimp only at hSw); go_simp; (try with_reducible rfl))
  simp only [Act.put, List.getElem_toArray, List.getElem_cons_succ, List.getElem_cons_zero, List.setIfInBounds_toArray, List.set_cons_zero, List.set_cons_succ]
  refine wpAnyH_ready (rs := [1]) (by kernel_rfl) (by simp) ?_
  refine AllReadyH.cons rfl (fun Kq hKq => ?_) AllReadyH.nil
  go_simp
  refine (K1.out _).mono ?_
  (rintro e w1 ⟨rfl, hw1⟩)
  obtain ⟨hcw1, hfw1, hlw1, hmw1, hnw1⟩ := bcell3 hw1
  have hzw1 := hw1.size
  (try simp only [World.size_alloc, World.size_setCell, World.size_drew, size_drewN] at hzw1)
  have ca1_0 : w1.heap[w.heap.size]? = some (.cells (c) 26 (0, 0)) := block_below0 hw1 (by first | assumption | (repeat (first | assumption | (refine heap_alloc_at ?_; (first | rfl | (simp only [World.size_alloc, World.size_drew, World.size_setCell, size_drewN]; done))) | refine block_alloc ?_)))
  have cb1_0 : w1.heap[w.heap.size + 1]? = some (.cells (d) 26 (0, 0)) := block_below0 hw1 (by first | assumption | (repeat (first | assumption | (refine heap_alloc_at ?_; (first | rfl | (simp only [World.size_alloc, World.size_drew, World.size_setCell, size_drewN]; done))) | refine block_alloc ?_)))
  refine hKq.out _ _ ?_ (fun hH2 => ?_)
  · (first | assumption | (refine ⟨?_, ?_⟩ <;> (first | assumption | ((repeat (first | assumption | (refine heap_alloc_at ?_; (first | rfl | (simp only [World.size_alloc, World.size_drew, World.size_setCell, size_drewN]; done))) | refine block_alloc ?_ | refine Buf.alloc ?_ _ | refine Buf.drew ?_ | refine Buf.setCell ?_ (by omega) _ _)); done) | (go_keep; done) | (simp [*, go_sem]; done))))
  clear hKq Kq
  clear hH1
  refine wpAnyH_ready (rs := [3]) (by kernel_rfl) (by simp) ?_
  refine AllReadyH.cons rfl (fun Kq hKq => ?_) AllReadyH.nil
  go_simp
  refine (K2.out _).mono ?_
  (rintro e w3 ⟨rfl, hw3⟩)
  obtain ⟨hcw3, hfw3, hlw3, hmw3, hnw3⟩ := bcell3 hw3
  have hzw3 := hw3.size
  (try simp only [World.size_alloc, World.size_setCell, World.size_drew, size_drewN] at hzw3)
  have ca3_0 : w3.heap[w.heap.size]? = some (.cells (c) 26 (0, 0)) := block_below0 hw3 (by first | assumption | (repeat (first | assumption | (refine heap_alloc_at ?_; (first | rfl | (simp only [World.size_alloc, World.size_drew, World.size_setCell, size_drewN]; done))) | refine block_alloc ?_)))
  clear ca1_0
  have cb3_0 : w3.heap[w.heap.size + 1]? = some (.cells (d) 26 (0, 0)) := block_below0 hw3 (by first | assumption | (repeat (first | assumption | (refine heap_alloc_at ?_; (first | rfl | (simp only [World.size_alloc, World.size_drew, World.size_setCell, size_drewN]; done))) | refine block_alloc ?_)))
  clear cb1_0
  refine hKq.out _ _ ?_ (fun hH3 => ?_)
  · (first | assumption | (refine ⟨?_, ?_⟩ <;> (first | assumption | ((repeat (first | assumption | (refine heap_alloc_at ?_; (first | rfl | (simp only [World.size_alloc, World.size_drew, World.size_setCell, size_drewN]; done))) | refine block_alloc ?_ | refine Buf.alloc ?_ _ | refine Buf.drew ?_ | refine Buf.setCell ?_ (by omega) _ _)); done) | (go_keep; done) | (simp [*, go_sem]; done))))
  clear hKq Kq
  clear hH2
  refine wpAnyH_ready (rs := [5]) (by kernel_rfl) (by simp) ?_
  refine AllReadyH.cons rfl (fun Kq hKq => ?_) AllReadyH.nil
  go_simp
  refine (rangeError_any _ _ _ _).mono ?_
  (rintro e w' ⟨rfl, rfl⟩)
  refine hKq.out _ _ ?_ (fun hH4 => ?_)
  · (first | assumption | (refine ⟨?_, ?_⟩ <;> (first | assumption | ((repeat (first | assumption | (refine heap_alloc_at ?_; (first | rfl | (simp only [World.size_alloc, World.size_drew, World.size_setCell, size_drewN]; done))) | refine block_alloc ?_ | refine Buf.alloc ?_ _ | refine Buf.drew ?_ | refine Buf.setCell ?_ (by omega) _ _)); done) | (go_keep; done) | (simp [*, go_sem]; done))))
  clear hKq Kq
  clear hH3
  refine wpAnyH_ready (rs := [6]) (by kernel_rfl) (by simp) ?_
  refine AllReadyH.cons rfl (fun Kq hKq => ?_) AllReadyH.nil
  go_simp
  refine hKq.out _ _ ?_ (fun hH5 => ?_)
  · (first | assumption | (refine ⟨?_, ?_⟩ <;> (first | assumption | ((repeat (first | assumption | (refine heap_alloc_at ?_; (first | rfl | (simp only [World.size_alloc, World.size_drew, World.size_setCell, size_drewN]; done))) | refine block_alloc ?_ | refine Buf.alloc ?_ _ | refine Buf.drew ?_ | refine Buf.setCell ?_ (by omega) _ _)); done) | (go_keep; done) | (simp [*, go_sem]; done))))
  clear hKq Kq
  clear hH4
  refine wpAnyH_ready (rs := [7]) (by kernel_rfl) (by simp) ?_
  refine AllReadyH.cons rfl (fun Kq hKq => ?_) AllReadyH.nil
  go_simp
  apply Calls.mono
  focus ((apply first3 <;> exact cell_fresh _ _ _ _ _ _ (by first | rfl | simp) rfl); done)
  (rintro e w' ⟨rfl, rfl⟩)
  refine hKq.out _ _ ?_ (fun hH6 => ?_)
  · (first | assumption | (refine ⟨?_, ?_⟩ <;> (first | assumption | ((repeat (first | assumption | (refine heap_alloc_at ?_; (first | rfl | (simp only [World.size_alloc, World.size_drew, World.size_setCell, size_drewN]; done))) | refine block_alloc ?_ | refine Buf.alloc ?_ _ | refine Buf.drew ?_ | refine Buf.setCell ?_ (by omega) _ _)); done) | (go_keep; done) | (simp [*, go_sem]; done))))
  clear hKq Kq
  clear hH5
  refine wpAnyH_pure (i := 8) (v := ?_) rfl (by kernel_rfl) (by kernel_rfl) (by kernel_rfl) (fun _ _ _ h => h) (by rfl) (by assumption) ?_ ?_
  rotate_left
  · (intro w hSw; (try dsimp only at hSw); go_simp; (try with_reducible rfl))
  simp only [Act.put, List.getElem_toArray, List.getElem_cons_succ, List.getElem_cons_zero, List.setIfInBounds_toArray, List.set_cons_zero, List.set_cons_succ]
  refine wpAnyH_done (by kernel_rfl) ?_ _
  rw [← HE.out]
  go_wp2
  go_ret2
  exact ⟨rfl, by (repeat' (first | (with_reducible exact Below.refl _ _) | (with_reducible assumption) | (with_reducible refine Below.alloc ?_ ?_ _) | (with_reducible refine Below.drew ?_) | (with_reducible refine below_drewN ?_ _) | (with_reducible refine Below.setCell ?_ ?_ _) | (with_reducible refine below_step (by with_reducible assumption) ?_ ?_) | (with_reducible exact Below.size (by with_reducible assumption)) | go_size))⟩
/-- the lag and its sum within a round -/
def blq (L : Int → Int) (s : Nat) : Nat → Int × Int
  | 0 => bl L s
  | 1 => if L (-((s + 1 : Nat) : Int)) > (bl L s).2 then (-((s + 1 : Nat) : Int), L (-((s + 1 : Nat) : Int))) else bl L s
  | _ => bl L (s + 1)
def lgj (s : Nat) : Nat → Int
  | 0 => -((s + 1 : Nat) : Int)
  | _ => ((s + 1 : Nat) : Int)
theorem blq_step (L : Int → Int) (s j : Nat) (h : j < 2) : blq L s (j + 1) = if L (lgj s j) > (blq L s j).2 then (lgj s j, L (lgj s j)) else blq L s j := by
  match j, h with
  | 0, _ => rfl
  | 1, _ => rfl
theorem index_two {a b : Value} {j : Nat} (hj : j < 2) (w : World) : (Instr.index 36 (.agg #[a, b]) (.int .i64 (j : Int))).run Try.prog w = .ok (if j = 0 then a else b) w := by
  match j, hj with
  | 0, _ => simp [Instr.index, go_sem]
  | 1, _ => simp [Instr.index, go_sem]
set_option maxRecDepth 100000 in
set_option maxHeartbeats 4000000 in
theorem lagOf_ok (x y : Nat → Int) (m : Nat) (w : World) (hx : Hid (∀ k, k < 64 → (x k).natAbs ≤ 2047)) (hy : Hid (∀ k, k < 64 → (y k).natAbs ≤ 2047)) (hm : m ≤ 32) :
    Calls Try.prog 70 #[.agg (tC x), .agg (tC y), .int .i64 (m : Int)] w fun e w' => e = .returned (.tuple #[.int .i64 (bl (fun l => lk x y l 64) m).1, .int .i64 0]) ∧ Below w.heap.size w w' := by
  have K1 := Lib.hid (fun W => traceError_ok x W hx)
  have K2 := Lib.hid (fun W => traceError_ok y W hy)
  have KL := Lib.hid (fun l W (hl : Int.natAbs l ≤ 1000) => likeness_ok x y l W hx hy hl)
  have hc : (Try.prog.info? 26).map (·.size) = some (tC x).size := by rw [tC_size]; exact infoTrace
  have hd : (Try.prog.info? 26).map (·.size) = some (tC y).size := by rw [tC_size]; exact infoTrace
  have hC := Lib.hid hc
  have hD := Lib.hid hd
  clear hc hd
  have hI : inB (m : Int) 0 32 = true := by unfold inB; exact decide_eq_true (by omega)
  have HF := Lib.hid (show frst [0, 0, unl (inB (m : Int) 0 32) 2] = 0 by rw [hI]; rfl)
  clear hI
  change Hid (∀ l W, Int.natAbs l ≤ 1000 → Calls Try.prog 142 _ _ fun e w' => e = .returned (.int .i64 ((fun l => lk x y l 64) l)) ∧ _) at KL
  generalize (fun l => lk x y l 64) = L at *
  generalize tC x = c at *
  generalize tC y = d at *
  go_enter Try.func70, Try.ntmps70
  go_wp2
  refine wp_region_held_drew (S := fun w' => w'.heap[w.heap.size]? = some (.cells (c) 26 (0, 0)) ∧ w'.heap[w.heap.size + 1]? = some (.cells (d) 26 (0, 0))) (by kernel_rfl) ?_ (fun hH1 => ?_)
  · (first | assumption | (refine ⟨?_, ?_⟩ <;> (first | assumption | ((repeat (first | assumption | (refine heap_alloc_at ?_; (first | rfl | (simp only [World.size_alloc, World.size_drew, World.size_setCell, size_drewN]; done))) | refine block_alloc ?_ | refine Buf.alloc ?_ _ | refine Buf.drew ?_ | refine Buf.setCell ?_ (by omega) _ _)); done) | (go_keep; done) | (simp [*, go_sem]; done))))
  refine wpAnyH_pure (i := 0) (v := ?_) rfl (by kernel_rfl) (by kernel_rfl) (by kernel_rfl) (fun _ _ _ h => h) (by rfl) (by assumption) ?_ ?_
  rotate_left
  · (intro w hSw; (try dsimp only at hSw); refine exec_load_arr 26 (p := .tmp 3) ?_ ?_ Try.underlying26 (hC.out) (by repeat (first | exact hSw | exact hSw.1 | replace hSw := hSw.2)) <;> rfl)
  simp only [Act.put, List.getElem_toArray, List.getElem_cons_succ, List.getElem_cons_zero, List.setIfInBounds_toArray, List.set_cons_zero, List.set_cons_succ]
  refine wpAnyH_pure (i := 2) (v := ?_) rfl (by kernel_rfl) (by kernel_rfl) (by kernel_rfl) (fun _ _ _ h => h) (by rfl) (by assumption) ?_ ?_
  rotate_left
  · (intro w hSw; (try dsimp only at hSw); refine exec_load_arr 26 (p := .tmp 4) ?_ ?_ Try.underlying26 (hD.out) (by repeat (first | exact hSw | exact hSw.1 | replace hSw := hSw.2)) <;> rfl)
  simp only [Act.put, List.getElem_toArray, List.getElem_cons_succ, List.getElem_cons_zero, List.setIfInBounds_toArray, List.set_cons_zero, List.set_cons_succ]
  refine wpAnyH_pure (i := 4) (v := ?_) rfl (by kernel_rfl) (by kernel_rfl) (by kernel_rfl) (fun _ _ _ h => h) (by rfl) (by assumption) ?_ ?_
  rotate_left
  · (intro w hSw; (try dsimp only at hSw); go_simp; (try with_reducible rfl))
  simp only [Act.put, List.getElem_toArray, List.getElem_cons_succ, List.getElem_cons_zero, List.setIfInBounds_toArray, List.set_cons_zero, List.set_cons_succ]
  refine wpAnyH_ready (rs := [1]) (by kernel_rfl) (by simp) ?_
  refine AllReadyH.cons rfl (fun Kq hKq => ?_) AllReadyH.nil
  go_simp
  refine (K1.out _).mono ?_
  (rintro e w1 ⟨rfl, hw1⟩)
  obtain ⟨hcw1, hfw1, hlw1, hmw1, hnw1⟩ := bcell3 hw1
  have hzw1 := hw1.size
  (try simp only [World.size_alloc, World.size_setCell, World.size_drew, size_drewN] at hzw1)
  have ca1_0 : w1.heap[w.heap.size]? = some (.cells (c) 26 (0, 0)) := block_below0 hw1 (by first | assumption | (repeat (first | assumption | (refine heap_alloc_at ?_; (first | rfl | (simp only [World.size_alloc, World.size_drew, World.size_setCell, size_drewN]; done))) | refine block_alloc ?_)))
  have cb1_0 : w1.heap[w.heap.size + 1]? = some (.cells (d) 26 (0, 0)) := block_below0 hw1 (by first | assumption | (repeat (first | assumption | (refine heap_alloc_at ?_; (first | rfl | (simp only [World.size_alloc, World.size_drew, World.size_setCell, size_drewN]; done))) | refine block_alloc ?_)))
  refine hKq.out _ _ ?_ (fun hH2 => ?_)
  · (first | assumption | (refine ⟨?_, ?_⟩ <;> (first | assumption | ((repeat (first | assumption | (refine heap_alloc_at ?_; (first | rfl | (simp only [World.size_alloc, World.size_drew, World.size_setCell, size_drewN]; done))) | refine block_alloc ?_ | refine Buf.alloc ?_ _ | refine Buf.drew ?_ | refine Buf.setCell ?_ (by omega) _ _)); done) | (go_keep; done) | (simp [*, go_sem]; done))))
  clear hKq Kq
  clear hH1
  refine wpAnyH_ready (rs := [3]) (by kernel_rfl) (by simp) ?_
  refine AllReadyH.cons rfl (fun Kq hKq => ?_) AllReadyH.nil
  go_simp
  refine (K2.out _).mono ?_
  (rintro e w3 ⟨rfl, hw3⟩)
  obtain ⟨hcw3, hfw3, hlw3, hmw3, hnw3⟩ := bcell3 hw3
  have hzw3 := hw3.size
  (try simp only [World.size_alloc, World.size_setCell, World.size_drew, size_drewN] at hzw3)
  have ca3_0 : w3.heap[w.heap.size]? = some (.cells (c) 26 (0, 0)) := block_below0 hw3 (by first | assumption | (repeat (first | assumption | (refine heap_alloc_at ?_; (first | rfl | (simp only [World.size_alloc, World.size_drew, World.size_setCell, size_drewN]; done))) | refine block_alloc ?_)))
  clear ca1_0
  have cb3_0 : w3.heap[w.heap.size + 1]? = some (.cells (d) 26 (0, 0)) := block_below0 hw3 (by first | assumption | (repeat (first | assumption | (refine heap_alloc_at ?_; (first | rfl | (simp only [World.size_alloc, World.size_drew, World.size_setCell, size_drewN]; done))) | refine block_alloc ?_)))
  clear cb1_0
  refine hKq.out _ _ ?_ (fun hH3 => ?_)
  · (first | assumption | (refine ⟨?_, ?_⟩ <;> (first | assumption | ((repeat (first | assumption | (refine heap_alloc_at ?_; (first | rfl | (simp only [World.size_alloc, World.size_drew, World.size_setCell, size_drewN]; done))) | refine block_alloc ?_ | refine Buf.alloc ?_ _ | refine Buf.drew ?_ | refine Buf.setCell ?_ (by omega) _ _)); done) | (go_keep; done) | (simp [*, go_sem]; done))))
  clear hKq Kq
  clear hH2
  refine wpAnyH_ready (rs := [5]) (by kernel_rfl) (by simp) ?_
  refine AllReadyH.cons rfl (fun Kq hKq => ?_) AllReadyH.nil
  go_simp
  refine (rangeError_any _ _ _ _).mono ?_
  (rintro e w' ⟨rfl, rfl⟩)
  refine hKq.out _ _ ?_ (fun hH4 => ?_)
  · (first | assumption | (refine ⟨?_, ?_⟩ <;> (first | assumption | ((repeat (first | assumption | (refine heap_alloc_at ?_; (first | rfl | (simp only [World.size_alloc, World.size_drew, World.size_setCell, size_drewN]; done))) | refine block_alloc ?_ | refine Buf.alloc ?_ _ | refine Buf.drew ?_ | refine Buf.setCell ?_ (by omega) _ _)); done) | (go_keep; done) | (simp [*, go_sem]; done))))
  clear hKq Kq
  clear hH3
  refine wpAnyH_ready (rs := [6]) (by kernel_rfl) (by simp) ?_
  refine AllReadyH.cons rfl (fun Kq hKq => ?_) AllReadyH.nil
  go_simp
  refine hKq.out _ _ ?_ (fun hH5 => ?_)
  · (first | assumption | (refine ⟨?_, ?_⟩ <;> (first | assumption | ((repeat (first | assumption | (refine heap_alloc_at ?_; (first | rfl | (simp only [World.size_alloc, World.size_drew, World.size_setCell, size_drewN]; done))) | refine block_alloc ?_ | refine Buf.alloc ?_ _ | refine Buf.drew ?_ | refine Buf.setCell ?_ (by omega) _ _)); done) | (go_keep; done) | (simp [*, go_sem]; done))))
  clear hKq Kq
  clear hH4
  refine wpAnyH_ready (rs := [7]) (by kernel_rfl) (by simp) ?_
  refine AllReadyH.cons rfl (fun Kq hKq => ?_) AllReadyH.nil
  go_simp
  apply Calls.mono
  focus ((apply first3 <;> exact cell_fresh _ _ _ _ _ _ (by first | rfl | simp) rfl); done)
  (rintro e w' ⟨rfl, rfl⟩)
  refine hKq.out _ _ ?_ (fun hH6 => ?_)
  · (first | assumption | (refine ⟨?_, ?_⟩ <;> (first | assumption | ((repeat (first | assumption | (refine heap_alloc_at ?_; (first | rfl | (simp only [World.size_alloc, World.size_drew, World.size_setCell, size_drewN]; done))) | refine block_alloc ?_ | refine Buf.alloc ?_ _ | refine Buf.drew ?_ | refine Buf.setCell ?_ (by omega) _ _)); done) | (go_keep; done) | (simp [*, go_sem]; done))))
  clear hKq Kq
  clear hH5
  refine wpAnyH_pure (i := 8) (v := ?_) rfl (by kernel_rfl) (by kernel_rfl) (by kernel_rfl) (fun _ _ _ h => h) (by rfl) (by assumption) ?_ ?_
  rotate_left
  · (intro w hSw; (try dsimp only at hSw); go_simp; (try with_reducible rfl))
  simp only [Act.put, List.getElem_toArray, List.getElem_cons_succ, List.getElem_cons_zero, List.setIfInBounds_toArray, List.set_cons_zero, List.set_cons_succ]
  refine wpAnyH_done (by kernel_rfl) ?_ _
  rw [HF.out]
  first | refine abs_calls (fun w4 hw4 => ?_) | refine abs_last (fun w4 hw4 => ?_)
  have hw40 : Below w.heap.size w w4 := by rw [hw4]; (repeat' (first | (with_reducible exact Below.refl _ _) | (with_reducible assumption) | (with_reducible refine Below.alloc ?_ ?_ _) | (with_reducible refine Below.drew ?_) | (with_reducible refine below_drewN ?_ _) | (with_reducible refine Below.setCell ?_ ?_ _) | (with_reducible refine below_step (by with_reducible assumption) ?_ ?_) | (with_reducible exact Below.size (by with_reducible assumption)) | go_size))
  have hzz4 := hw40.size
  have ca4_0 : w4.heap[w.heap.size]? = some (.cells (c) 26 (0, 0)) := by rw [hw4]; (repeat (first | assumption | (refine heap_alloc_at ?_; (first | rfl | (simp only [World.size_alloc, World.size_drew, World.size_setCell, size_drewN]; done))) | refine block_alloc ?_))
  have cb4_0 : w4.heap[w.heap.size + 1]? = some (.cells (d) 26 (0, 0)) := by rw [hw4]; (repeat (first | assumption | (refine heap_alloc_at ?_; (first | rfl | (simp only [World.size_alloc, World.size_drew, World.size_setCell, size_drewN]; done))) | refine block_alloc ?_))
  clear ca3_0
  clear cb3_0
  clear hw4
  go_wp2_with (first | (refine wpl_load rfl 26 26 _ w.heap.size c (0, 0) _ rfl rfl Try.underlying26 rfl hC.out ca4_0 ?_) | (refine wpl_load rfl 26 26 _ (w.heap.size + 1) d (0, 0) _ rfl rfl Try.underlying26 rfl hD.out cb4_0 ?_))
  go_wp2_with fail; (refine (KL.out 0 _ (by decide)).mono ?_; rintro e w5 ⟨rfl, hw5⟩; obtain ⟨hcw5, hfw5, hlw5, hmw5, hnw5⟩ := bcell3 hw5; have hzw5 := hw5.size; (try simp only [World.size_alloc, World.size_setCell, World.size_drew, size_drewN] at hzw5))
  have ca5_0 : w5.heap[w.heap.size]? = some (.cells (c) 26 (0, 0)) := block_below0 hw5 (by first | assumption | (repeat (first | assumption | (refine heap_alloc_at ?_; (first | rfl | (simp only [World.size_alloc, World.size_drew, World.size_setCell, size_drewN]; done))) | refine block_alloc ?_)))
  clear ca4_0
  have cb5_0 : w5.heap[w.heap.size + 1]? = some (.cells (d) 26 (0, 0)) := block_below0 hw5 (by first | assumption | (repeat (first | assumption | (refine heap_alloc_at ?_; (first | rfl | (simp only [World.size_alloc, World.size_drew, World.size_setCell, size_drewN]; done))) | refine block_alloc ?_)))
  clear cb4_0
  have hb5 : Below w.heap.size w w5 := by (repeat' (first | (with_reducible exact Below.refl _ _) | (with_reducible assumption) | (with_reducible refine Below.alloc ?_ ?_ _) | (with_reducible refine Below.drew ?_) | (with_reducible refine below_drewN ?_ _) | (with_reducible refine Below.setCell ?_ ?_ _) | (with_reducible refine below_step (by with_reducible assumption) ?_ ?_) | (with_reducible exact Below.size (by with_reducible assumption)) | go_size))
  clear hcw1 hfw1 hlw1 hmw1 hnw1 hzw1 hcw3 hfw3 hlw3 hmw3 hnw3 hzw3 hcw5 hfw5 hlw5 hmw5 hnw5 hzw5 hw1 hw3 hw5 hw40
  go_wp2
  go_loopw [9, 10, 11] (fun b g i wr => ∃ s : Nat, s ≤ m ∧ i = .int .i64 ((s : Int) + 1) ∧ b = .int .i64 (bl L s).1 ∧ g = .int .i64 (bl L s).2 ∧ Below w.heap.size w wr ∧ wr.heap[w.heap.size]? = some (.cells c 26 (0, 0)) ∧ wr.heap[w.heap.size + 1]? = some (.cells d 26 (0, 0))) (fun _ _ i _ => m + 1 - (intOf i).toNat)
  case atStart => exact ⟨0, Nat.zero_le _, rfl, rfl, rfl, hb5, ca5_0, cb5_0⟩
  case round =>
    clear ca5_0 cb5_0 hb5
    obtain ⟨s, hs, rfl, rfl, rfl, hB, hg0, hg1⟩ := hrel
    by_cases hlt : s < m
    · have e1 : ((s : Int) + 1) ≤ (m : Int) := by omega
      have w1' : IntKind.i64.wrap (-((s : Int) + 1)) = -((s : Int) + 1) := IntWalk.i64_in _ (by omega)
      obtain ⟨wo, rfl⟩ : ∃ wo : World, wo = wr := ⟨_, rfl⟩
      go_wp2
      have HBo := Lib.hid hB
      have HS0 := Lib.hid hg0
      have HS1 := Lib.hid hg1
      go_loopw [9, 10, 38] (fun b g i wr => ∃ j : Nat, j ≤ 2 ∧ i = .int .i64 (j : Int) ∧ b = .int .i64 (blq L s j).1 ∧ g = .int .i64 (blq L s j).2 ∧ Below w.heap.size w wr ∧ wr.heap[w.heap.size]? = some (.cells c 26 (0, 0)) ∧ wr.heap[w.heap.size + 1]? = some (.cells d 26 (0, 0))) (fun _ _ i _ => 2 - (intOf i).toNat)
      case atStart => exact ⟨0, Nat.zero_le _, rfl, rfl, rfl, HBo.out, HS0.out, HS1.out⟩
      case round =>
        clear hB hg0 hg1 HBo HS0 HS1
        obtain ⟨j, hj, rfl, rfl, rfl, hB, hg0, hg1⟩ := hrel
        by_cases hjl : j < 2
        · have hix : ∀ w, _ := fun w => index_two (a := .int .i64 (-((s : Int) + 1))) (b := .int .i64 ((s : Int) + 1)) hjl w
          have hlj : (if j = 0 then Value.int .i64 (-((s : Int) + 1)) else .int .i64 ((s : Int) + 1)) = .int .i64 (lgj s j) := by
            match j, hjl with
            | 0, _ => rfl
            | 1, _ => rfl
          rw [hlj] at hix
          have hlb : (lgj s j).natAbs ≤ 1000 := by
            match j, hjl with
            | 0, _ => show Int.natAbs (-((s + 1 : Nat) : Int)) ≤ _; omega
            | 1, _ => show Int.natAbs ((s + 1 : Nat) : Int) ≤ _; omega
          have HST := Lib.hid (blq_step L s j hjl)
          have K := Lib.hid (fun W => KL.out (lgj s j) W hlb)
          have e2 : (j : Int) < 2 := by omega
          clear hlj hlb
          generalize lgj s j = l at *
          generalize blq L s j = bq at *
          obtain ⟨bb, gg⟩ := bq
          simp only at HST
          by_cases hgt : L l > gg
          · have HN := Lib.hid (show blq L s (j + 1) = (l, L l) by rw [HST.out]; exact if_pos hgt)
            clear HST
            go_wp2_with (first | (refine wpl_load rfl 26 26 _ w.heap.size c (0, 0) _ rfl rfl Try.underlying26 rfl hC.out hg0 ?_) | (refine wpl_load rfl 26 26 _ (w.heap.size + 1) d (0, 0) _ rfl rfl Try.underlying26 rfl hD.out hg1 ?_))
            refine (K.out _).mono ?_
            rintro e w6 ⟨rfl, hw6⟩
            have G0 := Lib.hid (block_below0 hw6 hg0)
            have G1 := Lib.hid (block_below0 hw6 hg1)
            have HB := Lib.hid (below_step hw6 hB hB.size)
            clear hw6 hB hg0 hg1
            generalize L l = q at *
            go_wp2
            go_roundw
            case rel => exact ⟨j + 1, by omega, by go_num, by rw [HN.out], by rw [HN.out], HB.out, G0.out, G1.out⟩
            case measure => simp [intOf]; omega
          · have HN := Lib.hid (show blq L s (j + 1) = (bb, gg) by rw [HST.out]; exact if_neg hgt)
            clear HST
            go_wp2_with (first | (refine wpl_load rfl 26 26 _ w.heap.size c (0, 0) _ rfl rfl Try.underlying26 rfl hC.out hg0 ?_) | (refine wpl_load rfl 26 26 _ (w.heap.size + 1) d (0, 0) _ rfl rfl Try.underlying26 rfl hD.out hg1 ?_))
            refine (K.out _).mono ?_
            rintro e w6 ⟨rfl, hw6⟩
            have G0 := Lib.hid (block_below0 hw6 hg0)
            have G1 := Lib.hid (block_below0 hw6 hg1)
            have HB := Lib.hid (below_step hw6 hB hB.size)
            clear hw6 hB hg0 hg1
            generalize L l = q at *
            have hgd : decide (gg < q) = false := decide_eq_false (by omega)
            clear hgt
            go_wp2
            go_roundw
            case rel => exact ⟨j + 1, by omega, by go_num, by rw [HN.out], by rw [HN.out], HB.out, G0.out, G1.out⟩
            case measure => simp [intOf]; omega
        · obtain rfl : j = 2 := by omega
          have HB := Lib.hid hB
          have G0 := Lib.hid hg0
          have G1 := Lib.hid hg1
          have HN := Lib.hid (show blq L s 2 = bl L (s + 1) from rfl)
          clear hB hg0 hg1
          generalize blq L s 2 = bb at *
          go_wp2
          go_roundw
          case rel => exact ⟨s + 1, by omega, by go_num, by rw [HN.out], by rw [HN.out], HB.out, G0.out, G1.out⟩
          case measure => simp [intOf]; omega
    · obtain rfl : s = m := by omega
      have e1 : ¬ ((s : Int) + 1) ≤ (s : Int) := by omega
      have HB := Lib.hid hB
      clear hB hg0 hg1
      go_wp2
      go_ret2
      exact ⟨rfl, HB.out⟩
end Go.Proofs.Ythgnemkfaiejbaa
