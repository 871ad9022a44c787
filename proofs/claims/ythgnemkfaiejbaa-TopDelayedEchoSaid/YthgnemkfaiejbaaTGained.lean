/-
  GAINED: with errors and without.
-/
import Derived.Test.YthgnemkfaiejbaaTGaind
import Derived.Test.YthgnemkfaiejbaaTClr
set_option linter.unusedVariables false
set_option linter.unusedSimpArgs false
namespace Go.Proofs.Ythgnemkfaiejbaa
open Go.RowKit

def gdE (x : Nat → Int) (num den : Int) : Int := frst [tE x 64, gnE num den]
set_option maxRecDepth 100000 in
set_option maxHeartbeats 2000000 in
theorem gained_err (x : Nat → Int) (num den : Int) (w : World) (hx : Hid (∀ k, k < 64 → (x k).natAbs < 2 ^ 24)) (hn : in64 num) (hd : in64 den) (h : gdE x num den ≠ 0) :
    Calls Try.prog 56 #[.agg (tC x), .agg #[.int .i64 num, .int .i64 den]] w fun e w' => e = .returned (.tuple #[.agg (tC fun _ => 0), .int .i64 0, .int .i64 (gdE x num den)]) ∧ Below w.heap.size w w' := by
  have KT := Lib.hid (fun W => traceError_any x W hx)
  have KG := Lib.hid (fun W => gainError_any num den W hn hd)
  have hT : (gdE x num den != 0) = true := by simpa using h
  have HE := Lib.hid (show gdE x num den = frst [tE x 64, gnE num den] from rfl)
  have hs := Lib.hid (tC_size x)
  have hs0 := Lib.hid (tC_size fun _ => 0)
  have ho0 := Lib.hid (tC_one fun _ => 0)
  have HZ := Lib.hid zero_trace
  have hinT : (Try.prog.info? 26).map (·.size) = some (tC x).size := by rw [hs.out]; exact infoTrace
  clear h hn hd
  generalize gdE x num den = E at *
  generalize gnE num den = G at *
  generalize tE x 64 = F at *
  generalize tC x = c at *
  generalize (tC fun _ => 0) = z at *
  go_enter Try.func56, Try.ntmps56
  go_wp2_with (refine wpl_alloc rfl 26 z rfl (HZ.out _) ?_)
  first | refine abs_calls (fun w1 hw1 => ?_) | refine abs_last (fun w1 hw1 => ?_)
  have hw10 : Below w.heap.size w w1 := by rw [hw1]; (repeat' (first | (with_reducible exact Below.refl _ _) | (with_reducible assumption) | (with_reducible refine Below.alloc ?_ ?_ _) | (with_reducible refine Below.drew ?_) | (with_reducible refine below_drewN ?_ _) | (with_reducible refine Below.setCell ?_ ?_ _) | (with_reducible refine below_step (by with_reducible assumption) ?_ ?_) | (with_reducible exact Below.size (by with_reducible assumption)) | go_size))
  have hzz1 := hw10.size
  have ca1_0 : w1.heap[w.heap.size]? = some (.cells (c) 26 (0, 0)) := by rw [hw1]; (repeat (first | assumption | (refine heap_alloc_at ?_; (first | rfl | (simp only [World.size_alloc, World.size_drew, World.size_setCell, size_drewN]; done))) | refine block_alloc ?_))
  have cg1_0 : w1.cell? ⟨w.heap.size + 1, 0, none⟩ = some (.int .i64 (num)) := by (first | (rw [hw1]; assumption) | (simp [go_sem, *]; done))
  have cg1_1 : w1.cell? ⟨w.heap.size + 1, 1, none⟩ = some (.int .i64 (den)) := by (first | (rw [hw1]; assumption) | (simp [go_sem, *]; done))
  have cr1_0 : w1.heap[w.heap.size + 1 + 1]? = some (.cells (z) 26 (0, 0)) := by rw [hw1]; (repeat (first | assumption | (refine heap_alloc_at ?_; (first | rfl | (simp only [World.size_alloc, World.size_drew, World.size_setCell, size_drewN]; done))) | refine block_alloc ?_))
  have hz10 : w.heap.size < w1.heap.size := by (first | (rw [hw1]; simp; omega) | (rw [hw1]; simp; done) | (rw [hw1]; omega))
  have hz11 : w.heap.size + 1 < w1.heap.size := by (first | (rw [hw1]; simp; omega) | (rw [hw1]; simp; done) | (rw [hw1]; omega))
  have hz12 : w.heap.size + 1 + 1 < w1.heap.size := by (first | (rw [hw1]; simp; omega) | (rw [hw1]; simp; done) | (rw [hw1]; omega))
  clear hw1
  refine wp_region_held_drew (S := fun w' => w'.heap[w.heap.size]? = some (.cells (c) 26 (0, 0)) ∧ w'.heap[w.heap.size + 1 + 1]? = some (.cells (z) 26 (0, 0)) ∧ w'.cell? ⟨w.heap.size + 1, 0, none⟩ = some (.int .i64 (num)) ∧ w'.cell? ⟨w.heap.size + 1, 1, none⟩ = some (.int .i64 (den))) (by kernel_rfl) ?_ (fun hH1 => ?_)
  · (first | assumption | (refine ⟨?_, ?_, ?_, ?_⟩ <;> (first | assumption | ((repeat (first | assumption | (refine heap_alloc_at ?_; (first | rfl | (simp only [World.size_alloc, World.size_drew, World.size_setCell, size_drewN]; done))) | refine block_alloc ?_ | refine Buf.alloc ?_ _ | refine Buf.drew ?_ | refine Buf.setCell ?_ (by omega) _ _)); done) | (go_keep; done) | (simp [*, go_sem]; done))))
  refine wpAnyH_pure (i := 0) (v := ?_) rfl (by kernel_rfl) (by kernel_rfl) (by kernel_rfl) (fun _ _ _ h => h) (by rfl) (by assumption) ?_ ?_
  rotate_left
  · (intro w hSw; (try dsimp only at hSw); refine exec_load_arr 26 (p := .tmp 2) ?_ ?_ Try.underlying26 (hinT) (by repeat (first | exact hSw | exact hSw.1 | replace hSw := hSw.2)) <;> rfl)
  simp only [Act.put, List.getElem_toArray, List.getElem_cons_succ, List.getElem_cons_zero, List.setIfInBounds_toArray, List.set_cons_zero, List.set_cons_succ]
  refine wpAnyH_pure (i := 2) (v := ?_) rfl (by kernel_rfl) (by kernel_rfl) (by kernel_rfl) (fun _ _ _ h => h) (by rfl) (by assumption) ?_ ?_
  rotate_left
  · (intro w hSw; (try dsimp only at hSw); go_simp; (try with_reducible rfl))
  simp only [Act.put, List.getElem_toArray, List.getElem_cons_succ, List.getElem_cons_zero, List.setIfInBounds_toArray, List.set_cons_zero, List.set_cons_succ]
  refine wpAnyH_ready (rs := [1]) (by kernel_rfl) (by simp) ?_
  refine AllReadyH.cons rfl (fun Kq hKq => ?_) AllReadyH.nil
  go_simp
  refine (KT.out _).mono ?_
  (rintro e w2 ⟨rfl, hw2⟩)
  obtain ⟨hcw2, hfw2, hlw2, hmw2, hnw2⟩ := bcell3 hw2
  have hzw2 := hw2.size
  (try simp only [World.size_alloc, World.size_setCell, World.size_drew, size_drewN] at hzw2)
  have ca2_0 : w2.heap[w.heap.size]? = some (.cells (c) 26 (0, 0)) := block_below0 hw2 (by first | assumption | (repeat (first | assumption | (refine heap_alloc_at ?_; (first | rfl | (simp only [World.size_alloc, World.size_drew, World.size_setCell, size_drewN]; done))) | refine block_alloc ?_)))
  clear ca1_0
  have cg2_0 : w2.cell? ⟨w.heap.size + 1, 0, none⟩ = some (.int .i64 (num)) := (hcw2 (w.heap.size + 1) (0) (by first | omega | (simp only [World.size_alloc, World.size_drew, World.size_setCell, size_drewN]; omega))).trans (by first | assumption | (simp [go_sem, *]; done)); have cg2_1 : w2.cell? ⟨w.heap.size + 1, 1, none⟩ = some (.int .i64 (den)) := (hcw2 (w.heap.size + 1) (1) (by first | omega | (simp only [World.size_alloc, World.size_drew, World.size_setCell, size_drewN]; omega))).trans (by first | assumption | (simp [go_sem, *]; done)); have og2 : w.heap.size + 1 < w2.heap.size := (by omega)
  clear cg1_0 cg1_1
  have cr2_0 : w2.heap[w.heap.size + 1 + 1]? = some (.cells (z) 26 (0, 0)) := block_below0 hw2 (by first | assumption | (repeat (first | assumption | (refine heap_alloc_at ?_; (first | rfl | (simp only [World.size_alloc, World.size_drew, World.size_setCell, size_drewN]; done))) | refine block_alloc ?_)))
  clear cr1_0
  clear hcw2 hfw2 hlw2 hmw2 hnw2
  refine hKq.out _ _ ?_ (fun hH2 => ?_)
  · (first | assumption | (refine ⟨?_, ?_, ?_, ?_⟩ <;> (first | assumption | ((repeat (first | assumption | (refine heap_alloc_at ?_; (first | rfl | (simp only [World.size_alloc, World.size_drew, World.size_setCell, size_drewN]; done))) | refine block_alloc ?_ | refine Buf.alloc ?_ _ | refine Buf.drew ?_ | refine Buf.setCell ?_ (by omega) _ _)); done) | (go_keep; done) | (simp [*, go_sem]; done))))
  clear hKq Kq
  clear hH1
  refine wpAnyH_ready (rs := [3]) (by kernel_rfl) (by simp) ?_
  refine AllReadyH.cons rfl (fun Kq hKq => ?_) AllReadyH.nil
  go_simp
  refine (KG.out _).mono ?_
  (rintro e w3 ⟨rfl, hw3⟩)
  obtain ⟨hcw3, hfw3, hlw3, hmw3, hnw3⟩ := bcell3 hw3
  have hzw3 := hw3.size
  (try simp only [World.size_alloc, World.size_setCell, World.size_drew, size_drewN] at hzw3)
  have ca3_0 : w3.heap[w.heap.size]? = some (.cells (c) 26 (0, 0)) := block_below0 hw3 (by first | assumption | (repeat (first | assumption | (refine heap_alloc_at ?_; (first | rfl | (simp only [World.size_alloc, World.size_drew, World.size_setCell, size_drewN]; done))) | refine block_alloc ?_)))
  clear ca2_0
  have cg3_0 : w3.cell? ⟨w.heap.size + 1, 0, none⟩ = some (.int .i64 (num)) := (hcw3 (w.heap.size + 1) (0) (by first | omega | (simp only [World.size_alloc, World.size_drew, World.size_setCell, size_drewN]; omega))).trans (by first | assumption | (simp [go_sem, *]; done)); have cg3_1 : w3.cell? ⟨w.heap.size + 1, 1, none⟩ = some (.int .i64 (den)) := (hcw3 (w.heap.size + 1) (1) (by first | omega | (simp only [World.size_alloc, World.size_drew, World.size_setCell, size_drewN]; omega))).trans (by first | assumption | (simp [go_sem, *]; done)); have og3 : w.heap.size + 1 < w3.heap.size := (by omega)
  clear cg2_0 cg2_1
  have cr3_0 : w3.heap[w.heap.size + 1 + 1]? = some (.cells (z) 26 (0, 0)) := block_below0 hw3 (by first | assumption | (repeat (first | assumption | (refine heap_alloc_at ?_; (first | rfl | (simp only [World.size_alloc, World.size_drew, World.size_setCell, size_drewN]; done))) | refine block_alloc ?_)))
  clear cr2_0
  clear hcw3 hfw3 hlw3 hmw3 hnw3
  refine hKq.out _ _ ?_ (fun hH3 => ?_)
  · (first | assumption | (refine ⟨?_, ?_, ?_, ?_⟩ <;> (first | assumption | ((repeat (first | assumption | (refine heap_alloc_at ?_; (first | rfl | (simp only [World.size_alloc, World.size_drew, World.size_setCell, size_drewN]; done))) | refine block_alloc ?_ | refine Buf.alloc ?_ _ | refine Buf.drew ?_ | refine Buf.setCell ?_ (by omega) _ _)); done) | (go_keep; done) | (simp [*, go_sem]; done))))
  clear hKq Kq
  clear hH2
  refine wpAnyH_ready (rs := [4]) (by kernel_rfl) (by simp) ?_
  refine AllReadyH.cons rfl (fun Kq hKq => ?_) AllReadyH.nil
  go_simp
  refine hKq.out _ _ ?_ (fun hH4 => ?_)
  · (first | assumption | (refine ⟨?_, ?_, ?_, ?_⟩ <;> (first | assumption | ((repeat (first | assumption | (refine heap_alloc_at ?_; (first | rfl | (simp only [World.size_alloc, World.size_drew, World.size_setCell, size_drewN]; done))) | refine block_alloc ?_ | refine Buf.alloc ?_ _ | refine Buf.drew ?_ | refine Buf.setCell ?_ (by omega) _ _)); done) | (go_keep; done) | (simp [*, go_sem]; done))))
  clear hKq Kq
  clear hH3
  refine wpAnyH_ready (rs := [5]) (by kernel_rfl) (by simp) ?_
  refine AllReadyH.cons rfl (fun Kq hKq => ?_) AllReadyH.nil
  go_simp
  refine (first2 _ _ _ _ (cell_fresh _ _ _ _ _ _ rfl rfl) (cell_fresh _ _ _ _ _ _ rfl rfl)).mono ?_
  (rintro e w' ⟨rfl, rfl⟩)
  refine hKq.out _ _ ?_ (fun hH5 => ?_)
  · (first | assumption | (refine ⟨?_, ?_, ?_, ?_⟩ <;> (first | assumption | ((repeat (first | assumption | (refine heap_alloc_at ?_; (first | rfl | (simp only [World.size_alloc, World.size_drew, World.size_setCell, size_drewN]; done))) | refine block_alloc ?_ | refine Buf.alloc ?_ _ | refine Buf.drew ?_ | refine Buf.setCell ?_ (by omega) _ _)); done) | (go_keep; done) | (simp [*, go_sem]; done))))
  clear hKq Kq
  clear hH4
  refine wpAnyH_pure (i := 6) (v := ?_) rfl (by kernel_rfl) (by kernel_rfl) (by kernel_rfl) (fun _ _ _ h => h) (by rfl) (by assumption) ?_ ?_
  rotate_left
  · (intro w hSw; (try dsimp only at hSw); go_simp; (try with_reducible rfl))
  simp only [Act.put, List.getElem_toArray, List.getElem_cons_succ, List.getElem_cons_zero, List.setIfInBounds_toArray, List.set_cons_zero, List.set_cons_succ]
  refine wpAnyH_done (by kernel_rfl) ?_ _
  rw [← HE.out]
  first | refine abs_calls (fun w4 hw4 => ?_) | refine abs_last (fun w4 hw4 => ?_)
  have hw40 : Below w.heap.size w w4 := by rw [hw4]; (repeat' (first | (with_reducible exact Below.refl _ _) | (with_reducible assumption) | (with_reducible refine Below.alloc ?_ ?_ _) | (with_reducible refine Below.drew ?_) | (with_reducible refine below_drewN ?_ _) | (with_reducible refine Below.setCell ?_ ?_ _) | (with_reducible refine below_step (by with_reducible assumption) ?_ ?_) | (with_reducible exact Below.size (by with_reducible assumption)) | go_size))
  have hzz4 := hw40.size
  have ca4_0 : w4.heap[w.heap.size]? = some (.cells (c) 26 (0, 0)) := by rw [hw4]; (repeat (first | assumption | (refine heap_alloc_at ?_; (first | rfl | (simp only [World.size_alloc, World.size_drew, World.size_setCell, size_drewN]; done))) | refine block_alloc ?_))
  have cg4_0 : w4.cell? ⟨w.heap.size + 1, 0, none⟩ = some (.int .i64 (num)) := by (first | (rw [hw4]; assumption) | (simp [go_sem, *]; done))
  have cg4_1 : w4.cell? ⟨w.heap.size + 1, 1, none⟩ = some (.int .i64 (den)) := by (first | (rw [hw4]; assumption) | (simp [go_sem, *]; done))
  have cr4_0 : w4.heap[w.heap.size + 1 + 1]? = some (.cells (z) 26 (0, 0)) := by rw [hw4]; (repeat (first | assumption | (refine heap_alloc_at ?_; (first | rfl | (simp only [World.size_alloc, World.size_drew, World.size_setCell, size_drewN]; done))) | refine block_alloc ?_))
  clear ca3_0
  clear cg3_0 cg3_1
  clear cr3_0
  clear hw4
  go_wp2_with (first | (refine wpl_build0 rfl 26 z rfl (HZ.out _) Try.underlying26 (sz := 1) (by kernel_rfl) ?_) | (refine wpl_store rfl 26 26 _ _ (w.heap.size + 1 + 1) z z rfl rfl rfl (by rw [hs0.out]; exact infoTrace) rfl ho0.out cr4_0 ?_))
  refine bodyPost_ret (v := .tuple #[.agg z, .int .i64 0, .int .i64 E]) ?_ rfl ⟨rfl, below_setRow (by (repeat' (first | (with_reducible exact Below.refl _ _) | (with_reducible assumption) | (with_reducible refine Below.alloc ?_ ?_ _) | (with_reducible refine Below.drew ?_) | (with_reducible refine below_drewN ?_ _) | (with_reducible refine Below.setCell ?_ ?_ _) | (with_reducible refine below_step (by with_reducible assumption) ?_ ?_) | (with_reducible exact Below.size (by with_reducible assumption)) | go_size))) z (by omega)⟩
  rw [results_cell_tmp2' (p := 4) (u := 5) (v := 6) (ty := 26) rfl]
  have hl : (loadVar 26 ⟨w.heap.size + 1 + 1, 0, none⟩).run Try.prog (w4.setRow (w.heap.size + 1 + 1) z) = .ok (.agg z) _ := run_loadVar_row _ _ 26 26 z (0, 0) _ (block_setRow cr4_0) Try.underlying26 rfl (by rw [hs0.out]; exact infoTrace)
  change ((loadVar 26 ⟨w.heap.size + 1 + 1, 0, none⟩).run Try.prog _).andThen _ = _
  rw [hl]
  rfl
theorem gdE_ok {x : Nat → Int} {num den : Int} (h : gdE x num den = 0) : tE x 64 = 0 ∧ gnE num den = 0 := frst2_eq0 h
set_option maxRecDepth 100000 in
set_option maxHeartbeats 2000000 in
theorem gained_ok (x : Nat → Int) (num den : Int) (w : World) (hx : Hid (∀ k, k < 64 → (x k).natAbs ≤ 2047)) (hn : in64 num) (hd : in64 den) (h : gnE num den = 0) :
    Calls Try.prog 56 #[.agg (tC x), .agg #[.int .i64 num, .int .i64 den]] w fun e w' => e = .returned (.tuple #[.agg (tC fun k => gC (x k) num den), .int .i64 (gK x num den 64), .int .i64 0]) ∧ Below w.heap.size w w' := by
  obtain ⟨n01, d01, -⟩ := gnE_ok h
  have kt : ∀ W, _ := fun W => traceError_any x W (Lib.hid fun k hk => by have := hx.out k hk; omega)
  rw [tE_ok hx.out] at kt
  have KT := Lib.hid kt
  have kg : ∀ W, _ := fun W => gainError_any num den W hn hd
  rw [h] at kg
  have KG := Lib.hid kg
  clear kt kg h hn hd
  have hmf : ∀ (fn : Fn) (first cap : Array Value) (w : World), (Instr.makeFunc fn first cap).run Try.prog w = .ok (.func fn first cap) w := fun _ _ _ _ => rfl
  have HF : Hid (Enters Try.prog 132) := Lib.hid (enters_of Try.func132 (by kernel_rfl) rfl)
  have KW : Hid (∀ (cb : Nat) (W : World), w.heap.size + 1 + 1 < cb → cb < W.heap.size → W.heap[w.heap.size]? = some (.cells (tC x) 26 (0, 0)) → W.cell? ⟨w.heap.size + 1, 0, none⟩ = some (.int .i64 num) → W.cell? ⟨w.heap.size + 1, 1, none⟩ = some (.int .i64 den) → W.cell? ⟨cb, 0, none⟩ = some (.int .i64 0) → W.frozen? ⟨cb, 0, none⟩ = false →
      Calls Try.prog 127 #[.func (.func 132) #[] #[.pointer (some ⟨w.heap.size, 0, none⟩), .pointer (some ⟨w.heap.size + 1, 0, none⟩), .pointer (some ⟨cb, 0, none⟩)]] W fun e w' => e = .returned (.agg (tC fun k => gC (x k) num den)) ∧ But cb W w' ∧ w'.cell? ⟨cb, 0, none⟩ = some (.int .i64 (gK x num den 64)) ∧ w'.frozen? ⟨cb, 0, none⟩ = false) :=
    Lib.hid fun cb W h1 h2 hg c0 c1 hq hz => traceWith_but (fun k => gC (x k) num den) (gK x num den) _ _ cb W h2 HF hq hz (Lib.hid fun k hk W' hB hq' hz' =>
      gained1_any (x k) num den (gK x num den k) w.heap.size (w.heap.size + 1) cb k W' hk (hx.out k hk) n01 d01 (by have := gK_bd x num den k; omega) (Nat.lt_of_lt_of_le h2 hB.1.size)
        ((cell_block ((hB.2 _ (by omega) (by omega)).trans hg)).trans (tC_get x hk)) ((cell_of (hB.2 _ (by omega) (by omega))).trans c0) ((cell_of (hB.2 _ (by omega) (by omega))).trans c1) hq' hz')
  have hs := Lib.hid (tC_size x)
  have hs0 := Lib.hid (tC_size fun _ => 0)
  have ho0 := Lib.hid (tC_one fun _ => 0)
  have HZ := Lib.hid zero_trace
  have hinT : (Try.prog.info? 26).map (·.size) = some (tC x).size := by rw [hs.out]; exact infoTrace
  have hsG := Lib.hid (tC_size fun k => gC (x k) num den)
  have hoG := Lib.hid (tC_one fun k => gC (x k) num den)
  have hinG : (Try.prog.info? 26).map (·.size) = some (tC fun k => gC (x k) num den).size := by rw [hsG.out]; exact infoTrace
  have HE := Lib.hid (show frst [0, 0] = 0 from rfl)
  clear n01 d01 HF
  generalize gK x num den 64 = Q at *
  generalize (tC fun k => gC (x k) num den) = g at *
  generalize tC x = c at *
  generalize (tC fun _ => 0) = z at *
  go_enter Try.func56, Try.ntmps56
  go_wp2_with (refine wpl_alloc rfl 26 z rfl (HZ.out _) ?_)
  first | refine abs_calls (fun w1 hw1 => ?_) | refine abs_last (fun w1 hw1 => ?_)
  have hw10 : Below w.heap.size w w1 := by rw [hw1]; (repeat' (first | (with_reducible exact Below.refl _ _) | (with_reducible assumption) | (with_reducible refine Below.alloc ?_ ?_ _) | (with_reducible refine Below.drew ?_) | (with_reducible refine below_drewN ?_ _) | (with_reducible refine Below.setCell ?_ ?_ _) | (with_reducible refine below_step (by with_reducible assumption) ?_ ?_) | (with_reducible exact Below.size (by with_reducible assumption)) | go_size))
  have hzz1 := hw10.size
  have ca1_0 : w1.heap[w.heap.size]? = some (.cells (c) 26 (0, 0)) := by rw [hw1]; (repeat (first | assumption | (refine heap_alloc_at ?_; (first | rfl | (simp only [World.size_alloc, World.size_drew, World.size_setCell, size_drewN]; done))) | refine block_alloc ?_))
  have cg1_0 : w1.cell? ⟨w.heap.size + 1, 0, none⟩ = some (.int .i64 (num)) := by (first | (rw [hw1]; assumption) | (simp [go_sem, *]; done))
  have cg1_1 : w1.cell? ⟨w.heap.size + 1, 1, none⟩ = some (.int .i64 (den)) := by (first | (rw [hw1]; assumption) | (simp [go_sem, *]; done))
  have cr1_0 : w1.heap[w.heap.size + 1 + 1]? = some (.cells (z) 26 (0, 0)) := by rw [hw1]; (repeat (first | assumption | (refine heap_alloc_at ?_; (first | rfl | (simp only [World.size_alloc, World.size_drew, World.size_setCell, size_drewN]; done))) | refine block_alloc ?_))
  have hz10 : w.heap.size < w1.heap.size := by (first | (rw [hw1]; simp; omega) | (rw [hw1]; simp; done) | (rw [hw1]; omega))
  have hz11 : w.heap.size + 1 < w1.heap.size := by (first | (rw [hw1]; simp; omega) | (rw [hw1]; simp; done) | (rw [hw1]; omega))
  have hz12 : w.heap.size + 1 + 1 < w1.heap.size := by (first | (rw [hw1]; simp; omega) | (rw [hw1]; simp; done) | (rw [hw1]; omega))
  clear hw1
  refine wp_region_held_drew (S := fun w' => w'.heap[w.heap.size]? = some (.cells (c) 26 (0, 0)) ∧ w'.heap[w.heap.size + 1 + 1]? = some (.cells (z) 26 (0, 0)) ∧ w'.cell? ⟨w.heap.size + 1, 0, none⟩ = some (.int .i64 (num)) ∧ w'.cell? ⟨w.heap.size + 1, 1, none⟩ = some (.int .i64 (den))) (by kernel_rfl) ?_ (fun hH1 => ?_)
  · (first | assumption | (refine ⟨?_, ?_, ?_, ?_⟩ <;> (first | assumption | ((repeat (first | assumption | (refine heap_alloc_at ?_; (first | rfl | (simp only [World.size_alloc, World.size_drew, World.size_setCell, size_drewN]; done))) | refine block_alloc ?_ | refine Buf.alloc ?_ _ | refine Buf.drew ?_ | refine Buf.setCell ?_ (by omega) _ _)); done) | (go_keep; done) | (simp [*, go_sem]; done))))
  refine wpAnyH_pure (i := 0) (v := ?_) rfl (by kernel_rfl) (by kernel_rfl) (by kernel_rfl) (fun _ _ _ h => h) (by rfl) (by assumption) ?_ ?_
  rotate_left
  · (intro w hSw; (try dsimp only at hSw); refine exec_load_arr 26 (p := .tmp 2) ?_ ?_ Try.underlying26 (hinT) (by repeat (first | exact hSw | exact hSw.1 | replace hSw := hSw.2)) <;> rfl)
  simp only [Act.put, List.getElem_toArray, List.getElem_cons_succ, List.getElem_cons_zero, List.setIfInBounds_toArray, List.set_cons_zero, List.set_cons_succ]
  refine wpAnyH_pure (i := 2) (v := ?_) rfl (by kernel_rfl) (by kernel_rfl) (by kernel_rfl) (fun _ _ _ h => h) (by rfl) (by assumption) ?_ ?_
  rotate_left
  · (intro w hSw; (try dsimp only at hSw); go_simp; (try with_reducible rfl))
  simp only [Act.put, List.getElem_toArray, List.getElem_cons_succ, List.getElem_cons_zero, List.setIfInBounds_toArray, List.set_cons_zero, List.set_cons_succ]
  refine wpAnyH_ready (rs := [1]) (by kernel_rfl) (by simp) ?_
  refine AllReadyH.cons rfl (fun Kq hKq => ?_) AllReadyH.nil
  go_simp
  refine (KT.out _).mono ?_
  (rintro e w2 ⟨rfl, hw2⟩)
  obtain ⟨hcw2, hfw2, hlw2, hmw2, hnw2⟩ := bcell3 hw2
  have hzw2 := hw2.size
  (try simp only [World.size_alloc, World.size_setCell, World.size_drew, size_drewN] at hzw2)
  have ca2_0 : w2.heap[w.heap.size]? = some (.cells (c) 26 (0, 0)) := block_below0 hw2 (by first | assumption | (repeat (first | assumption | (refine heap_alloc_at ?_; (first | rfl | (simp only [World.size_alloc, World.size_drew, World.size_setCell, size_drewN]; done))) | refine block_alloc ?_)))
  clear ca1_0
  have cg2_0 : w2.cell? ⟨w.heap.size + 1, 0, none⟩ = some (.int .i64 (num)) := (hcw2 (w.heap.size + 1) (0) (by first | omega | (simp only [World.size_alloc, World.size_drew, World.size_setCell, size_drewN]; omega))).trans (by first | assumption | (simp [go_sem, *]; done)); have cg2_1 : w2.cell? ⟨w.heap.size + 1, 1, none⟩ = some (.int .i64 (den)) := (hcw2 (w.heap.size + 1) (1) (by first | omega | (simp only [World.size_alloc, World.size_drew, World.size_setCell, size_drewN]; omega))).trans (by first | assumption | (simp [go_sem, *]; done)); have og2 : w.heap.size + 1 < w2.heap.size := (by omega)
  clear cg1_0 cg1_1
  have cr2_0 : w2.heap[w.heap.size + 1 + 1]? = some (.cells (z) 26 (0, 0)) := block_below0 hw2 (by first | assumption | (repeat (first | assumption | (refine heap_alloc_at ?_; (first | rfl | (simp only [World.size_alloc, World.size_drew, World.size_setCell, size_drewN]; done))) | refine block_alloc ?_)))
  clear cr1_0
  clear hcw2 hfw2 hlw2 hmw2 hnw2
  refine hKq.out _ _ ?_ (fun hH2 => ?_)
  · (first | assumption | (refine ⟨?_, ?_, ?_, ?_⟩ <;> (first | assumption | ((repeat (first | assumption | (refine heap_alloc_at ?_; (first | rfl | (simp only [World.size_alloc, World.size_drew, World.size_setCell, size_drewN]; done))) | refine block_alloc ?_ | refine Buf.alloc ?_ _ | refine Buf.drew ?_ | refine Buf.setCell ?_ (by omega) _ _)); done) | (go_keep; done) | (simp [*, go_sem]; done))))
  clear hKq Kq
  clear hH1
  refine wpAnyH_ready (rs := [3]) (by kernel_rfl) (by simp) ?_
  refine AllReadyH.cons rfl (fun Kq hKq => ?_) AllReadyH.nil
  go_simp
  refine (KG.out _).mono ?_
  (rintro e w3 ⟨rfl, hw3⟩)
  obtain ⟨hcw3, hfw3, hlw3, hmw3, hnw3⟩ := bcell3 hw3
  have hzw3 := hw3.size
  (try simp only [World.size_alloc, World.size_setCell, World.size_drew, size_drewN] at hzw3)
  have ca3_0 : w3.heap[w.heap.size]? = some (.cells (c) 26 (0, 0)) := block_below0 hw3 (by first | assumption | (repeat (first | assumption | (refine heap_alloc_at ?_; (first | rfl | (simp only [World.size_alloc, World.size_drew, World.size_setCell, size_drewN]; done))) | refine block_alloc ?_)))
  clear ca2_0
  have cg3_0 : w3.cell? ⟨w.heap.size + 1, 0, none⟩ = some (.int .i64 (num)) := (hcw3 (w.heap.size + 1) (0) (by first | omega | (simp only [World.size_alloc, World.size_drew, World.size_setCell, size_drewN]; omega))).trans (by first | assumption | (simp [go_sem, *]; done)); have cg3_1 : w3.cell? ⟨w.heap.size + 1, 1, none⟩ = some (.int .i64 (den)) := (hcw3 (w.heap.size + 1) (1) (by first | omega | (simp only [World.size_alloc, World.size_drew, World.size_setCell, size_drewN]; omega))).trans (by first | assumption | (simp [go_sem, *]; done)); have og3 : w.heap.size + 1 < w3.heap.size := (by omega)
  clear cg2_0 cg2_1
  have cr3_0 : w3.heap[w.heap.size + 1 + 1]? = some (.cells (z) 26 (0, 0)) := block_below0 hw3 (by first | assumption | (repeat (first | assumption | (refine heap_alloc_at ?_; (first | rfl | (simp only [World.size_alloc, World.size_drew, World.size_setCell, size_drewN]; done))) | refine block_alloc ?_)))
  clear cr2_0
  clear hcw3 hfw3 hlw3 hmw3 hnw3
  refine hKq.out _ _ ?_ (fun hH3 => ?_)
  · (first | assumption | (refine ⟨?_, ?_, ?_, ?_⟩ <;> (first | assumption | ((repeat (first | assumption | (refine heap_alloc_at ?_; (first | rfl | (simp only [World.size_alloc, World.size_drew, World.size_setCell, size_drewN]; done))) | refine block_alloc ?_ | refine Buf.alloc ?_ _ | refine Buf.drew ?_ | refine Buf.setCell ?_ (by omega) _ _)); done) | (go_keep; done) | (simp [*, go_sem]; done))))
  clear hKq Kq
  clear hH2
  refine wpAnyH_ready (rs := [4]) (by kernel_rfl) (by simp) ?_
  refine AllReadyH.cons rfl (fun Kq hKq => ?_) AllReadyH.nil
  go_simp
  refine hKq.out _ _ ?_ (fun hH4 => ?_)
  · (first | assumption | (refine ⟨?_, ?_, ?_, ?_⟩ <;> (first | assumption | ((repeat (first | assumption | (refine heap_alloc_at ?_; (first | rfl | (simp only [World.size_alloc, World.size_drew, World.size_setCell, size_drewN]; done))) | refine block_alloc ?_ | refine Buf.alloc ?_ _ | refine Buf.drew ?_ | refine Buf.setCell ?_ (by omega) _ _)); done) | (go_keep; done) | (simp [*, go_sem]; done))))
  clear hKq Kq
  clear hH3
  refine wpAnyH_ready (rs := [5]) (by kernel_rfl) (by simp) ?_
  refine AllReadyH.cons rfl (fun Kq hKq => ?_) AllReadyH.nil
  go_simp
  refine (first2 _ _ _ _ (cell_fresh _ _ _ _ _ _ rfl rfl) (cell_fresh _ _ _ _ _ _ rfl rfl)).mono ?_
  (rintro e w' ⟨rfl, rfl⟩)
  refine hKq.out _ _ ?_ (fun hH5 => ?_)
  · (first | assumption | (refine ⟨?_, ?_, ?_, ?_⟩ <;> (first | assumption | ((repeat (first | assumption | (refine heap_alloc_at ?_; (first | rfl | (simp only [World.size_alloc, World.size_drew, World.size_setCell, size_drewN]; done))) | refine block_alloc ?_ | refine Buf.alloc ?_ _ | refine Buf.drew ?_ | refine Buf.setCell ?_ (by omega) _ _)); done) | (go_keep; done) | (simp [*, go_sem]; done))))
  clear hKq Kq
  clear hH4
  refine wpAnyH_pure (i := 6) (v := ?_) rfl (by kernel_rfl) (by kernel_rfl) (by kernel_rfl) (fun _ _ _ h => h) (by rfl) (by assumption) ?_ ?_
  rotate_left
  · (intro w hSw; (try dsimp only at hSw); go_simp; (try with_reducible rfl))
  simp only [Act.put, List.getElem_toArray, List.getElem_cons_succ, List.getElem_cons_zero, List.setIfInBounds_toArray, List.set_cons_zero, List.set_cons_succ]
  refine wpAnyH_done (by kernel_rfl) ?_ _
  rw [HE.out]
  first | refine abs_calls (fun w4 hw4 => ?_) | refine abs_last (fun w4 hw4 => ?_)
  have hw40 : Below w.heap.size w w4 := by rw [hw4]; (repeat' (first | (with_reducible exact Below.refl _ _) | (with_reducible assumption) | (with_reducible refine Below.alloc ?_ ?_ _) | (with_reducible refine Below.drew ?_) | (with_reducible refine below_drewN ?_ _) | (with_reducible refine Below.setCell ?_ ?_ _) | (with_reducible refine below_step (by with_reducible assumption) ?_ ?_) | (with_reducible exact Below.size (by with_reducible assumption)) | go_size))
  have hzz4 := hw40.size
  have ca4_0 : w4.heap[w.heap.size]? = some (.cells (c) 26 (0, 0)) := by rw [hw4]; (repeat (first | assumption | (refine heap_alloc_at ?_; (first | rfl | (simp only [World.size_alloc, World.size_drew, World.size_setCell, size_drewN]; done))) | refine block_alloc ?_))
  have cg4_0 : w4.cell? ⟨w.heap.size + 1, 0, none⟩ = some (.int .i64 (num)) := by (first | (rw [hw4]; assumption) | (simp [go_sem, *]; done))
  have cg4_1 : w4.cell? ⟨w.heap.size + 1, 1, none⟩ = some (.int .i64 (den)) := by (first | (rw [hw4]; assumption) | (simp [go_sem, *]; done))
  have cr4_0 : w4.heap[w.heap.size + 1 + 1]? = some (.cells (z) 26 (0, 0)) := by rw [hw4]; (repeat (first | assumption | (refine heap_alloc_at ?_; (first | rfl | (simp only [World.size_alloc, World.size_drew, World.size_setCell, size_drewN]; done))) | refine block_alloc ?_))
  clear ca3_0
  clear cg3_0 cg3_1
  clear cr3_0
  clear hw4
  have hlr4 := (Array.getElem?_eq_some_iff.1 cr4_0).1
  go_wp2_with fail
  refine (KW.out w4.heap.size _ (by omega) (by simp) (block_alloc ca4_0) ((World.cell?_alloc_lt _ _ _ (by show w.heap.size + 1 < w4.heap.size; omega)).trans cg4_0) ((World.cell?_alloc_lt _ _ _ (by show w.heap.size + 1 < w4.heap.size; omega)).trans cg4_1) (by simp [go_sem, *]) (by simp [go_sem, *])).mono ?_
  rintro e w5 ⟨rfl, hw5, hq5, hz5⟩
  have hs5 := hw5.1.size
  simp only [World.size_alloc] at hs5
  have cr5_0 : w5.heap[w.heap.size + 1 + 1]? = some (.cells z 26 (0, 0)) := (hw5.2 _ (by simp; omega) (by omega)).trans (block_alloc cr4_0)
  have hB5 : Below w.heap.size w w5 := (show Below w.heap.size w (w4.alloc (.cells #[.int .i64 0] 3)) by (repeat' (first | (with_reducible exact Below.refl _ _) | (with_reducible assumption) | (with_reducible refine Below.alloc ?_ ?_ _) | (with_reducible refine Below.drew ?_) | (with_reducible refine below_drewN ?_ _) | (with_reducible refine Below.setCell ?_ ?_ _) | (with_reducible refine below_step (by with_reducible assumption) ?_ ?_) | (with_reducible exact Below.size (by with_reducible assumption)) | go_size))).trans (hw5.1.mono (by omega))
  clear hw5 ca4_0 cg4_0 cg4_1 cr4_0
  go_wp2_with (first | (refine wpl_alloc rfl 26 z rfl (HZ.out _) ?_) | (refine wpl_store_new rfl 26 _ _ z g rfl rfl rfl hinG (by rw [hs0.out, hsG.out]) hoG.out ?_))
  have hne1 : w4.heap.size < w5.heap.size := by omega
  have hne2 : w.heap.size + 1 + 1 < w5.heap.size := by omega
  first | refine abs_calls (fun w6 hw6 => ?_) | refine abs_last (fun w6 hw6 => ?_)
  have hw60 : Below w.heap.size w w6 := by rw [hw6]; (repeat' (first | (with_reducible exact Below.refl _ _) | (with_reducible assumption) | (with_reducible refine Below.alloc ?_ ?_ _) | (with_reducible refine Below.drew ?_) | (with_reducible refine below_drewN ?_ _) | (with_reducible refine Below.setCell ?_ ?_ _) | (with_reducible refine below_step (by with_reducible assumption) ?_ ?_) | (with_reducible exact Below.size (by with_reducible assumption)) | go_size))
  have hzz6 := hw60.size
  have cn6_0 : w6.heap[w5.heap.size]? = some (.cells (g) 26 (0, 0)) := by rw [hw6]; (repeat (first | assumption | (refine heap_alloc_at ?_; (first | rfl | (simp only [World.size_alloc, World.size_drew, World.size_setCell, size_drewN]; done))) | refine block_alloc ?_))
  have cq6_0 : w6.cell? ⟨w4.heap.size, 0, none⟩ = some (.int .i64 (Q)) := by (first | (rw [hw6]; assumption) | (simp [go_sem, *]; done))
  have cr6_0 : w6.heap[w.heap.size + 1 + 1]? = some (.cells (z) 26 (0, 0)) := by rw [hw6]; (repeat (first | assumption | (refine heap_alloc_at ?_; (first | rfl | (simp only [World.size_alloc, World.size_drew, World.size_setCell, size_drewN]; done))) | refine block_alloc ?_))
  have hz60 : w5.heap.size < w6.heap.size := by (first | (rw [hw6]; simp; omega) | (rw [hw6]; simp; done) | (rw [hw6]; omega))
  clear hw6
  refine wp_region_held_drew (S := fun w' => w'.heap[w5.heap.size]? = some (.cells (g) 26 (0, 0)) ∧ w'.cell? ⟨w4.heap.size, 0, none⟩ = some (.int .i64 (Q))) (by kernel_rfl) ?_ (fun hH6 => ?_)
  · (first | assumption | (refine ⟨?_, ?_⟩ <;> (first | assumption | ((repeat (first | assumption | (refine heap_alloc_at ?_; (first | rfl | (simp only [World.size_alloc, World.size_drew, World.size_setCell, size_drewN]; done))) | refine block_alloc ?_ | refine Buf.alloc ?_ _ | refine Buf.drew ?_ | refine Buf.setCell ?_ (by omega) _ _)); done) | (go_keep; done) | (simp [*, go_sem]; done))))
  refine wpAnyH_pure (i := 0) (v := ?_) rfl (by kernel_rfl) (by kernel_rfl) (by kernel_rfl) (fun _ _ _ h => h) (by rfl) (by assumption) ?_ ?_
  rotate_left
  · (intro w hSw; (try dsimp only at hSw); refine exec_load_arr 26 (p := .tmp 9) ?_ ?_ Try.underlying26 (hinG) (by repeat (first | exact hSw | exact hSw.1 | replace hSw := hSw.2)) <;> rfl)
  simp only [Act.put, List.getElem_toArray, List.getElem_cons_succ, List.getElem_cons_zero, List.setIfInBounds_toArray, List.set_cons_zero, List.set_cons_succ]
  refine wpAnyH_pure (i := 1) (v := ?_) rfl (by kernel_rfl) (by kernel_rfl) (by kernel_rfl) (fun _ _ _ h => h) (by rfl) (by assumption) ?_ ?_
  rotate_left
  · (intro w hSw; (try dsimp only at hSw); go_simp; (try with_reducible rfl))
  simp only [Act.put, List.getElem_toArray, List.getElem_cons_succ, List.getElem_cons_zero, List.setIfInBounds_toArray, List.set_cons_zero, List.set_cons_succ]
  refine wpAnyH_ready (rs := [2]) (by kernel_rfl) (by simp) ?_
  refine AllReadyH.cons rfl (fun Kq hKq => ?_) AllReadyH.nil
  rw [if_pos (by rfl)]
  refine wp_store_row 26 26 _ _ (w.heap.size + 1 + 1) z g rfl rfl rfl hinG (by rw [hs0.out, hsG.out]) hoG.out cr6_0 ?_
  have hkhH6 := hH6
  obtain ⟨hH6s0, hH6s1⟩ := hkhH6
  refine hKq.out _ _ ?_ (fun hH7 => ?_)
  · exact ⟨(block_setRow_other (by omega)).trans hH6s0, (cell_of (block_setRow_other (by omega))).trans hH6s1⟩
  clear hKq Kq
  clear hH6
  refine wpAnyH_pure (i := 3) (v := ?_) rfl (by kernel_rfl) (by kernel_rfl) (by kernel_rfl) (fun _ _ _ h => h) (by rfl) (by assumption) ?_ ?_
  rotate_left
  · (intro w hSw; (try dsimp only at hSw); go_simp; (try with_reducible rfl))
  simp only [Act.put, List.getElem_toArray, List.getElem_cons_succ, List.getElem_cons_zero, List.setIfInBounds_toArray, List.set_cons_zero, List.set_cons_succ]
  refine wpAnyH_pure (i := 4) (v := ?_) rfl (by kernel_rfl) (by kernel_rfl) (by kernel_rfl) (fun _ _ _ h => h) (by rfl) (by assumption) ?_ ?_
  rotate_left
  · (intro w hSw; (try dsimp only at hSw); go_simp; (try with_reducible rfl))
  simp only [Act.put, List.getElem_toArray, List.getElem_cons_succ, List.getElem_cons_zero, List.setIfInBounds_toArray, List.set_cons_zero, List.set_cons_succ]
  refine wpAnyH_done (by kernel_rfl) ?_ _
  go_wp2
  refine bodyPost_ret (v := .tuple #[.agg g, .int .i64 Q, .int .i64 0]) ?_ rfl ⟨rfl, below_setRow (by (repeat' (first | (with_reducible exact Below.refl _ _) | (with_reducible assumption) | (with_reducible refine Below.alloc ?_ ?_ _) | (with_reducible refine Below.drew ?_) | (with_reducible refine below_drewN ?_ _) | (with_reducible refine Below.setCell ?_ ?_ _) | (with_reducible refine below_step (by with_reducible assumption) ?_ ?_) | (with_reducible exact Below.size (by with_reducible assumption)) | go_size))) g (by omega)⟩
  rw [results_cell_tmp2' (p := 4) (u := 5) (v := 6) (ty := 26) rfl]
  have hl : (loadVar 26 ⟨w.heap.size + 1 + 1, 0, none⟩).run Try.prog (w6.drew.setRow (w.heap.size + 1 + 1) g) = .ok (.agg g) _ := run_loadVar_row _ _ 26 26 g (0, 0) _ (block_setRow (w := w6.drew) cr6_0) Try.underlying26 rfl hinG
  change ((loadVar 26 ⟨w.heap.size + 1 + 1, 0, none⟩).run Try.prog _).andThen _ = _
  rw [hl]
  rfl
end Go.Proofs.Ythgnemkfaiejbaa
