/-
  PEAKS of right traces in right gates: gateError, squaresIn, PeakIn.
-/
import Derived.Test.YthgnemkfaiejbaaTEnv
import Derived.Test.YthgnemkfaiejbaaShelf
set_option linter.unusedVariables false
set_option linter.unusedSimpArgs false
namespace Go.Proofs.Ythgnemkfaiejbaa
open Go.RowKit

theorem wpl_store_new {P : Program} {w0 : World} {o : Oper} {a : Act} {Q : Exit → Act → World → Prop} {ops : Array Oper} {rest : List Oper} (hgd : o.guard = none) (t : TypeId) (p v : Operand) (old c : Array Value) (ho : o.op = .store t p v) (hp : a.eval p = .pointer (some ⟨w0.heap.size, 0, none⟩)) (hv : a.eval v = .agg c)
    (hi : (P.info? t).map (·.size) = some c.size) (hs : old.size = c.size) (h1 : c.all (·.oneCell') = true) (h : wpList P ops Q rest (a.put o.dst undef) (w0.alloc (.cells c t))) : wpList P ops Q (o :: rest) a (w0.alloc (.cells old t)) :=
  wpl_store hgd t t p v w0.heap.size old c ho hp hv hi hs h1 (heap_alloc_last w0 _) (by rw [World.setRow_alloc_new]; exact h)
def gtE (f t : Int) : Int := frst [unl (inB f 0 60) 2, unl (inB t 0 60) 2, unl (decide (f ≤ t)) 9]
set_option maxRecDepth 100000 in
set_option maxHeartbeats 1000000 in
theorem gateError_any (f t : Int) (w : World) : Calls Try.prog 171 #[.agg #[.int .i64 f, .int .i64 t]] w fun e w' => e = .returned (.int .i64 (gtE f t)) ∧ Below w.heap.size w w' := by
  have HE := Lib.hid (show gtE f t = frst [unl (inB f 0 60) 2, unl (inB t 0 60) 2, unl (decide (f ≤ t)) 9] from rfl)
  go_enter Try.func171, Try.ntmps171
  go_wp2
  refine wp_region_held_drew (S := fun w' => w'.cell? ⟨w.heap.size, 0, none⟩ = some (.int .i64 (f)) ∧ w'.cell? ⟨w.heap.size, 1, none⟩ = some (.int .i64 (t))) (by kernel_rfl) ?_ (fun hH1 => ?_)
  · (first | assumption | (refine ⟨?_, ?_⟩ <;> assumption) | (go_keep; done) | (simp [*, go_sem]; done))
  refine wpAnyH_pure (i := 0) (v := ?_) rfl (by kernel_rfl) (by kernel_rfl) (by kernel_rfl) (fun _ _ _ h => h) (by rfl) (by assumption) ?_ ?_
  rotate_left
  · (intro w hSw; (try dsimp only at hSw); go_simp; (try with_reducible rfl))
  simp only [Act.put, List.getElem_toArray, List.getElem_cons_succ, List.getElem_cons_zero, List.setIfInBounds_toArray, List.set_cons_zero, List.set_cons_succ]
  refine wpAnyH_pure (i := 1) (v := ?_) rfl (by kernel_rfl) (by kernel_rfl) (by kernel_rfl) (fun _ _ _ h => h) (by rfl) (by assumption) ?_ ?_
  rotate_left
  · (intro w hSw; (try dsimp only at hSw); go_simp; (try with_reducible rfl))
  simp only [Act.put, List.getElem_toArray, List.getElem_cons_succ, List.getElem_cons_zero, List.setIfInBounds_toArray, List.set_cons_zero, List.set_cons_succ]
  refine wpAnyH_pure (i := 3) (v := ?_) rfl (by kernel_rfl) (by kernel_rfl) (by kernel_rfl) (fun _ _ _ h => h) (by rfl) (by assumption) ?_ ?_
  rotate_left
  · (intro w hSw; (try dsimp only at hSw); go_simp; (try with_reducible rfl))
  simp only [Act.put, List.getElem_toArray, List.getElem_cons_succ, List.getElem_cons_zero, List.setIfInBounds_toArray, List.set_cons_zero, List.set_cons_succ]
  refine wpAnyH_pure (i := 4) (v := ?_) rfl (by kernel_rfl) (by kernel_rfl) (by kernel_rfl) (fun _ _ _ h => h) (by rfl) (by assumption) ?_ ?_
  rotate_left
  · (intro w hSw; (try dsimp only at hSw); go_simp; (try with_reducible rfl))
  simp only [Act.put, List.getElem_toArray, List.getElem_cons_succ, List.getElem_cons_zero, List.setIfInBounds_toArray, List.set_cons_zero, List.set_cons_succ]
  refine wpAnyH_pure (i := 6) (v := ?_) rfl (by kernel_rfl) (by kernel_rfl) (by kernel_rfl) (fun _ _ _ h => h) (by rfl) (by assumption) ?_ ?_
  rotate_left
  · (intro w hSw; (try dsimp only at hSw); go_simp; (try with_reducible rfl))
  simp only [Act.put, List.getElem_toArray, List.getElem_cons_succ, List.getElem_cons_zero, List.setIfInBounds_toArray, List.set_cons_zero, List.set_cons_succ]
  refine wpAnyH_pure (i := 7) (v := ?_) rfl (by kernel_rfl) (by kernel_rfl) (by kernel_rfl) (fun _ _ _ h => h) (by rfl) (by assumption) ?_ ?_
  rotate_left
  · (intro w hSw; (try dsimp only at hSw); go_simp; (try with_reducible rfl))
  simp only [Act.put, List.getElem_toArray, List.getElem_cons_succ, List.getElem_cons_zero, List.setIfInBounds_toArray, List.set_cons_zero, List.set_cons_succ]
  refine wpAnyH_pure (i := 8) (v := ?_) rfl (by kernel_rfl) (by kernel_rfl) (by kernel_rfl) (fun _ _ _ h => h) (by rfl) (by assumption) ?_ ?_
  rotate_left
  · (intro w hSw; (try dsimp only at hSw); go_simp; (try with_reducible rfl))
  simp only [Act.put, List.getElem_toArray, List.getElem_cons_succ, List.getElem_cons_zero, List.setIfInBounds_toArray, List.set_cons_zero, List.set_cons_succ]
  refine wpAnyH_pure (i := 9) (v := ?_) rfl (by kernel_rfl) (by kernel_rfl) (by kernel_rfl) (fun _ _ _ h => h) (by rfl) (by assumption) ?_ ?_
  rotate_left
  · (intro w hSw; (try dsimp only at hSw); go_simp; (try with_reducible rfl))
  simp only [Act.put, List.getElem_toArray, List.getElem_cons_succ, List.getElem_cons_zero, List.setIfInBounds_toArray, List.set_cons_zero, List.set_cons_succ]
  refine wpAnyH_pure (i := 10) (v := ?_) rfl (by kernel_rfl) (by kernel_rfl) (by kernel_rfl) (fun _ _ _ h => h) (by rfl) (by assumption) ?_ ?_
  rotate_left
  · (intro w hSw; (try dsimp only at hSw); go_simp; (try with_reducible rfl))
  simp only [Act.put, List.getElem_toArray, List.getElem_cons_succ, List.getElem_cons_zero, List.setIfInBounds_toArray, List.set_cons_zero, List.set_cons_succ]
  refine wpAnyH_ready (rs := [2]) (by kernel_rfl) (by simp) ?_
  refine AllReadyH.cons rfl (fun Kq hKq => ?_) AllReadyH.nil
  go_simp
  refine (rangeError_any _ _ _ _).mono ?_
  (rintro e w' ⟨rfl, rfl⟩)
  refine hKq.out _ _ ?_ (fun hH2 => ?_)
  · (first | assumption | (refine ⟨?_, ?_⟩ <;> assumption) | (go_keep; done) | (simp [*, go_sem]; done))
  clear hKq Kq
  clear hH1
  refine wpAnyH_ready (rs := [5]) (by kernel_rfl) (by simp) ?_
  refine AllReadyH.cons rfl (fun Kq hKq => ?_) AllReadyH.nil
  go_simp
  refine (rangeError_any _ _ _ _).mono ?_
  (rintro e w' ⟨rfl, rfl⟩)
  refine hKq.out _ _ ?_ (fun hH3 => ?_)
  · (first | assumption | (refine ⟨?_, ?_⟩ <;> assumption) | (go_keep; done) | (simp [*, go_sem]; done))
  clear hKq Kq
  clear hH2
  refine wpAnyH_ready (rs := [11]) (by kernel_rfl) (by simp) ?_
  refine AllReadyH.cons rfl (fun Kq hKq => ?_) AllReadyH.nil
  go_simp
  refine (unless_any _ _ _).mono ?_
  (rintro e w' ⟨rfl, rfl⟩)
  refine hKq.out _ _ ?_ (fun hH4 => ?_)
  · (first | assumption | (refine ⟨?_, ?_⟩ <;> assumption) | (go_keep; done) | (simp [*, go_sem]; done))
  clear hKq Kq
  clear hH3
  refine wpAnyH_ready (rs := [12]) (by kernel_rfl) (by simp) ?_
  refine AllReadyH.cons rfl (fun Kq hKq => ?_) AllReadyH.nil
  go_simp
  refine hKq.out _ _ ?_ (fun hH5 => ?_)
  · (first | assumption | (refine ⟨?_, ?_⟩ <;> assumption) | (go_keep; done) | (simp [*, go_sem]; done))
  clear hKq Kq
  clear hH4
  refine wpAnyH_ready (rs := [13]) (by kernel_rfl) (by simp) ?_
  refine AllReadyH.cons rfl (fun Kq hKq => ?_) AllReadyH.nil
  go_simp
  apply Calls.mono
  focus ((apply first3 <;> exact cell_fresh _ _ _ _ _ _ (by first | rfl | simp) rfl); done)
  (rintro e w' ⟨rfl, rfl⟩)
  refine hKq.out _ _ ?_ (fun hH6 => ?_)
  · (first | assumption | (refine ⟨?_, ?_⟩ <;> assumption) | (go_keep; done) | (simp [*, go_sem]; done))
  clear hKq Kq
  clear hH5
  refine wpAnyH_pure (i := 14) (v := ?_) rfl (by kernel_rfl) (by kernel_rfl) (by kernel_rfl) (fun _ _ _ h => h) (by rfl) (by assumption) ?_ ?_
  rotate_left
  · (intro w hSw; (try dsimp only at hSw); go_simp; (try with_reducible rfl))
  simp only [Act.put, List.getElem_toArray, List.getElem_cons_succ, List.getElem_cons_zero, List.setIfInBounds_toArray, List.set_cons_zero, List.set_cons_succ]
  refine wpAnyH_done (by kernel_rfl) ?_ _
  go_wp2
  go_ret
  exact ⟨ri HE.out.symm, by (repeat' (first | (with_reducible exact Below.refl _ _) | (with_reducible assumption) | (with_reducible refine Below.alloc ?_ ?_ _) | (with_reducible refine Below.drew ?_) | (with_reducible refine below_drewN ?_ _) | (with_reducible refine Below.setCell ?_ ?_ _) | (with_reducible refine below_step (by with_reducible assumption) ?_ ?_) | (with_reducible exact Below.size (by with_reducible assumption)) | go_size))⟩
/-- a slice of squares -/
def SqPost (x : Nat → Int) (f t : Nat) (w : World) (e : Ending) (w' : World) : Prop := ∃ b, e = .returned (.tuple #[.slice (some ⟨b, f, none⟩) (t + 1 - f) (61 - f), .int .i64 0]) ∧ w'.heap[b]? = some (.cells (sC (anS x)) 95 (0, 0)) ∧ Below w.heap.size w w'
set_option maxRecDepth 100000 in
set_option maxHeartbeats 2000000 in
theorem squaresIn_ok (x : Nat → Int) (f t : Nat) (w : World) (hx : Hid (∀ k, k < 64 → (x k).natAbs ≤ 2047)) (ht : f ≤ t ∧ t ≤ 60) :
    Calls Try.prog 137 #[.agg (tC x), .agg #[.int .i64 (f : Int), .int .i64 (t : Int)]] w (SqPost x f t w) := by
  have K1 := Lib.hid (fun W => envelope_ok x W hx)
  have k2 : ∀ W, _ := fun W => gateError_any (f : Int) (t : Int) W
  rw [show gtE (f : Int) (t : Int) = 0 by unfold gtE; rw [show inB (f : Int) 0 60 = true by unfold inB; exact decide_eq_true (by omega), show inB (t : Int) 0 60 = true by unfold inB; exact decide_eq_true (by omega), decide_eq_true (show (f : Int) ≤ (t : Int) by omega)]; rfl] at k2
  have K2 := Lib.hid k2
  clear k2
  have HF := Lib.hid (show frst [0, 0] = 0 from rfl)
  have hs := Lib.hid (tC_size x)
  have hsS := Lib.hid (sC_size (anS x))
  have hoS := Lib.hid (sC_one (anS x))
  have hzs := Lib.hid (sC_size fun _ => 0)
  unfold SqPost
  generalize tC x = c at *
  generalize sC (anS x) = S at *
  obtain ⟨z, hz⟩ : ∃ z, z = sC fun _ => 0 := ⟨_, rfl⟩
  have hzv : ∀ w : World, (zeroValue 95).run Try.prog w = .ok (.agg z) w := fun w => by rw [hz]; exact zero_sq w
  have HZV := Lib.hid hzv
  rw [← hz] at hzs
  clear hz hzv
  go_enter Try.func137, Try.ntmps137
  go_wp2_with (refine wpl_load rfl 26 26 _ w.heap.size c (0, 0) _ rfl rfl Try.underlying26 rfl (by rw [hs.out]; exact infoTrace) (block_alloc (heap_alloc_last w _)) ?_)
  refine (K1.out _).mono ?_
  rintro e w2 ⟨rfl, hw2⟩
  obtain ⟨hcw2, hfw2, hlw2, hmw2, hnw2⟩ := bcell3 hw2
  have hz2 := hw2.size
  simp only [World.size_alloc] at hz2
  have cg2_0 : w2.cell? ⟨w.heap.size + 1, 0, none⟩ = some (.int .i64 (f : Int)) := (hcw2 _ _ (by simp)).trans (by simp [go_sem])
  have cg2_1 : w2.cell? ⟨w.heap.size + 1, 1, none⟩ = some (.int .i64 (t : Int)) := (hcw2 _ _ (by simp)).trans (by simp [go_sem])
  have og2 : w.heap.size + 1 < w2.heap.size := by omega
  clear hcw2 hfw2 hlw2 hmw2 hnw2
  go_wp2_with (first | (refine wpl_alloc rfl 95 z rfl (HZV.out _) ?_) | (refine wpl_store_new rfl 95 _ _ z S rfl rfl rfl (by rw [hsS.out]; exact infoSq) (by rw [hzs.out, hsS.out]) hoS.out ?_))
  refine (K2.out _).mono ?_
  rintro e w3 ⟨rfl, hw3⟩
  obtain ⟨hcw3, hfw3, hlw3, hmw3, hnw3⟩ := bcell3 hw3
  have hz3 := hw3.size
  simp only [World.size_alloc] at hz3
  have cg3_0 : w3.cell? ⟨w.heap.size + 1, 0, none⟩ = some (.int .i64 (f : Int)) := (hcw3 _ _ (by simp; omega)).trans (by rw [World.cell?_alloc_lt _ _ _ (by show w.heap.size + 1 < w2.heap.size; omega)]; exact cg2_0)
  have cg3_1 : w3.cell? ⟨w.heap.size + 1, 1, none⟩ = some (.int .i64 (t : Int)) := (hcw3 _ _ (by simp; omega)).trans (by rw [World.cell?_alloc_lt _ _ _ (by show w.heap.size + 1 < w2.heap.size; omega)]; exact cg2_1)
  have og3 : w.heap.size + 1 < w3.heap.size := by omega
  have hg3 : w3.heap[w2.heap.size]? = some (.cells S 95 (0, 0)) := block_below hw3 (by simp) (heap_alloc_last w2 _)
  have hb3 : Below w.heap.size w w3 := by (repeat' (first | (with_reducible exact Below.refl _ _) | (with_reducible assumption) | (with_reducible refine Below.alloc ?_ ?_ _) | (with_reducible refine Below.drew ?_) | (with_reducible refine below_drewN ?_ _) | (with_reducible refine Below.setCell ?_ ?_ _) | (with_reducible refine below_step (by with_reducible assumption) ?_ ?_) | (with_reducible exact Below.size (by with_reducible assumption)) | go_size))
  clear hcw3 hfw3 hlw3 hmw3 hnw3 cg2_0 cg2_1 hw3 hw2
  go_wp2_with fail
  apply Calls.mono
  focus ((apply first2 <;> exact cell_fresh _ _ _ _ _ _ (by first | rfl | simp) rfl); done)
  rw [HF.out]
  rintro e w' ⟨rfl, rfl⟩
  have e1 : (0 : Int) ≤ (f : Int) := by omega
  have e2 : (f : Int) ≤ (t : Int) + 1 := by omega
  have e3 : (t : Int) + 1 ≤ 61 := by omega
  have n1 : ((t : Int) + 1).toNat = t + 1 := by omega
  go_wp2
  go_ret2
  exact ⟨_, rfl, block_alloc hg3, by (repeat' (first | (with_reducible exact Below.refl _ _) | (with_reducible assumption) | (with_reducible refine Below.alloc ?_ ?_ _) | (with_reducible refine Below.drew ?_) | (with_reducible refine below_drewN ?_ _) | (with_reducible refine Below.setCell ?_ ?_ _) | (with_reducible refine below_step (by with_reducible assumption) ?_ ?_) | (with_reducible exact Below.size (by with_reducible assumption)) | go_size))⟩
end Go.Proofs.Ythgnemkfaiejbaa
