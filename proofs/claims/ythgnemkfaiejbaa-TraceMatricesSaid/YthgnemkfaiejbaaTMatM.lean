/-
  MATRICES: Made.Matrix.
-/
import Derived.Test.YthgnemkfaiejbaaTMat
set_option linter.unusedVariables false
set_option linter.unusedSimpArgs false
namespace Go.Proofs.Ythgnemkfaiejbaa
open Go.RowKit

theorem infoF32 : (Try.prog.info? 24).map (fun i => (i.zero, i.size, i.bytes)) = some (some (.float .f32 0), 1, 4) := by kernel_rfl
theorem made_fC (N : Nat) (s : Nat → Int × Int) : madeCells #[.float .f32 0] N = fC (mS s N 0) N := by
  apply Array.ext_getElem?
  intro i
  have e0 : wd Ieee.single 0 = 0 := by decide +kernel
  have hs : (madeCells #[Value.float .f32 0] N).size = N := by simp [madeCells]
  by_cases h : i < N
  · rw [fC_get _ h]
    show _ = some (Value.float .f32 (wd Ieee.single 0))
    rw [e0]
    simp only [madeCells]
    simp [h, Nat.mod_one]
  · rw [Array.getElem?_eq_none (by omega), Array.getElem?_eq_none (by rw [fC_size]; omega)]
theorem mS_succ (s : Nat → Int × Int) (N k : Nat) (j : Nat) (hj : (s k).1 % (N : Int) = (j : Int)) (hN : j < N) : (fC (mS s N k) N).setIfInBounds j (.float .f32 (wd Ieee.single (max (-4000) (min 4000 (s k).2)))) = fC (mS s N (k + 1)) N := by
  rw [fC_set _ _ hN]
  show _ = fC (up _ _ _) N
  rw [hj, Int.toNat_natCast]
theorem block_two {w : World} {g i j : Nat} {c : Array Value} {t : TypeId} {fr : Nat × Nat} {v u : Value} (hg : w.heap[g]? = some (.cells c t fr)) : ((w.setCell ⟨g, i, none⟩ v).setCell ⟨g, j, none⟩ u).heap[g]? = some (.cells ((c.setIfInBounds i v).setIfInBounds j u) t fr) := block_setCell (block_setCell hg)
set_option maxRecDepth 100000 in
set_option maxHeartbeats 4000000 in
theorem matrix_any (E M : Int) (vS vR : Value) (s : Nat → Int × Int) (n : Nat) (r : Nat → Nat) (m : Nat) (w : World) (hS : Hid (PRow w vS s n)) (hR : Hid (FRow w vR r m)) :
    Calls Try.prog 25 #[.agg #[.int .i64 E, vS, vR, .int .i64 M]] w fun e w' => ∃ g, e = .returned (.agg #[.int .i64 E, .slice (some ⟨g, 0, none⟩) (mN E M) (mN E M)]) ∧ (w.heap.size ≤ g ∧ w'.heap[g]? = some (.cells (fC (mU E M s n r m) (mN E M)) 24 (0, 0))) ∧ Below w.heap.size w w' := by
  have hbd := mN_bd E M
  have hmk : ∀ w : World, (Instr.makeSlice 22 (.int .i64 ((mN E M : Nat) : Int)) (.int .i64 ((mN E M : Nat) : Int))).run Try.prog w = .ok (.slice (some ⟨w.heap.size, 0, none⟩) (mN E M) (mN E M)) (w.alloc (.cells (fC (mS s (mN E M) 0) (mN E M)) 24)) := fun w => by
    rw [← made_fC]
    exact run_make_row' (P := Try.prog) 22 24 (.float .f32 0) 4 Try.underlying22 infoF32 rfl .i64 .i64 (mN E M) (by omega) (by omega) w
  have HU := Lib.hid (show mU E M s n r m = mR (mS s (mN E M) n) r (min m (mN E M)) from rfl)
  have HNN := Lib.hid (show (mN E M : Int) = max 0 (max (-1) (min 1 M) + if inB E 1 3 = true then E * E * 64 else 0) by unfold mN; omega)
  have KW := Lib.hid (fun W => bwithin_any E 1 3 W)
  obtain ⟨qS, cS, rfl, hcS, hsb, hS1⟩ := hS.out
  obtain ⟨qR, cR, rfl, hcR, hrb, hR1⟩ := hR.out
  have HSB := Lib.hid hsb
  have HS1 := Lib.hid hS1
  have HR1 := Lib.hid hR1
  obtain ⟨hcS1, hcS2⟩ := hcS
  obtain ⟨hcR1, hcR2⟩ := hcR
  unfold maxLen at hcS2 hcR2
  clear hS hR hsb hrb hS1 hR1
  generalize mU E M s n r m = U at *
  generalize mN E M = N at *
  generalize hb : inB E 1 3 = b at *
  have hE : b = true → 1 ≤ E ∧ E ≤ 3 := by intro h; rw [h] at hb; unfold inB at hb; simpa using hb
  have HE := Lib.hid hE
  clear hE hb
  cases b with
  | true =>
    obtain ⟨E1, E2⟩ := HE.out rfl
    have hEE : E * E ≤ 9 := Int.mul_le_mul E2 E2 (by omega) (by omega)
    have hEE0 : 0 ≤ E * E := Int.mul_nonneg (by omega) (by omega)
    have wr1 : IntKind.i64.wrap (E * E) = E * E := IntWalk.i64_in _ (by omega)
    have wr2 : IntKind.i64.wrap (E * E * 64) = E * E * 64 := IntWalk.i64_in _ (by omega)
    have wr3 : IntKind.i64.wrap (max (-1) (min 1 M) + E * E * 64) = max (-1) (min 1 M) + E * E * 64 := IntWalk.i64_in _ (by omega)
    have hN := HNN.out
    rw [if_pos rfl] at hN
    rw [hN] at hmk
    clear hEE hEE0 E1 E2 hN
    go_enter Try.func25, Try.ntmps25
    go_wp2_with fail
    refine (KW.out _).mono ?_
    rintro e w' ⟨rfl, rfl⟩
    go_wp2
    refine wp_region_held_drew (S := fun w' => w'.cell? ⟨w.heap.size, 0, none⟩ = some (.int .i64 (E)) ∧ w'.cell? ⟨w.heap.size, 1, none⟩ = some (.slice qS n cS) ∧ w'.cell? ⟨w.heap.size, 2, none⟩ = some (.slice qR m cR) ∧ w'.cell? ⟨w.heap.size, 3, none⟩ = some (.int .i64 (M)) ∧ w'.cell? ⟨w.heap.size + 1, 0, none⟩ = some (.int .i64 (0)) ∧ w'.cell? ⟨w.heap.size + 1, 1, none⟩ = some (.slice none 0 0) ∧ w'.frozen? ⟨w.heap.size + 1, 0, none⟩ = false ∧ w'.frozen? ⟨w.heap.size + 1, 1, none⟩ = false) (by kernel_rfl) ?_ (fun hH1 => ?_)
    · (refine ⟨?_, ?_, ?_, ?_, ?_, ?_, ?_, ?_⟩ <;> (first | assumption | ((repeat (first | assumption | (refine heap_alloc_at ?_; (first | rfl | (simp only [World.size_alloc, World.size_drew, World.size_setCell, size_drewN]; done))) | refine block_alloc ?_ | refine (block_setCell_other (by omega)).trans ?_ | refine Buf.alloc ?_ _ | refine Buf.drew ?_ | refine Buf.setCell ?_ (by omega) _ _)); done) | (go_keep; done) | (simp [*, go_sem]; done)))
    refine wpAnyH_pure (i := 0) (v := ?_) rfl (by kernel_rfl) (by kernel_rfl) (by kernel_rfl) (fun _ _ _ h => h) (by rfl) (by assumption) ?_ ?_
    rotate_left
    · (intro w hSw; (try dsimp only at hSw); go_simp; (try with_reducible rfl))
    simp only [Act.put, List.getElem_toArray, List.getElem_cons_succ, List.getElem_cons_zero, List.setIfInBounds_toArray, List.set_cons_zero, List.set_cons_succ]
    refine wpAnyH_pure (i := 1) (v := ?_) rfl (by kernel_rfl) (by kernel_rfl) (by kernel_rfl) (fun _ _ _ h => h) (by rfl) (by assumption) ?_ ?_
    rotate_left
    · (intro w hSw; (try dsimp only at hSw); go_simp; (try with_reducible rfl))
    simp only [Act.put, List.getElem_toArray, List.getElem_cons_succ, List.getElem_cons_zero, List.setIfInBounds_toArray, List.set_cons_zero, List.set_cons_succ]
    refine wpAnyH_pure (i := 2) (v := ?_) rfl (by kernel_rfl) (by kernel_rfl) (by kernel_rfl) (fun _ _ _ h => h) (by rfl) (by assumption) ?_ ?_
    rotate_left
    · (intro w hSw; (try dsimp only at hSw); go_simp; (try with_reducible rfl))
    simp only [Act.put, List.getElem_toArray, List.getElem_cons_succ, List.getElem_cons_zero, List.setIfInBounds_toArray, List.set_cons_zero, List.set_cons_succ]
    refine wpAnyH_pure (i := 3) (v := ?_) rfl (by kernel_rfl) (by kernel_rfl) (by kernel_rfl) (fun _ _ _ h => h) (by rfl) (by assumption) ?_ ?_
    rotate_left
    · (intro w hSw; (try dsimp only at hSw); go_simp; (try with_reducible rfl))
    simp only [Act.put, List.getElem_toArray, List.getElem_cons_succ, List.getElem_cons_zero, List.setIfInBounds_toArray, List.set_cons_zero, List.set_cons_succ]
    refine wpAnyH_dagC0 (fun a0 l0 l a W => ((W.cell? ⟨w.heap.size, 0, none⟩ = some (.int .i64 (E)) ∧ W.cell? ⟨w.heap.size, 1, none⟩ = some (.slice qS n cS) ∧ W.cell? ⟨w.heap.size, 2, none⟩ = some (.slice qR m cR) ∧ W.cell? ⟨w.heap.size, 3, none⟩ = some (.int .i64 (M)) ∧ W.cell? ⟨w.heap.size + 1, 0, none⟩ = some (.int .i64 (0)) ∧ W.cell? ⟨w.heap.size + 1, 1, none⟩ = some (.slice none 0 0) ∧ W.frozen? ⟨w.heap.size + 1, 0, none⟩ = false ∧ W.frozen? ⟨w.heap.size + 1, 1, none⟩ = false) ∧ Below w.heap.size w W ∧ (w.heap.size + 1 + 1) ≤ W.heap.size) ∧ (((l = l0) ∧ (a = a0)) ∨ (∃ n26, (l = (l0.setIfInBounds 4 true)) ∧ (a = (a0.put (some 26) (.slice (some ⟨n26, 0, none⟩) N N))) ∧ (((w.heap.size + 1 + 1) ≤ n26 ∧ n26 < W.heap.size) ∧ W.heap[n26]? = some (.cells (fC (mS s N 0) N) 24 (0, 0)))) ∨ (∃ n4, (l = (l0.setIfInBounds 6 true)) ∧ (a = (a0.put (some 4) (.pointer (some ⟨n4, 0, none⟩)))) ∧ (((w.heap.size + 1 + 1) ≤ n4 ∧ n4 < W.heap.size) ∧ W.heap[n4]? = some (.cells (#[.int .i64 0, .slice none 0 0]) 39 (0, 0)))) ∨ (∃ n26, (l = ((l0.setIfInBounds 4 true).setIfInBounds 5 true)) ∧ (a = ((a0.put (some 26) (.slice (some ⟨n26, 0, none⟩) N N)).put (some 27) (.agg #[.int .i64 E, .slice (some ⟨n26, 0, none⟩) N N]))) ∧ (((w.heap.size + 1 + 1) ≤ n26 ∧ n26 < W.heap.size) ∧ W.heap[n26]? = some (.cells (fC (mS s N 0) N) 24 (0, 0)))) ∨ (∃ n26 n4, (l = ((l0.setIfInBounds 4 true).setIfInBounds 6 true)) ∧ (a = ((a0.put (some 26) (.slice (some ⟨n26, 0, none⟩) N N)).put (some 4) (.pointer (some ⟨n4, 0, none⟩)))) ∧ (((w.heap.size + 1 + 1) ≤ n26 ∧ n26 < W.heap.size) ∧ W.heap[n26]? = some (.cells (fC (mS s N 0) N) 24 (0, 0))) ∧ (((w.heap.size + 1 + 1) ≤ n4 ∧ n4 < W.heap.size) ∧ W.heap[n4]? = some (.cells (#[.int .i64 0, .slice none 0 0]) 39 (0, 0))) ∧ (n26 ≠ n4)) ∨ (∃ n26 n4, (l = (((l0.setIfInBounds 4 true).setIfInBounds 5 true).setIfInBounds 6 true)) ∧ (a = (((a0.put (some 26) (.slice (some ⟨n26, 0, none⟩) N N)).put (some 27) (.agg #[.int .i64 E, .slice (some ⟨n26, 0, none⟩) N N])).put (some 4) (.pointer (some ⟨n4, 0, none⟩)))) ∧ (((w.heap.size + 1 + 1) ≤ n26 ∧ n26 < W.heap.size) ∧ W.heap[n26]? = some (.cells (fC (mS s N 0) N) 24 (0, 0))) ∧ (((w.heap.size + 1 + 1) ≤ n4 ∧ n4 < W.heap.size) ∧ W.heap[n4]? = some (.cells (#[.int .i64 0, .slice none 0 0]) 39 (0, 0))) ∧ (n26 ≠ n4)))) (by rfl) ?_ ?_ ?_
    · exact ⟨⟨hH1, by (repeat' (first | (with_reducible exact Below.refl _ _) | (with_reducible assumption) | (with_reducible refine Below.alloc ?_ ?_ _) | (with_reducible refine Below.drew ?_) | (with_reducible refine below_drewN ?_ _) | (with_reducible refine Below.setCell ?_ ?_ _) | (with_reducible refine below_step (by with_reducible assumption) ?_ ?_) | (with_reducible exact Below.size (by with_reducible assumption)) | go_size)), by first | omega | (simp only [World.size_alloc, World.size_setCell, World.size_drew, size_drewN]; omega)⟩, (Or.inl ⟨rfl, rfl⟩)⟩
    · intro l a W hI; exact hI.1.1
    intro l a W hI
    obtain ⟨⟨hSW, hB, hZ⟩, hI⟩ := hI
    have hSW' := hSW
    obtain ⟨cS0, cS1, cS2, cS3, cS4, cS5, cS6, cS7⟩ := hSW
    rcases hI with ⟨rfl, rfl⟩ | ⟨n26, rfl, rfl, ⟨⟨zn26, yn26⟩, d4_0⟩⟩ | ⟨n4, rfl, rfl, ⟨⟨zn4, yn4⟩, d6_0⟩⟩ | ⟨n26, rfl, rfl, ⟨⟨zn26, yn26⟩, d4_0⟩⟩ | ⟨n26, n4, rfl, rfl, ⟨⟨zn26, yn26⟩, d4_0⟩, ⟨⟨zn4, yn4⟩, d6_0⟩, hne0⟩ | ⟨n26, n4, rfl, rfl, ⟨⟨zn26, yn26⟩, d4_0⟩, ⟨⟨zn4, yn4⟩, d6_0⟩, hne0⟩
    · left
      refine ⟨[4, 6], by kernel_rfl, by simp, ?_⟩
      simp only [Act.put, List.getElem_toArray, List.getElem_cons_succ, List.getElem_cons_zero, List.setIfInBounds_toArray, List.set_cons_zero, List.set_cons_succ]
      refine all_cons ?_ (all_cons ?_ (all_nil))
      · refine wpOp_step rfl (fun Kq hKq => ?_)
        go_simp
        have hw1 : Below W.heap.size W (W.alloc (.cells (fC (mS s N 0) N) 24)) := by (repeat' (first | (with_reducible exact Below.refl _ _) | (with_reducible assumption) | (with_reducible refine Below.alloc ?_ ?_ _) | (with_reducible refine Below.drew ?_) | (with_reducible refine below_drewN ?_ _) | (with_reducible refine Below.setCell ?_ ?_ _) | (with_reducible refine below_step (by with_reducible assumption) ?_ ?_) | (with_reducible exact Below.size (by with_reducible assumption)) | go_size))
        have hz1 : (W.alloc (.cells (fC (mS s N 0) N) 24)).heap.size = W.heap.size + 1 := by simp
        have hc1 := (bcell hw1).1
        have hf1 := (bcell hw1).2
        refine hKq _ _ ?_
        exact ⟨⟨⟨(hc1 _ _ (by omega)).trans cS0, (hc1 _ _ (by omega)).trans cS1, (hc1 _ _ (by omega)).trans cS2, (hc1 _ _ (by omega)).trans cS3, (hc1 _ _ (by omega)).trans cS4, (hc1 _ _ (by omega)).trans cS5, (hf1 _ _ (by omega)).trans cS6, (hf1 _ _ (by omega)).trans cS7⟩, below_step hw1 hB (by have := hB.size; omega), by omega⟩, (Or.inr (Or.inl ⟨W.heap.size, by rfl, by rfl, ⟨⟨by omega, by omega⟩, heap_alloc_last W _⟩⟩))⟩
      · refine wpOp_step rfl (fun Kq hKq => ?_)
        go_simp
        have hw1 : Below W.heap.size W (W.alloc (.cells (#[.int .i64 0, .slice none 0 0]) 39)) := by (repeat' (first | (with_reducible exact Below.refl _ _) | (with_reducible assumption) | (with_reducible refine Below.alloc ?_ ?_ _) | (with_reducible refine Below.drew ?_) | (with_reducible refine below_drewN ?_ _) | (with_reducible refine Below.setCell ?_ ?_ _) | (with_reducible refine below_step (by with_reducible assumption) ?_ ?_) | (with_reducible exact Below.size (by with_reducible assumption)) | go_size))
        have hz1 : (W.alloc (.cells (#[.int .i64 0, .slice none 0 0]) 39)).heap.size = W.heap.size + 1 := by simp
        have hc1 := (bcell hw1).1
        have hf1 := (bcell hw1).2
        refine hKq _ _ ?_
        exact ⟨⟨⟨(hc1 _ _ (by omega)).trans cS0, (hc1 _ _ (by omega)).trans cS1, (hc1 _ _ (by omega)).trans cS2, (hc1 _ _ (by omega)).trans cS3, (hc1 _ _ (by omega)).trans cS4, (hc1 _ _ (by omega)).trans cS5, (hf1 _ _ (by omega)).trans cS6, (hf1 _ _ (by omega)).trans cS7⟩, below_step hw1 hB (by have := hB.size; omega), by omega⟩, (Or.inr (Or.inr (Or.inl ⟨W.heap.size, by rfl, by rfl, ⟨⟨by omega, by omega⟩, heap_alloc_last W _⟩⟩)))⟩
    · right; left
      apply jump_intro
      · intro hh; refine wpAnyH_fuel 3 (by rfl) ?_
        refine wpAnyH_pure (i := 5) (v := ?_) rfl (by kernel_rfl) (by kernel_rfl) (by kernel_rfl) (fun _ _ _ h => h) (by rfl) (by assumption) ?_ ?_
        rotate_left
        · (intro w hSw; (try dsimp only at hSw); go_simp; (try with_reducible rfl))
        exact wpAnyH_fuel _ (by kernel_rfl) hh
      · exact of_decide_eq_true (by kernel_rfl)
      · exact ⟨⟨hSW', hB, hZ⟩, (Or.inr (Or.inr (Or.inr (Or.inl ⟨n26, by kernel_rfl, by kernel_rfl, ⟨⟨zn26, yn26⟩, d4_0⟩⟩))))⟩
    · left
      refine ⟨[4], by kernel_rfl, by simp, ?_⟩
      simp only [Act.put, List.getElem_toArray, List.getElem_cons_succ, List.getElem_cons_zero, List.setIfInBounds_toArray, List.set_cons_zero, List.set_cons_succ]
      refine all_cons ?_ (all_nil)
      · refine wpOp_step rfl (fun Kq hKq => ?_)
        go_simp
        have hw1 : Below W.heap.size W (W.alloc (.cells (fC (mS s N 0) N) 24)) := by (repeat' (first | (with_reducible exact Below.refl _ _) | (with_reducible assumption) | (with_reducible refine Below.alloc ?_ ?_ _) | (with_reducible refine Below.drew ?_) | (with_reducible refine below_drewN ?_ _) | (with_reducible refine Below.setCell ?_ ?_ _) | (with_reducible refine below_step (by with_reducible assumption) ?_ ?_) | (with_reducible exact Below.size (by with_reducible assumption)) | go_size))
        have hz1 : (W.alloc (.cells (fC (mS s N 0) N) 24)).heap.size = W.heap.size + 1 := by simp
        have hc1 := (bcell hw1).1
        have hf1 := (bcell hw1).2
        refine hKq _ _ ?_
        exact ⟨⟨⟨(hc1 _ _ (by omega)).trans cS0, (hc1 _ _ (by omega)).trans cS1, (hc1 _ _ (by omega)).trans cS2, (hc1 _ _ (by omega)).trans cS3, (hc1 _ _ (by omega)).trans cS4, (hc1 _ _ (by omega)).trans cS5, (hf1 _ _ (by omega)).trans cS6, (hf1 _ _ (by omega)).trans cS7⟩, below_step hw1 hB (by have := hB.size; omega), by omega⟩, (Or.inr (Or.inr (Or.inr (Or.inr (Or.inl ⟨W.heap.size, n4, by rfl, by rfl, ⟨⟨by omega, by omega⟩, heap_alloc_last W _⟩, ⟨⟨zn4, by omega⟩, block_below0 hw1 d6_0⟩, by omega⟩)))))⟩
    · left
      refine ⟨[6], by kernel_rfl, by simp, ?_⟩
      simp only [Act.put, List.getElem_toArray, List.getElem_cons_succ, List.getElem_cons_zero, List.setIfInBounds_toArray, List.set_cons_zero, List.set_cons_succ]
      refine all_cons ?_ (all_nil)
      · refine wpOp_step rfl (fun Kq hKq => ?_)
        go_simp
        have hw1 : Below W.heap.size W (W.alloc (.cells (#[.int .i64 0, .slice none 0 0]) 39)) := by (repeat' (first | (with_reducible exact Below.refl _ _) | (with_reducible assumption) | (with_reducible refine Below.alloc ?_ ?_ _) | (with_reducible refine Below.drew ?_) | (with_reducible refine below_drewN ?_ _) | (with_reducible refine Below.setCell ?_ ?_ _) | (with_reducible refine below_step (by with_reducible assumption) ?_ ?_) | (with_reducible exact Below.size (by with_reducible assumption)) | go_size))
        have hz1 : (W.alloc (.cells (#[.int .i64 0, .slice none 0 0]) 39)).heap.size = W.heap.size + 1 := by simp
        have hc1 := (bcell hw1).1
        have hf1 := (bcell hw1).2
        refine hKq _ _ ?_
        exact ⟨⟨⟨(hc1 _ _ (by omega)).trans cS0, (hc1 _ _ (by omega)).trans cS1, (hc1 _ _ (by omega)).trans cS2, (hc1 _ _ (by omega)).trans cS3, (hc1 _ _ (by omega)).trans cS4, (hc1 _ _ (by omega)).trans cS5, (hf1 _ _ (by omega)).trans cS6, (hf1 _ _ (by omega)).trans cS7⟩, below_step hw1 hB (by have := hB.size; omega), by omega⟩, (Or.inr (Or.inr (Or.inr (Or.inr (Or.inr ⟨n26, W.heap.size, by rfl, by rfl, ⟨⟨zn26, by omega⟩, block_below0 hw1 d4_0⟩, ⟨⟨by omega, by omega⟩, heap_alloc_last W _⟩, by omega⟩)))))⟩
    · right; left
      apply jump_intro
      · intro hh; refine wpAnyH_fuel 2 (by rfl) ?_
        refine wpAnyH_pure (i := 5) (v := ?_) rfl (by kernel_rfl) (by kernel_rfl) (by kernel_rfl) (fun _ _ _ h => h) (by rfl) (by assumption) ?_ ?_
        rotate_left
        · (intro w hSw; (try dsimp only at hSw); go_simp; (try with_reducible rfl))
        exact wpAnyH_fuel _ (by kernel_rfl) hh
      · exact of_decide_eq_true (by kernel_rfl)
      · exact ⟨⟨hSW', hB, hZ⟩, (Or.inr (Or.inr (Or.inr (Or.inr (Or.inr ⟨n26, n4, by kernel_rfl, by kernel_rfl, ⟨⟨zn26, yn26⟩, d4_0⟩, ⟨⟨zn4, yn4⟩, d6_0⟩, by omega⟩)))))⟩
    right; right
    refine wpAnyH_fuel 1 (by rfl) ?_
    simp only [Act.put, List.getElem_toArray, List.getElem_cons_succ, List.getElem_cons_zero, List.setIfInBounds_toArray, List.set_cons_zero, List.set_cons_succ]
    have : ¬ n26 = w.heap.size := by omega
    have : ¬ w.heap.size = n26 := by omega
    have : ¬ n26 = w.heap.size + 1 := by omega
    have : ¬ w.heap.size + 1 = n26 := by omega
    have : ¬ n4 = w.heap.size := by omega
    have : ¬ w.heap.size = n4 := by omega
    have : ¬ n4 = w.heap.size + 1 := by omega
    have : ¬ w.heap.size + 1 = n4 := by omega
    have : ¬ n26 = n4 := by omega
    have : ¬ n4 = n26 := by omega
    clear hH1
    have ca4_0 : W.cell? ⟨n4, 0, none⟩ = some (.int .i64 0) := cell_block d6_0
    have fa4_0 : W.frozen? ⟨n4, 0, none⟩ = false := frozen_block d6_0
    have ca4_1 : W.cell? ⟨n4, 1, none⟩ = some (.slice none 0 0) := cell_block d6_0
    have fa4_1 : W.frozen? ⟨n4, 1, none⟩ = false := frozen_block d6_0
    refine wpAnyH_ready (rs := [7]) (by kernel_rfl) (by simp) ?_
    refine AllReadyH.cons rfl (fun Kq hKq => ?_) AllReadyH.nil
    go_simp
    refine hKq.out _ _ ?_ (fun hH2 => ?_)
    · exact ⟨(World.cell?_setCell_far _ _ _ _ (by first | assumption | (dsimp only; omega))).trans ((World.cell?_setCell_far _ _ _ _ (by first | assumption | (dsimp only; omega))).trans (cS0)), (World.cell?_setCell_far _ _ _ _ (by first | assumption | (dsimp only; omega))).trans ((World.cell?_setCell_far _ _ _ _ (by first | assumption | (dsimp only; omega))).trans (cS1)), (World.cell?_setCell_far _ _ _ _ (by first | assumption | (dsimp only; omega))).trans ((World.cell?_setCell_far _ _ _ _ (by first | assumption | (dsimp only; omega))).trans (cS2)), (World.cell?_setCell_far _ _ _ _ (by first | assumption | (dsimp only; omega))).trans ((World.cell?_setCell_far _ _ _ _ (by first | assumption | (dsimp only; omega))).trans (cS3)), (World.cell?_setCell_far _ _ _ _ (by first | assumption | (dsimp only; omega))).trans ((World.cell?_setCell_far _ _ _ _ (by first | assumption | (dsimp only; omega))).trans (cS4)), (World.cell?_setCell_far _ _ _ _ (by first | assumption | (dsimp only; omega))).trans ((World.cell?_setCell_far _ _ _ _ (by first | assumption | (dsimp only; omega))).trans (cS5)), (World.frozen?_setCell _ _ _ _).trans ((World.frozen?_setCell _ _ _ _).trans (cS6)), (World.frozen?_setCell _ _ _ _).trans ((World.frozen?_setCell _ _ _ _).trans (cS7))⟩
    clear hKq Kq
    have hH2k := hH2
    obtain ⟨cS0hH2, cS1hH2, cS2hH2, cS3hH2, cS4hH2, cS5hH2, cS6hH2, cS7hH2⟩ := hH2k
    refine wpAnyH_fin (T := fun W => (W.cell? ⟨w.heap.size, 0, none⟩ = some (.int .i64 (E)) ∧ W.cell? ⟨w.heap.size, 1, none⟩ = some (.slice qS n cS) ∧ W.cell? ⟨w.heap.size, 2, none⟩ = some (.slice qR m cR) ∧ W.cell? ⟨w.heap.size, 3, none⟩ = some (.int .i64 (M)) ∧ W.cell? ⟨w.heap.size + 1, 0, none⟩ = some (.int .i64 (0)) ∧ W.cell? ⟨w.heap.size + 1, 1, none⟩ = some (.slice none 0 0) ∧ W.frozen? ⟨w.heap.size + 1, 0, none⟩ = false ∧ W.frozen? ⟨w.heap.size + 1, 1, none⟩ = false) ∧ (W.heap[n26]? = some (.cells (fC (mS s N 0) N) 24 (0, 0)) ∧ W.heap[n4]? = some (.cells (#[.int .i64 E, .slice (some ⟨n26, 0, none⟩) N N]) 39 (0, 0))) ∧ (((w.heap.size + 1 + 1) ≤ n26 ∧ n26 < W.heap.size) ∧ ((w.heap.size + 1 + 1) ≤ n4 ∧ n4 < W.heap.size) ∧ (w.heap.size + 1 + 1) ≤ W.heap.size) ∧ Below w.heap.size w W) (by kernel_rfl) ⟨hH2, ?_, ?_, ?_⟩ (fun W1 hT => ?_)
    · exact ⟨(block_setCell_other (by assumption)).trans ((block_setCell_other (by assumption)).trans (d4_0)), block_setCell (block_setCell (d6_0))⟩
    · exact ⟨⟨zn26, (Array.getElem?_eq_some_iff.1 ((block_setCell_other (by assumption)).trans ((block_setCell_other (by assumption)).trans (d4_0)))).1⟩, ⟨zn4, (Array.getElem?_eq_some_iff.1 (block_setCell (block_setCell (d6_0)))).1⟩, Nat.le_of_lt (Nat.lt_of_le_of_lt zn26 ((Array.getElem?_eq_some_iff.1 ((block_setCell_other (by assumption)).trans ((block_setCell_other (by assumption)).trans (d4_0)))).1))⟩
    · exact ((hB.setCell (p := ⟨n4, _, none⟩) (by dsimp only; omega) _).setCell (p := ⟨n4, _, none⟩) (by dsimp only; omega) _)
    obtain ⟨⟨gS0, gS1, gS2, gS3, gS4, gS5, gS6, gS7⟩, ⟨gF0, gF1⟩, ⟨⟨zln26, gZ0⟩, ⟨zln4, gZ1⟩, gZ2⟩, hB1⟩ := hT
    clear hSW' hH2 hB hZ cS0hH2 cS1hH2 cS2hH2 cS3hH2 cS4hH2 cS5hH2 cS6hH2 cS7hH2 ca4_0 fa4_0 ca4_1 fa4_1 zn26 yn26 d4_0 zn4 yn4 d6_0
    have cn4W1_0 : W1.cell? ⟨n4, 0, none⟩ = some (.int .i64 E) := cell_block gF1
    have pn4W1_0 : W1.frozen? ⟨n4, 0, none⟩ = false := frozen_block gF1
    have cn4W1_1 : W1.cell? ⟨n4, 1, none⟩ = some (.slice (some ⟨n26, 0, none⟩) N N) := cell_block gF1
    have pn4W1_1 : W1.frozen? ⟨n4, 1, none⟩ = false := frozen_block gF1
    go_wp2
    go_loopw [5] (fun i wr => ∃ k : Nat, k ≤ n ∧ i = .int .i64 (k : Int) ∧ Below w.heap.size w wr ∧ (wr.cell? ⟨w.heap.size, 0, none⟩ = some (.int .i64 E) ∧ wr.cell? ⟨w.heap.size, 1, none⟩ = some (.slice qS n cS) ∧ wr.cell? ⟨w.heap.size, 2, none⟩ = some (.slice qR m cR) ∧ wr.cell? ⟨w.heap.size, 3, none⟩ = some (.int .i64 M)) ∧ (wr.cell? ⟨n4, 0, none⟩ = some (.int .i64 E) ∧ wr.cell? ⟨n4, 1, none⟩ = some (.slice (some ⟨n26, 0, none⟩) N N)) ∧ (wr.cell? ⟨w.heap.size + 1, 0, none⟩ = some (.int .i64 0) ∧ wr.cell? ⟨w.heap.size + 1, 1, none⟩ = some (.slice none 0 0) ∧ wr.frozen? ⟨w.heap.size + 1, 0, none⟩ = false ∧ wr.frozen? ⟨w.heap.size + 1, 1, none⟩ = false) ∧ wr.heap[n26]? = some (.cells (fC (mS s N k) N) 24 (0, 0))) (fun i _ => n - (intOf i).toNat)
    case atStart => exact ⟨0, Nat.zero_le _, rfl, hB1, ⟨gS0, gS1, gS2, gS3⟩, ⟨cn4W1_0, cn4W1_1⟩, ⟨gS4, gS5, gS6, gS7⟩, gF0⟩
    case round =>
      obtain ⟨k, hk, rfl, hB, ⟨hp0, hp1, hp2, hp3⟩, ⟨hm0, hm1⟩, ⟨hr0, hr1, hr2, hr3⟩, hg⟩ := hrel
      by_cases hlt : k < n ∧ 0 < N
      · obtain ⟨hl, hn⟩ := hlt
        rcases HS1.out with h0 | ⟨b, o, rfl, hb, hcell⟩
        · omega
        have c0 := (hB.cell (p := ⟨b, o + k * 2, none⟩) hb).trans (hcell k hl).1
        have c1 := (hB.cell (p := ⟨b, o + k * 2 + 1, none⟩) hb).trans (hcell k hl).2
        obtain ⟨j, hj⟩ : ∃ j : Nat, (s k).1 % (N : Int) = (j : Int) := ⟨((s k).1 % (N : Int)).toNat, by have := Int.emod_nonneg (s k).1 (show (N : Int) ≠ 0 by omega); omega⟩
        have hjN : j < N := by have := Int.emod_lt_of_pos (s k).1 (show (0 : Int) < N by omega); omega
        have hsk := HSB.out k hl
        have KM := Lib.hid (fun W => modB_full (s k).1 (N : Int) W (by omega) hsk.1 hsk.2 (by omega))
        rw [hj] at KM
        have HSET := Lib.hid (mS_succ s N k j hj hjN)
        have cv : ∀ w, _ := fun w => run_float32 (max (-4000) (min 4000 (s k).2)) w
        unfold f32 at cv
        have d1 : wr.cell? ⟨n26, j, none⟩ = some (.float .f32 (mS s N k j)) := (cell_block hg).trans (fC_get _ hjN)
        have f1 : wr.frozen? ⟨n26, j, none⟩ = false := frozen_block hg
        clear hcell hj hsk
        generalize (s k).1 = s1 at *
        generalize (s k).2 = s2 at *
        generalize wd Ieee.single (max (-4000) (min 4000 s2)) = v at *
        generalize mS s N k j = v0 at *
        have G := Lib.hid hg
        have HB := Lib.hid hB
        clear hg hB
        have e0 : (0 : Int) ≤ (k : Int) := by omega
        have e1 : (k : Int) < (n : Int) := by omega
        have e2 : (0 : Int) < (N : Int) := by omega
        have e3 : (0 : Int) ≤ (j : Int) := by omega
        have e4 : (j : Int) < (N : Int) := by omega
        go_wp2
        refine wp_region_held_drew (S := fun w' => w'.cell? ⟨w.heap.size, 0, none⟩ = some (.int .i64 (E)) ∧ w'.cell? ⟨w.heap.size, 1, none⟩ = some (.slice (some ⟨b, o, none⟩) n cS) ∧ w'.cell? ⟨w.heap.size, 2, none⟩ = some (.slice qR m cR) ∧ w'.cell? ⟨w.heap.size, 3, none⟩ = some (.int .i64 (M)) ∧ w'.cell? ⟨w.heap.size + 1, 0, none⟩ = some (.int .i64 (0)) ∧ w'.cell? ⟨w.heap.size + 1, 1, none⟩ = some (.slice none 0 0) ∧ w'.cell? ⟨n4, 0, none⟩ = some (.int .i64 E) ∧ w'.cell? ⟨n4, 1, none⟩ = some (.slice (some ⟨n26, 0, none⟩) N N) ∧ w'.cell? ⟨b, o + k * 2, none⟩ = some (.int .i64 (s1)) ∧ w'.cell? ⟨b, o + k * 2 + 1, none⟩ = some (.int .i64 (s2)) ∧ w'.frozen? ⟨w.heap.size + 1, 0, none⟩ = false ∧ w'.frozen? ⟨w.heap.size + 1, 1, none⟩ = false) (by kernel_rfl) ?_ (fun hH3 => ?_)
        · (first | assumption | (refine ⟨?_, ?_, ?_, ?_, ?_, ?_, ?_, ?_, ?_, ?_, ?_, ?_⟩ <;> assumption) | (go_keep; done) | (simp [*, go_sem]; done))
        refine wpAnyH_pure (i := 0) (v := ?_) rfl (by kernel_rfl) (by kernel_rfl) (by kernel_rfl) (fun _ _ _ h => h) (by rfl) (by assumption) ?_ ?_
        rotate_left
        · (intro w hSw; (try dsimp only at hSw); go_simp; (try with_reducible rfl))
        simp only [Act.put, List.getElem_toArray, List.getElem_cons_succ, List.getElem_cons_zero, List.setIfInBounds_toArray, List.set_cons_zero, List.set_cons_succ]
        refine wpAnyH_pure (i := 1) (v := ?_) rfl (by kernel_rfl) (by kernel_rfl) (by kernel_rfl) (fun _ _ _ h => h) (by rfl) (by assumption) ?_ ?_
        rotate_left
        · (intro w hSw; (try dsimp only at hSw); go_simp; (try with_reducible rfl))
        simp only [Act.put, List.getElem_toArray, List.getElem_cons_succ, List.getElem_cons_zero, List.setIfInBounds_toArray, List.set_cons_zero, List.set_cons_succ]
        refine wpAnyH_pure (i := 2) (v := ?_) rfl (by kernel_rfl) (by kernel_rfl) (by kernel_rfl) (fun _ _ _ h => h) (by rfl) (by assumption) ?_ ?_
        rotate_left
        · (intro w hSw; (try dsimp only at hSw); go_simp; (try with_reducible rfl))
        simp only [Act.put, List.getElem_toArray, List.getElem_cons_succ, List.getElem_cons_zero, List.setIfInBounds_toArray, List.set_cons_zero, List.set_cons_succ]
        refine wpAnyH_pure (i := 3) (v := ?_) rfl (by kernel_rfl) (by kernel_rfl) (by kernel_rfl) (fun _ _ _ h => h) (by rfl) (by assumption) ?_ ?_
        rotate_left
        · (intro w hSw; (try dsimp only at hSw); go_simp; (try with_reducible rfl))
        simp only [Act.put, List.getElem_toArray, List.getElem_cons_succ, List.getElem_cons_zero, List.setIfInBounds_toArray, List.set_cons_zero, List.set_cons_succ]
        refine wpAnyH_pure (i := 4) (v := ?_) rfl (by kernel_rfl) (by kernel_rfl) (by kernel_rfl) (fun _ _ _ h => h) (by rfl) (by assumption) ?_ ?_
        rotate_left
        · (intro w hSw; (try dsimp only at hSw); go_simp; (try with_reducible rfl))
        simp only [Act.put, List.getElem_toArray, List.getElem_cons_succ, List.getElem_cons_zero, List.setIfInBounds_toArray, List.set_cons_zero, List.set_cons_succ]
        refine wpAnyH_pure (i := 5) (v := ?_) rfl (by kernel_rfl) (by kernel_rfl) (by kernel_rfl) (fun _ _ _ h => h) (by rfl) (by assumption) ?_ ?_
        rotate_left
        · (intro w hSw; (try dsimp only at hSw); go_simp; (try with_reducible rfl))
        simp only [Act.put, List.getElem_toArray, List.getElem_cons_succ, List.getElem_cons_zero, List.setIfInBounds_toArray, List.set_cons_zero, List.set_cons_succ]
        refine wpAnyH_pure (i := 6) (v := ?_) rfl (by kernel_rfl) (by kernel_rfl) (by kernel_rfl) (fun _ _ _ h => h) (by rfl) (by assumption) ?_ ?_
        rotate_left
        · (intro w hSw; (try dsimp only at hSw); go_simp; (try with_reducible rfl))
        simp only [Act.put, List.getElem_toArray, List.getElem_cons_succ, List.getElem_cons_zero, List.setIfInBounds_toArray, List.set_cons_zero, List.set_cons_succ]
        refine wpAnyH_pure (i := 7) (v := ?_) rfl (by kernel_rfl) (by kernel_rfl) (by kernel_rfl) (fun _ _ _ h => h) (by rfl) (by assumption) ?_ ?_
        rotate_left
        · (intro w hSw; (try dsimp only at hSw); go_simp; (try with_reducible rfl))
        simp only [Act.put, List.getElem_toArray, List.getElem_cons_succ, List.getElem_cons_zero, List.setIfInBounds_toArray, List.set_cons_zero, List.set_cons_succ]
        refine wpAnyH_pure (i := 8) (v := ?_) rfl (by kernel_rfl) (by kernel_rfl) (by kernel_rfl) (fun _ _ _ h => h) (by rfl) (by assumption) ?_ ?_
        rotate_left
        · (intro w hSw; (try dsimp only at hSw); go_simp; (try with_reducible rfl))
        simp only [Act.put, List.getElem_toArray, List.getElem_cons_succ, List.getElem_cons_zero, List.setIfInBounds_toArray, List.set_cons_zero, List.set_cons_succ]
        refine wpAnyH_pure (i := 9) (v := ?_) rfl (by kernel_rfl) (by kernel_rfl) (by kernel_rfl) (fun _ _ _ h => h) (by rfl) (by assumption) ?_ ?_
        rotate_left
        · (intro w hSw; (try dsimp only at hSw); go_simp; (try with_reducible rfl))
        simp only [Act.put, List.getElem_toArray, List.getElem_cons_succ, List.getElem_cons_zero, List.setIfInBounds_toArray, List.set_cons_zero, List.set_cons_succ]
        refine wpAnyH_pure (i := 10) (v := ?_) rfl (by kernel_rfl) (by kernel_rfl) (by kernel_rfl) (fun _ _ _ h => h) (by rfl) (by assumption) ?_ ?_
        rotate_left
        · (intro w hSw; (try dsimp only at hSw); go_simp; (try with_reducible rfl))
        simp only [Act.put, List.getElem_toArray, List.getElem_cons_succ, List.getElem_cons_zero, List.setIfInBounds_toArray, List.set_cons_zero, List.set_cons_succ]
        refine wpAnyH_pure (i := 12) (v := ?_) rfl (by kernel_rfl) (by kernel_rfl) (by kernel_rfl) (fun _ _ _ h => h) (by rfl) (by assumption) ?_ ?_
        rotate_left
        · (intro w hSw; (try dsimp only at hSw); go_simp; (try with_reducible rfl))
        simp only [Act.put, List.getElem_toArray, List.getElem_cons_succ, List.getElem_cons_zero, List.setIfInBounds_toArray, List.set_cons_zero, List.set_cons_succ]
        refine wpAnyH_pure (i := 13) (v := ?_) rfl (by kernel_rfl) (by kernel_rfl) (by kernel_rfl) (fun _ _ _ h => h) (by rfl) (by assumption) ?_ ?_
        rotate_left
        · (intro w hSw; (try dsimp only at hSw); go_simp; (try with_reducible rfl))
        simp only [Act.put, List.getElem_toArray, List.getElem_cons_succ, List.getElem_cons_zero, List.setIfInBounds_toArray, List.set_cons_zero, List.set_cons_succ]
        refine wpAnyH_pure (i := 14) (v := ?_) rfl (by kernel_rfl) (by kernel_rfl) (by kernel_rfl) (fun _ _ _ h => h) (by rfl) (by assumption) ?_ ?_
        rotate_left
        · (intro w hSw; (try dsimp only at hSw); go_simp; (try with_reducible rfl))
        simp only [Act.put, List.getElem_toArray, List.getElem_cons_succ, List.getElem_cons_zero, List.setIfInBounds_toArray, List.set_cons_zero, List.set_cons_succ]
        refine wpAnyH_pure (i := 15) (v := ?_) rfl (by kernel_rfl) (by kernel_rfl) (by kernel_rfl) (fun _ _ _ h => h) (by rfl) (by assumption) ?_ ?_
        rotate_left
        · (intro w hSw; (try dsimp only at hSw); go_simp; (try with_reducible rfl))
        simp only [Act.put, List.getElem_toArray, List.getElem_cons_succ, List.getElem_cons_zero, List.setIfInBounds_toArray, List.set_cons_zero, List.set_cons_succ]
        refine wpAnyH_pure (i := 16) (v := ?_) rfl (by kernel_rfl) (by kernel_rfl) (by kernel_rfl) (fun _ _ _ h => h) (by rfl) (by assumption) ?_ ?_
        rotate_left
        · (intro w hSw; (try dsimp only at hSw); go_simp; (try with_reducible rfl))
        simp only [Act.put, List.getElem_toArray, List.getElem_cons_succ, List.getElem_cons_zero, List.setIfInBounds_toArray, List.set_cons_zero, List.set_cons_succ]
        refine wpAnyH_pure (i := 17) (v := ?_) rfl (by kernel_rfl) (by kernel_rfl) (by kernel_rfl) (fun _ _ _ h => h) (by rfl) (by assumption) ?_ ?_
        rotate_left
        · (intro w hSw; (try dsimp only at hSw); go_simp; (try with_reducible rfl))
        simp only [Act.put, List.getElem_toArray, List.getElem_cons_succ, List.getElem_cons_zero, List.setIfInBounds_toArray, List.set_cons_zero, List.set_cons_succ]
        refine wpAnyH_pure (i := 18) (v := ?_) rfl (by kernel_rfl) (by kernel_rfl) (by kernel_rfl) (fun _ _ _ h => h) (by rfl) (by assumption) ?_ ?_
        rotate_left
        · (intro w hSw; (try dsimp only at hSw); go_simp; (try with_reducible rfl))
        simp only [Act.put, List.getElem_toArray, List.getElem_cons_succ, List.getElem_cons_zero, List.setIfInBounds_toArray, List.set_cons_zero, List.set_cons_succ]
        refine wpAnyH_pure (i := 19) (v := ?_) rfl (by kernel_rfl) (by kernel_rfl) (by kernel_rfl) (fun _ _ _ h => h) (by rfl) (by assumption) ?_ ?_
        rotate_left
        · (intro w hSw; (try dsimp only at hSw); go_simp; (try with_reducible rfl))
        simp only [Act.put, List.getElem_toArray, List.getElem_cons_succ, List.getElem_cons_zero, List.setIfInBounds_toArray, List.set_cons_zero, List.set_cons_succ]
        refine wpAnyH_pure (i := 20) (v := ?_) rfl (by kernel_rfl) (by kernel_rfl) (by kernel_rfl) (fun _ _ _ h => h) (by rfl) (by assumption) ?_ ?_
        rotate_left
        · (intro w hSw; (try dsimp only at hSw); go_simp; (try with_reducible rfl))
        simp only [Act.put, List.getElem_toArray, List.getElem_cons_succ, List.getElem_cons_zero, List.setIfInBounds_toArray, List.set_cons_zero, List.set_cons_succ]
        refine wpAnyH_ready (rs := [11]) (by kernel_rfl) (by simp) ?_
        refine AllReadyH.cons rfl (fun Kq hKq => ?_) AllReadyH.nil
        go_simp
        refine (KM.out _).mono ?_
        (rintro e w' ⟨rfl, rfl⟩)
        refine hKq.out _ _ ?_ (fun hH4 => ?_)
        · (first | assumption | (refine ⟨?_, ?_, ?_, ?_, ?_, ?_, ?_, ?_, ?_, ?_, ?_, ?_⟩ <;> assumption) | (go_keep; done) | (simp [*, go_sem]; done))
        clear hKq Kq
        clear hH3
        refine wpAnyH_pure (i := 21) (v := ?_) rfl (by kernel_rfl) (by kernel_rfl) (by kernel_rfl) (fun _ _ _ h => h) (by rfl) (by assumption) ?_ ?_
        rotate_left
        · (intro w hSw; (try dsimp only at hSw); go_simp; (try with_reducible rfl))
        simp only [Act.put, List.getElem_toArray, List.getElem_cons_succ, List.getElem_cons_zero, List.setIfInBounds_toArray, List.set_cons_zero, List.set_cons_succ]
        refine wpAnyH_ready (rs := [22]) (by kernel_rfl) (by simp) ?_
        refine AllReadyH.cons rfl (fun Kq hKq => ?_) AllReadyH.nil
        go_simp
        refine hKq.out _ _ ?_ (fun hH5 => ?_)
        · (first | (refine ⟨?_, ?_, ?_, ?_, ?_, ?_, ?_, ?_, ?_, ?_, ?_, ?_⟩ <;> ((repeat (first | refine (World.cell?_setCell_far _ _ _ _ (by dsimp only; omega)).trans ?_ | refine (World.frozen?_setCell _ _ _ _).trans ?_ | refine (block_setCell_other (by dsimp only; omega)).trans ?_)); with_reducible assumption)) | (first | assumption | (refine ⟨?_, ?_, ?_, ?_, ?_, ?_, ?_, ?_, ?_, ?_, ?_, ?_⟩ <;> assumption) | (go_keep; done) | (simp [*, go_sem]; done)) | (go_keep; done) | (simp [*, go_sem]; done))
        clear hKq Kq
        clear hH4
        refine wpAnyH_done (by kernel_rfl) ?_ _
        go_wp2
        go_roundw
        case rel =>
          refine ⟨k + 1, by omega, by go_num, by have := HB.out; (repeat' (first | (with_reducible exact Below.refl _ _) | (with_reducible assumption) | (with_reducible refine Below.alloc ?_ ?_ _) | (with_reducible refine Below.drew ?_) | (with_reducible refine below_drewN ?_ _) | (with_reducible refine Below.setCell ?_ ?_ _) | (with_reducible refine below_step (by with_reducible assumption) ?_ ?_) | (with_reducible exact Below.size (by with_reducible assumption)) | go_size)), ⟨?_, ?_, ?_, ?_⟩, ⟨?_, ?_⟩, ⟨?_, ?_, ?_, ?_⟩, ?_⟩
          · exact (World.cell?_setCell_far _ _ _ _ (by dsimp only; omega)).trans hp0
          · exact (World.cell?_setCell_far _ _ _ _ (by dsimp only; omega)).trans hp1
          · exact (World.cell?_setCell_far _ _ _ _ (by dsimp only; omega)).trans hp2
          · exact (World.cell?_setCell_far _ _ _ _ (by dsimp only; omega)).trans hp3
          · exact (World.cell?_setCell_far _ _ _ _ (by dsimp only; omega)).trans hm0
          · exact (World.cell?_setCell_far _ _ _ _ (by dsimp only; omega)).trans hm1
          · exact (World.cell?_setCell_far _ _ _ _ (by dsimp only; omega)).trans hr0
          · exact (World.cell?_setCell_far _ _ _ _ (by dsimp only; omega)).trans hr1
          · exact (World.frozen?_setCell _ _ _ _).trans hr2
          · exact (World.frozen?_setCell _ _ _ _).trans hr3
          · exact (block_setCell G.out).trans (by rw [HSET.out])
        case measure => simp [intOf]; omega
      · have hfc : fC (mS s N k) N = fC (mS s N n) N := by
          by_cases c : k = n
          · rw [c]
          · exact fC_congr fun i hi => by omega
        rw [hfc] at hg
        have HB := Lib.hid hB
        have G := Lib.hid hg
        clear hg hB hfc
        have hk0 : 0 < k ∨ k = 0 := by omega
        by_cases e1 : k < n
        · have e2 : ¬ (0 : Int) < (N : Int) := by omega
          have e1' : (k : Int) < (n : Int) := by omega
          go_wp2
          go_loopw [6] (fun i wr => ∃ l : Nat, l ≤ m ∧ l ≤ N ∧ i = .int .i64 (l : Int) ∧ Below w.heap.size w wr ∧ (wr.cell? ⟨w.heap.size, 0, none⟩ = some (.int .i64 E) ∧ wr.cell? ⟨w.heap.size, 1, none⟩ = some (.slice qS n cS) ∧ wr.cell? ⟨w.heap.size, 2, none⟩ = some (.slice qR m cR) ∧ wr.cell? ⟨w.heap.size, 3, none⟩ = some (.int .i64 M)) ∧ (wr.cell? ⟨n4, 0, none⟩ = some (.int .i64 E) ∧ wr.cell? ⟨n4, 1, none⟩ = some (.slice (some ⟨n26, 0, none⟩) N N)) ∧ (wr.cell? ⟨w.heap.size + 1, 0, none⟩ = some (.int .i64 0) ∧ wr.cell? ⟨w.heap.size + 1, 1, none⟩ = some (.slice none 0 0) ∧ wr.frozen? ⟨w.heap.size + 1, 0, none⟩ = false ∧ wr.frozen? ⟨w.heap.size + 1, 1, none⟩ = false) ∧ wr.heap[n26]? = some (.cells (fC (mR (mS s N n) r l) N) 24 (0, 0))) (fun i _ => m - (intOf i).toNat)
          case atStart => exact ⟨0, Nat.zero_le _, Nat.zero_le _, rfl, HB.out, ⟨hp0, hp1, hp2, hp3⟩, ⟨hm0, hm1⟩, ⟨hr0, hr1, hr2, hr3⟩, by rw [G.out, fC_congr (u := mR (mS s N n) r 0) (v := mS s N n) (fun i _ => by unfold mR; rw [if_neg (by omega)])]⟩
          case round =>
            obtain ⟨l, hh, hhN, rfl, hB2, ⟨gp0, gp1, gp2, gp3⟩, ⟨gm0, gm1⟩, ⟨gr0, gr1, gr2, gr3⟩, hg2⟩ := hrel
            by_cases hlt2 : l < m ∧ l < N
            · omega
            · have hfin : fC (mR (mS s N n) r l) N = fC U N := by
                rw [HU.out]
                exact fC_congr fun i hi => by unfold mR; by_cases c : i < l; rw [if_pos c, if_pos (by omega)]; rw [if_neg c, if_neg (by omega)]
              rw [hfin] at hg2
              have HB2 := Lib.hid hB2
              have G2 := Lib.hid hg2
              clear hg2 hB2 hfin
              by_cases hlm : l < m
              · have i1 : (l : Int) < (m : Int) := by omega
                have i2 : ¬ (l : Int) < (N : Int) := by omega
                go_wp2
                refine bodyPost_ret (by simp [results, Try.results25, go_sem, *]; rfl) rfl ?_
                exact ⟨_, rfl, ⟨by omega, by first | exact G2.out | exact (block_setCell_other (by omega)).trans ((block_setCell_other (by omega)).trans G2.out)⟩, by have := HB2.out; (repeat' (first | (with_reducible exact Below.refl _ _) | (with_reducible assumption) | (with_reducible refine Below.alloc ?_ ?_ _) | (with_reducible refine Below.drew ?_) | (with_reducible refine below_drewN ?_ _) | (with_reducible refine Below.setCell ?_ ?_ _) | (with_reducible refine below_step (by with_reducible assumption) ?_ ?_) | (with_reducible exact Below.size (by with_reducible assumption)) | go_size))⟩
              · have i1 : ¬ (l : Int) < (m : Int) := by omega
                go_wp2
                refine bodyPost_ret (by simp [results, Try.results25, go_sem, *]; rfl) rfl ?_
                exact ⟨_, rfl, ⟨by omega, by first | exact G2.out | exact (block_setCell_other (by omega)).trans ((block_setCell_other (by omega)).trans G2.out)⟩, by have := HB2.out; (repeat' (first | (with_reducible exact Below.refl _ _) | (with_reducible assumption) | (with_reducible refine Below.alloc ?_ ?_ _) | (with_reducible refine Below.drew ?_) | (with_reducible refine below_drewN ?_ _) | (with_reducible refine Below.setCell ?_ ?_ _) | (with_reducible refine below_step (by with_reducible assumption) ?_ ?_) | (with_reducible exact Below.size (by with_reducible assumption)) | go_size))⟩
        · have e1' : ¬ (k : Int) < (n : Int) := by omega
          go_wp2
          go_loopw [6] (fun i wr => ∃ l : Nat, l ≤ m ∧ l ≤ N ∧ i = .int .i64 (l : Int) ∧ Below w.heap.size w wr ∧ (wr.cell? ⟨w.heap.size, 0, none⟩ = some (.int .i64 E) ∧ wr.cell? ⟨w.heap.size, 1, none⟩ = some (.slice qS n cS) ∧ wr.cell? ⟨w.heap.size, 2, none⟩ = some (.slice qR m cR) ∧ wr.cell? ⟨w.heap.size, 3, none⟩ = some (.int .i64 M)) ∧ (wr.cell? ⟨n4, 0, none⟩ = some (.int .i64 E) ∧ wr.cell? ⟨n4, 1, none⟩ = some (.slice (some ⟨n26, 0, none⟩) N N)) ∧ (wr.cell? ⟨w.heap.size + 1, 0, none⟩ = some (.int .i64 0) ∧ wr.cell? ⟨w.heap.size + 1, 1, none⟩ = some (.slice none 0 0) ∧ wr.frozen? ⟨w.heap.size + 1, 0, none⟩ = false ∧ wr.frozen? ⟨w.heap.size + 1, 1, none⟩ = false) ∧ wr.heap[n26]? = some (.cells (fC (mR (mS s N n) r l) N) 24 (0, 0))) (fun i _ => m - (intOf i).toNat)
          case atStart => exact ⟨0, Nat.zero_le _, Nat.zero_le _, rfl, HB.out, ⟨hp0, hp1, hp2, hp3⟩, ⟨hm0, hm1⟩, ⟨hr0, hr1, hr2, hr3⟩, by rw [G.out, fC_congr (u := mR (mS s N n) r 0) (v := mS s N n) (fun i _ => by unfold mR; rw [if_neg (by omega)])]⟩
          case round =>
            obtain ⟨l, hh, hhN, rfl, hB2, ⟨gp0, gp1, gp2, gp3⟩, ⟨gm0, gm1⟩, ⟨gr0, gr1, gr2, gr3⟩, hg2⟩ := hrel
            by_cases hlt2 : l < m ∧ l < N
            · obtain ⟨hl2, hn2⟩ := hlt2
              rcases HR1.out with h0 | ⟨b, o, rfl, hb, hcell⟩
              · omega
              have c0 := (hB2.cell (p := ⟨b, o + l, none⟩) hb).trans (hcell l hl2)
              have HSET := Lib.hid (mR_succ (mS s N n) r N hn2)
              have d1 : wr.cell? ⟨n26, l, none⟩ = some (.float .f32 (mR (mS s N n) r l l)) := (cell_block hg2).trans (fC_get _ hn2)
              have f1 : wr.frozen? ⟨n26, l, none⟩ = false := frozen_block hg2
              clear hcell
              generalize r l = v at *
              generalize mR (mS s N n) r l l = v0 at *
              have G2 := Lib.hid hg2
              have HB2 := Lib.hid hB2
              clear hg2 hB2
              have i0 : (0 : Int) ≤ (l : Int) := by omega
              have i1 : (l : Int) < (m : Int) := by omega
              have i2 : (l : Int) < (N : Int) := by omega
              go_wp2
              refine wp_region_held_drew (S := fun w' => w'.cell? ⟨w.heap.size, 0, none⟩ = some (.int .i64 (E)) ∧ w'.cell? ⟨w.heap.size, 1, none⟩ = some (.slice qS n cS) ∧ w'.cell? ⟨w.heap.size, 2, none⟩ = some (.slice (some ⟨b, o, none⟩) m cR) ∧ w'.cell? ⟨w.heap.size, 3, none⟩ = some (.int .i64 (M)) ∧ w'.cell? ⟨w.heap.size + 1, 0, none⟩ = some (.int .i64 (0)) ∧ w'.cell? ⟨w.heap.size + 1, 1, none⟩ = some (.slice none 0 0) ∧ w'.cell? ⟨n4, 0, none⟩ = some (.int .i64 E) ∧ w'.cell? ⟨n4, 1, none⟩ = some (.slice (some ⟨n26, 0, none⟩) N N) ∧ w'.cell? ⟨b, o + l, none⟩ = some (.float .f32 v) ∧ w'.frozen? ⟨w.heap.size + 1, 0, none⟩ = false ∧ w'.frozen? ⟨w.heap.size + 1, 1, none⟩ = false) (by kernel_rfl) ?_ (fun hH6 => ?_)
              · (first | assumption | (refine ⟨?_, ?_, ?_, ?_, ?_, ?_, ?_, ?_, ?_, ?_, ?_⟩ <;> assumption) | (go_keep; done) | (simp [*, go_sem]; done))
              refine wpAnyH_pure (i := 0) (v := ?_) rfl (by kernel_rfl) (by kernel_rfl) (by kernel_rfl) (fun _ _ _ h => h) (by rfl) (by assumption) ?_ ?_
              rotate_left
              · (intro w hSw; (try dsimp only at hSw); go_simp; (try with_reducible rfl))
              simp only [Act.put, List.getElem_toArray, List.getElem_cons_succ, List.getElem_cons_zero, List.setIfInBounds_toArray, List.set_cons_zero, List.set_cons_succ]
              refine wpAnyH_pure (i := 1) (v := ?_) rfl (by kernel_rfl) (by kernel_rfl) (by kernel_rfl) (fun _ _ _ h => h) (by rfl) (by assumption) ?_ ?_
              rotate_left
              · (intro w hSw; (try dsimp only at hSw); go_simp; (try with_reducible rfl))
              simp only [Act.put, List.getElem_toArray, List.getElem_cons_succ, List.getElem_cons_zero, List.setIfInBounds_toArray, List.set_cons_zero, List.set_cons_succ]
              refine wpAnyH_pure (i := 2) (v := ?_) rfl (by kernel_rfl) (by kernel_rfl) (by kernel_rfl) (fun _ _ _ h => h) (by rfl) (by assumption) ?_ ?_
              rotate_left
              · (intro w hSw; (try dsimp only at hSw); go_simp; (try with_reducible rfl))
              simp only [Act.put, List.getElem_toArray, List.getElem_cons_succ, List.getElem_cons_zero, List.setIfInBounds_toArray, List.set_cons_zero, List.set_cons_succ]
              refine wpAnyH_pure (i := 3) (v := ?_) rfl (by kernel_rfl) (by kernel_rfl) (by kernel_rfl) (fun _ _ _ h => h) (by rfl) (by assumption) ?_ ?_
              rotate_left
              · (intro w hSw; (try dsimp only at hSw); go_simp; (try with_reducible rfl))
              simp only [Act.put, List.getElem_toArray, List.getElem_cons_succ, List.getElem_cons_zero, List.setIfInBounds_toArray, List.set_cons_zero, List.set_cons_succ]
              refine wpAnyH_pure (i := 4) (v := ?_) rfl (by kernel_rfl) (by kernel_rfl) (by kernel_rfl) (fun _ _ _ h => h) (by rfl) (by assumption) ?_ ?_
              rotate_left
              · (intro w hSw; (try dsimp only at hSw); go_simp; (try with_reducible rfl))
              simp only [Act.put, List.getElem_toArray, List.getElem_cons_succ, List.getElem_cons_zero, List.setIfInBounds_toArray, List.set_cons_zero, List.set_cons_succ]
              refine wpAnyH_pure (i := 5) (v := ?_) rfl (by kernel_rfl) (by kernel_rfl) (by kernel_rfl) (fun _ _ _ h => h) (by rfl) (by assumption) ?_ ?_
              rotate_left
              · (intro w hSw; (try dsimp only at hSw); go_simp; (try with_reducible rfl))
              simp only [Act.put, List.getElem_toArray, List.getElem_cons_succ, List.getElem_cons_zero, List.setIfInBounds_toArray, List.set_cons_zero, List.set_cons_succ]
              refine wpAnyH_pure (i := 6) (v := ?_) rfl (by kernel_rfl) (by kernel_rfl) (by kernel_rfl) (fun _ _ _ h => h) (by rfl) (by assumption) ?_ ?_
              rotate_left
              · (intro w hSw; (try dsimp only at hSw); go_simp; (try with_reducible rfl))
              simp only [Act.put, List.getElem_toArray, List.getElem_cons_succ, List.getElem_cons_zero, List.setIfInBounds_toArray, List.set_cons_zero, List.set_cons_succ]
              refine wpAnyH_pure (i := 7) (v := ?_) rfl (by kernel_rfl) (by kernel_rfl) (by kernel_rfl) (fun _ _ _ h => h) (by rfl) (by assumption) ?_ ?_
              rotate_left
              · (intro w hSw; (try dsimp only at hSw); go_simp; (try with_reducible rfl))
              simp only [Act.put, List.getElem_toArray, List.getElem_cons_succ, List.getElem_cons_zero, List.setIfInBounds_toArray, List.set_cons_zero, List.set_cons_succ]
              refine wpAnyH_pure (i := 8) (v := ?_) rfl (by kernel_rfl) (by kernel_rfl) (by kernel_rfl) (fun _ _ _ h => h) (by rfl) (by assumption) ?_ ?_
              rotate_left
              · (intro w hSw; (try dsimp only at hSw); go_simp; (try with_reducible rfl))
              simp only [Act.put, List.getElem_toArray, List.getElem_cons_succ, List.getElem_cons_zero, List.setIfInBounds_toArray, List.set_cons_zero, List.set_cons_succ]
              refine wpAnyH_ready (rs := [9]) (by kernel_rfl) (by simp) ?_
              refine AllReadyH.cons rfl (fun Kq hKq => ?_) AllReadyH.nil
              go_simp
              refine hKq.out _ _ ?_ (fun hH7 => ?_)
              · (first | (refine ⟨?_, ?_, ?_, ?_, ?_, ?_, ?_, ?_, ?_, ?_, ?_⟩ <;> ((repeat (first | refine (World.cell?_setCell_far _ _ _ _ (by dsimp only; omega)).trans ?_ | refine (World.frozen?_setCell _ _ _ _).trans ?_ | refine (block_setCell_other (by dsimp only; omega)).trans ?_)); with_reducible assumption)) | (first | assumption | (refine ⟨?_, ?_, ?_, ?_, ?_, ?_, ?_, ?_, ?_, ?_, ?_⟩ <;> assumption) | (go_keep; done) | (simp [*, go_sem]; done)) | (go_keep; done) | (simp [*, go_sem]; done))
              clear hKq Kq
              clear hH6
              refine wpAnyH_done (by kernel_rfl) ?_ _
              go_wp2
              go_roundw
              case rel =>
                refine ⟨l + 1, by omega, by omega, by go_num, by have := HB2.out; (repeat' (first | (with_reducible exact Below.refl _ _) | (with_reducible assumption) | (with_reducible refine Below.alloc ?_ ?_ _) | (with_reducible refine Below.drew ?_) | (with_reducible refine below_drewN ?_ _) | (with_reducible refine Below.setCell ?_ ?_ _) | (with_reducible refine below_step (by with_reducible assumption) ?_ ?_) | (with_reducible exact Below.size (by with_reducible assumption)) | go_size)), ⟨?_, ?_, ?_, ?_⟩, ⟨?_, ?_⟩, ⟨?_, ?_, ?_, ?_⟩, ?_⟩
                · exact (World.cell?_setCell_far _ _ _ _ (by dsimp only; omega)).trans gp0
                · exact (World.cell?_setCell_far _ _ _ _ (by dsimp only; omega)).trans gp1
                · exact (World.cell?_setCell_far _ _ _ _ (by dsimp only; omega)).trans gp2
                · exact (World.cell?_setCell_far _ _ _ _ (by dsimp only; omega)).trans gp3
                · exact (World.cell?_setCell_far _ _ _ _ (by dsimp only; omega)).trans gm0
                · exact (World.cell?_setCell_far _ _ _ _ (by dsimp only; omega)).trans gm1
                · exact (World.cell?_setCell_far _ _ _ _ (by dsimp only; omega)).trans gr0
                · exact (World.cell?_setCell_far _ _ _ _ (by dsimp only; omega)).trans gr1
                · exact (World.frozen?_setCell _ _ _ _).trans gr2
                · exact (World.frozen?_setCell _ _ _ _).trans gr3
                · exact (block_setCell G2.out).trans (by rw [HSET.out])
              case measure => simp [intOf]; omega
            · have hfin : fC (mR (mS s N n) r l) N = fC U N := by
                rw [HU.out]
                exact fC_congr fun i hi => by unfold mR; by_cases c : i < l; rw [if_pos c, if_pos (by omega)]; rw [if_neg c, if_neg (by omega)]
              rw [hfin] at hg2
              have HB2 := Lib.hid hB2
              have G2 := Lib.hid hg2
              clear hg2 hB2 hfin
              by_cases hlm : l < m
              · have i1 : (l : Int) < (m : Int) := by omega
                have i2 : ¬ (l : Int) < (N : Int) := by omega
                go_wp2
                refine bodyPost_ret (by simp [results, Try.results25, go_sem, *]; rfl) rfl ?_
                exact ⟨_, rfl, ⟨by omega, by first | exact G2.out | exact (block_setCell_other (by omega)).trans ((block_setCell_other (by omega)).trans G2.out)⟩, by have := HB2.out; (repeat' (first | (with_reducible exact Below.refl _ _) | (with_reducible assumption) | (with_reducible refine Below.alloc ?_ ?_ _) | (with_reducible refine Below.drew ?_) | (with_reducible refine below_drewN ?_ _) | (with_reducible refine Below.setCell ?_ ?_ _) | (with_reducible refine below_step (by with_reducible assumption) ?_ ?_) | (with_reducible exact Below.size (by with_reducible assumption)) | go_size))⟩
              · have i1 : ¬ (l : Int) < (m : Int) := by omega
                go_wp2
                refine bodyPost_ret (by simp [results, Try.results25, go_sem, *]; rfl) rfl ?_
                exact ⟨_, rfl, ⟨by omega, by first | exact G2.out | exact (block_setCell_other (by omega)).trans ((block_setCell_other (by omega)).trans G2.out)⟩, by have := HB2.out; (repeat' (first | (with_reducible exact Below.refl _ _) | (with_reducible assumption) | (with_reducible refine Below.alloc ?_ ?_ _) | (with_reducible refine Below.drew ?_) | (with_reducible refine below_drewN ?_ _) | (with_reducible refine Below.setCell ?_ ?_ _) | (with_reducible refine below_step (by with_reducible assumption) ?_ ?_) | (with_reducible exact Below.size (by with_reducible assumption)) | go_size))⟩
  | false =>
    have hN := HNN.out
    have hN2 : (N : Int) = max 0 (max (-1) (min 1 M)) := by rw [hN]; simp
    rw [hN2] at hmk
    clear hN hN2
    go_enter Try.func25, Try.ntmps25
    go_wp2_with fail
    refine (KW.out _).mono ?_
    rintro e w' ⟨rfl, rfl⟩
    go_wp2
    refine wp_region_held_drew (S := fun w' => w'.cell? ⟨w.heap.size, 0, none⟩ = some (.int .i64 (E)) ∧ w'.cell? ⟨w.heap.size, 1, none⟩ = some (.slice qS n cS) ∧ w'.cell? ⟨w.heap.size, 2, none⟩ = some (.slice qR m cR) ∧ w'.cell? ⟨w.heap.size, 3, none⟩ = some (.int .i64 (M)) ∧ w'.cell? ⟨w.heap.size + 1, 0, none⟩ = some (.int .i64 (0)) ∧ w'.cell? ⟨w.heap.size + 1, 1, none⟩ = some (.slice none 0 0) ∧ w'.frozen? ⟨w.heap.size + 1, 0, none⟩ = false ∧ w'.frozen? ⟨w.heap.size + 1, 1, none⟩ = false) (by kernel_rfl) ?_ (fun hH8 => ?_)
    · (refine ⟨?_, ?_, ?_, ?_, ?_, ?_, ?_, ?_⟩ <;> (first | assumption | ((repeat (first | assumption | (refine heap_alloc_at ?_; (first | rfl | (simp only [World.size_alloc, World.size_drew, World.size_setCell, size_drewN]; done))) | refine block_alloc ?_ | refine (block_setCell_other (by omega)).trans ?_ | refine Buf.alloc ?_ _ | refine Buf.drew ?_ | refine Buf.setCell ?_ (by omega) _ _)); done) | (go_keep; done) | (simp [*, go_sem]; done)))
    refine wpAnyH_pure (i := 0) (v := ?_) rfl (by kernel_rfl) (by kernel_rfl) (by kernel_rfl) (fun _ _ _ h => h) (by rfl) (by assumption) ?_ ?_
    rotate_left
    · (intro w hSw; (try dsimp only at hSw); go_simp; (try with_reducible rfl))
    simp only [Act.put, List.getElem_toArray, List.getElem_cons_succ, List.getElem_cons_zero, List.setIfInBounds_toArray, List.set_cons_zero, List.set_cons_succ]
    refine wpAnyH_pure (i := 1) (v := ?_) rfl (by kernel_rfl) (by kernel_rfl) (by kernel_rfl) (fun _ _ _ h => h) (by rfl) (by assumption) ?_ ?_
    rotate_left
    · (intro w hSw; (try dsimp only at hSw); go_simp; (try with_reducible rfl))
    simp only [Act.put, List.getElem_toArray, List.getElem_cons_succ, List.getElem_cons_zero, List.setIfInBounds_toArray, List.set_cons_zero, List.set_cons_succ]
    refine wpAnyH_pure (i := 2) (v := ?_) rfl (by kernel_rfl) (by kernel_rfl) (by kernel_rfl) (fun _ _ _ h => h) (by rfl) (by assumption) ?_ ?_
    rotate_left
    · (intro w hSw; (try dsimp only at hSw); go_simp; (try with_reducible rfl))
    simp only [Act.put, List.getElem_toArray, List.getElem_cons_succ, List.getElem_cons_zero, List.setIfInBounds_toArray, List.set_cons_zero, List.set_cons_succ]
    refine wpAnyH_pure (i := 3) (v := ?_) rfl (by kernel_rfl) (by kernel_rfl) (by kernel_rfl) (fun _ _ _ h => h) (by rfl) (by assumption) ?_ ?_
    rotate_left
    · (intro w hSw; (try dsimp only at hSw); go_simp; (try with_reducible rfl))
    simp only [Act.put, List.getElem_toArray, List.getElem_cons_succ, List.getElem_cons_zero, List.setIfInBounds_toArray, List.set_cons_zero, List.set_cons_succ]
    refine wpAnyH_dagC0 (fun a0 l0 l a W => ((W.cell? ⟨w.heap.size, 0, none⟩ = some (.int .i64 (E)) ∧ W.cell? ⟨w.heap.size, 1, none⟩ = some (.slice qS n cS) ∧ W.cell? ⟨w.heap.size, 2, none⟩ = some (.slice qR m cR) ∧ W.cell? ⟨w.heap.size, 3, none⟩ = some (.int .i64 (M)) ∧ W.cell? ⟨w.heap.size + 1, 0, none⟩ = some (.int .i64 (0)) ∧ W.cell? ⟨w.heap.size + 1, 1, none⟩ = some (.slice none 0 0) ∧ W.frozen? ⟨w.heap.size + 1, 0, none⟩ = false ∧ W.frozen? ⟨w.heap.size + 1, 1, none⟩ = false) ∧ Below w.heap.size w W ∧ (w.heap.size + 1 + 1) ≤ W.heap.size) ∧ (((l = l0) ∧ (a = a0)) ∨ (∃ n26, (l = (l0.setIfInBounds 4 true)) ∧ (a = (a0.put (some 26) (.slice (some ⟨n26, 0, none⟩) N N))) ∧ (((w.heap.size + 1 + 1) ≤ n26 ∧ n26 < W.heap.size) ∧ W.heap[n26]? = some (.cells (fC (mS s N 0) N) 24 (0, 0)))) ∨ (∃ n4, (l = (l0.setIfInBounds 6 true)) ∧ (a = (a0.put (some 4) (.pointer (some ⟨n4, 0, none⟩)))) ∧ (((w.heap.size + 1 + 1) ≤ n4 ∧ n4 < W.heap.size) ∧ W.heap[n4]? = some (.cells (#[.int .i64 0, .slice none 0 0]) 39 (0, 0)))) ∨ (∃ n26, (l = ((l0.setIfInBounds 4 true).setIfInBounds 5 true)) ∧ (a = ((a0.put (some 26) (.slice (some ⟨n26, 0, none⟩) N N)).put (some 27) (.agg #[.int .i64 E, .slice (some ⟨n26, 0, none⟩) N N]))) ∧ (((w.heap.size + 1 + 1) ≤ n26 ∧ n26 < W.heap.size) ∧ W.heap[n26]? = some (.cells (fC (mS s N 0) N) 24 (0, 0)))) ∨ (∃ n26 n4, (l = ((l0.setIfInBounds 4 true).setIfInBounds 6 true)) ∧ (a = ((a0.put (some 26) (.slice (some ⟨n26, 0, none⟩) N N)).put (some 4) (.pointer (some ⟨n4, 0, none⟩)))) ∧ (((w.heap.size + 1 + 1) ≤ n26 ∧ n26 < W.heap.size) ∧ W.heap[n26]? = some (.cells (fC (mS s N 0) N) 24 (0, 0))) ∧ (((w.heap.size + 1 + 1) ≤ n4 ∧ n4 < W.heap.size) ∧ W.heap[n4]? = some (.cells (#[.int .i64 0, .slice none 0 0]) 39 (0, 0))) ∧ (n26 ≠ n4)) ∨ (∃ n26 n4, (l = (((l0.setIfInBounds 4 true).setIfInBounds 5 true).setIfInBounds 6 true)) ∧ (a = (((a0.put (some 26) (.slice (some ⟨n26, 0, none⟩) N N)).put (some 27) (.agg #[.int .i64 E, .slice (some ⟨n26, 0, none⟩) N N])).put (some 4) (.pointer (some ⟨n4, 0, none⟩)))) ∧ (((w.heap.size + 1 + 1) ≤ n26 ∧ n26 < W.heap.size) ∧ W.heap[n26]? = some (.cells (fC (mS s N 0) N) 24 (0, 0))) ∧ (((w.heap.size + 1 + 1) ≤ n4 ∧ n4 < W.heap.size) ∧ W.heap[n4]? = some (.cells (#[.int .i64 0, .slice none 0 0]) 39 (0, 0))) ∧ (n26 ≠ n4)))) (by rfl) ?_ ?_ ?_
    · exact ⟨⟨hH8, by (repeat' (first | (with_reducible exact Below.refl _ _) | (with_reducible assumption) | (with_reducible refine Below.alloc ?_ ?_ _) | (with_reducible refine Below.drew ?_) | (with_reducible refine below_drewN ?_ _) | (with_reducible refine Below.setCell ?_ ?_ _) | (with_reducible refine below_step (by with_reducible assumption) ?_ ?_) | (with_reducible exact Below.size (by with_reducible assumption)) | go_size)), by first | omega | (simp only [World.size_alloc, World.size_setCell, World.size_drew, size_drewN]; omega)⟩, (Or.inl ⟨rfl, rfl⟩)⟩
    · intro l a W hI; exact hI.1.1
    intro l a W hI
    obtain ⟨⟨hSW, hB, hZ⟩, hI⟩ := hI
    have hSW' := hSW
    obtain ⟨cS0, cS1, cS2, cS3, cS4, cS5, cS6, cS7⟩ := hSW
    rcases hI with ⟨rfl, rfl⟩ | ⟨n26, rfl, rfl, ⟨⟨zn26, yn26⟩, d4_0⟩⟩ | ⟨n4, rfl, rfl, ⟨⟨zn4, yn4⟩, d6_0⟩⟩ | ⟨n26, rfl, rfl, ⟨⟨zn26, yn26⟩, d4_0⟩⟩ | ⟨n26, n4, rfl, rfl, ⟨⟨zn26, yn26⟩, d4_0⟩, ⟨⟨zn4, yn4⟩, d6_0⟩, hne0⟩ | ⟨n26, n4, rfl, rfl, ⟨⟨zn26, yn26⟩, d4_0⟩, ⟨⟨zn4, yn4⟩, d6_0⟩, hne0⟩
    · left
      refine ⟨[4, 6], by kernel_rfl, by simp, ?_⟩
      simp only [Act.put, List.getElem_toArray, List.getElem_cons_succ, List.getElem_cons_zero, List.setIfInBounds_toArray, List.set_cons_zero, List.set_cons_succ]
      refine all_cons ?_ (all_cons ?_ (all_nil))
      · refine wpOp_step rfl (fun Kq hKq => ?_)
        go_simp
        have hw1 : Below W.heap.size W (W.alloc (.cells (fC (mS s N 0) N) 24)) := by (repeat' (first | (with_reducible exact Below.refl _ _) | (with_reducible assumption) | (with_reducible refine Below.alloc ?_ ?_ _) | (with_reducible refine Below.drew ?_) | (with_reducible refine below_drewN ?_ _) | (with_reducible refine Below.setCell ?_ ?_ _) | (with_reducible refine below_step (by with_reducible assumption) ?_ ?_) | (with_reducible exact Below.size (by with_reducible assumption)) | go_size))
        have hz1 : (W.alloc (.cells (fC (mS s N 0) N) 24)).heap.size = W.heap.size + 1 := by simp
        have hc1 := (bcell hw1).1
        have hf1 := (bcell hw1).2
        refine hKq _ _ ?_
        exact ⟨⟨⟨(hc1 _ _ (by omega)).trans cS0, (hc1 _ _ (by omega)).trans cS1, (hc1 _ _ (by omega)).trans cS2, (hc1 _ _ (by omega)).trans cS3, (hc1 _ _ (by omega)).trans cS4, (hc1 _ _ (by omega)).trans cS5, (hf1 _ _ (by omega)).trans cS6, (hf1 _ _ (by omega)).trans cS7⟩, below_step hw1 hB (by have := hB.size; omega), by omega⟩, (Or.inr (Or.inl ⟨W.heap.size, by rfl, by rfl, ⟨⟨by omega, by omega⟩, heap_alloc_last W _⟩⟩))⟩
      · refine wpOp_step rfl (fun Kq hKq => ?_)
        go_simp
        have hw1 : Below W.heap.size W (W.alloc (.cells (#[.int .i64 0, .slice none 0 0]) 39)) := by (repeat' (first | (with_reducible exact Below.refl _ _) | (with_reducible assumption) | (with_reducible refine Below.alloc ?_ ?_ _) | (with_reducible refine Below.drew ?_) | (with_reducible refine below_drewN ?_ _) | (with_reducible refine Below.setCell ?_ ?_ _) | (with_reducible refine below_step (by with_reducible assumption) ?_ ?_) | (with_reducible exact Below.size (by with_reducible assumption)) | go_size))
        have hz1 : (W.alloc (.cells (#[.int .i64 0, .slice none 0 0]) 39)).heap.size = W.heap.size + 1 := by simp
        have hc1 := (bcell hw1).1
        have hf1 := (bcell hw1).2
        refine hKq _ _ ?_
        exact ⟨⟨⟨(hc1 _ _ (by omega)).trans cS0, (hc1 _ _ (by omega)).trans cS1, (hc1 _ _ (by omega)).trans cS2, (hc1 _ _ (by omega)).trans cS3, (hc1 _ _ (by omega)).trans cS4, (hc1 _ _ (by omega)).trans cS5, (hf1 _ _ (by omega)).trans cS6, (hf1 _ _ (by omega)).trans cS7⟩, below_step hw1 hB (by have := hB.size; omega), by omega⟩, (Or.inr (Or.inr (Or.inl ⟨W.heap.size, by rfl, by rfl, ⟨⟨by omega, by omega⟩, heap_alloc_last W _⟩⟩)))⟩
    · right; left
      apply jump_intro
      · intro hh; refine wpAnyH_fuel 3 (by rfl) ?_
        refine wpAnyH_pure (i := 5) (v := ?_) rfl (by kernel_rfl) (by kernel_rfl) (by kernel_rfl) (fun _ _ _ h => h) (by rfl) (by assumption) ?_ ?_
        rotate_left
        · (intro w hSw; (try dsimp only at hSw); go_simp; (try with_reducible rfl))
        exact wpAnyH_fuel _ (by kernel_rfl) hh
      · exact of_decide_eq_true (by kernel_rfl)
      · exact ⟨⟨hSW', hB, hZ⟩, (Or.inr (Or.inr (Or.inr (Or.inl ⟨n26, by kernel_rfl, by kernel_rfl, ⟨⟨zn26, yn26⟩, d4_0⟩⟩))))⟩
    · left
      refine ⟨[4], by kernel_rfl, by simp, ?_⟩
      simp only [Act.put, List.getElem_toArray, List.getElem_cons_succ, List.getElem_cons_zero, List.setIfInBounds_toArray, List.set_cons_zero, List.set_cons_succ]
      refine all_cons ?_ (all_nil)
      · refine wpOp_step rfl (fun Kq hKq => ?_)
        go_simp
        have hw1 : Below W.heap.size W (W.alloc (.cells (fC (mS s N 0) N) 24)) := by (repeat' (first | (with_reducible exact Below.refl _ _) | (with_reducible assumption) | (with_reducible refine Below.alloc ?_ ?_ _) | (with_reducible refine Below.drew ?_) | (with_reducible refine below_drewN ?_ _) | (with_reducible refine Below.setCell ?_ ?_ _) | (with_reducible refine below_step (by with_reducible assumption) ?_ ?_) | (with_reducible exact Below.size (by with_reducible assumption)) | go_size))
        have hz1 : (W.alloc (.cells (fC (mS s N 0) N) 24)).heap.size = W.heap.size + 1 := by simp
        have hc1 := (bcell hw1).1
        have hf1 := (bcell hw1).2
        refine hKq _ _ ?_
        exact ⟨⟨⟨(hc1 _ _ (by omega)).trans cS0, (hc1 _ _ (by omega)).trans cS1, (hc1 _ _ (by omega)).trans cS2, (hc1 _ _ (by omega)).trans cS3, (hc1 _ _ (by omega)).trans cS4, (hc1 _ _ (by omega)).trans cS5, (hf1 _ _ (by omega)).trans cS6, (hf1 _ _ (by omega)).trans cS7⟩, below_step hw1 hB (by have := hB.size; omega), by omega⟩, (Or.inr (Or.inr (Or.inr (Or.inr (Or.inl ⟨W.heap.size, n4, by rfl, by rfl, ⟨⟨by omega, by omega⟩, heap_alloc_last W _⟩, ⟨⟨zn4, by omega⟩, block_below0 hw1 d6_0⟩, by omega⟩)))))⟩
    · left
      refine ⟨[6], by kernel_rfl, by simp, ?_⟩
      simp only [Act.put, List.getElem_toArray, List.getElem_cons_succ, List.getElem_cons_zero, List.setIfInBounds_toArray, List.set_cons_zero, List.set_cons_succ]
      refine all_cons ?_ (all_nil)
      · refine wpOp_step rfl (fun Kq hKq => ?_)
        go_simp
        have hw1 : Below W.heap.size W (W.alloc (.cells (#[.int .i64 0, .slice none 0 0]) 39)) := by (repeat' (first | (with_reducible exact Below.refl _ _) | (with_reducible assumption) | (with_reducible refine Below.alloc ?_ ?_ _) | (with_reducible refine Below.drew ?_) | (with_reducible refine below_drewN ?_ _) | (with_reducible refine Below.setCell ?_ ?_ _) | (with_reducible refine below_step (by with_reducible assumption) ?_ ?_) | (with_reducible exact Below.size (by with_reducible assumption)) | go_size))
        have hz1 : (W.alloc (.cells (#[.int .i64 0, .slice none 0 0]) 39)).heap.size = W.heap.size + 1 := by simp
        have hc1 := (bcell hw1).1
        have hf1 := (bcell hw1).2
        refine hKq _ _ ?_
        exact ⟨⟨⟨(hc1 _ _ (by omega)).trans cS0, (hc1 _ _ (by omega)).trans cS1, (hc1 _ _ (by omega)).trans cS2, (hc1 _ _ (by omega)).trans cS3, (hc1 _ _ (by omega)).trans cS4, (hc1 _ _ (by omega)).trans cS5, (hf1 _ _ (by omega)).trans cS6, (hf1 _ _ (by omega)).trans cS7⟩, below_step hw1 hB (by have := hB.size; omega), by omega⟩, (Or.inr (Or.inr (Or.inr (Or.inr (Or.inr ⟨n26, W.heap.size, by rfl, by rfl, ⟨⟨zn26, by omega⟩, block_below0 hw1 d4_0⟩, ⟨⟨by omega, by omega⟩, heap_alloc_last W _⟩, by omega⟩)))))⟩
    · right; left
      apply jump_intro
      · intro hh; refine wpAnyH_fuel 2 (by rfl) ?_
        refine wpAnyH_pure (i := 5) (v := ?_) rfl (by kernel_rfl) (by kernel_rfl) (by kernel_rfl) (fun _ _ _ h => h) (by rfl) (by assumption) ?_ ?_
        rotate_left
        · (intro w hSw; (try dsimp only at hSw); go_simp; (try with_reducible rfl))
        exact wpAnyH_fuel _ (by kernel_rfl) hh
      · exact of_decide_eq_true (by kernel_rfl)
      · exact ⟨⟨hSW', hB, hZ⟩, (Or.inr (Or.inr (Or.inr (Or.inr (Or.inr ⟨n26, n4, by kernel_rfl, by kernel_rfl, ⟨⟨zn26, yn26⟩, d4_0⟩, ⟨⟨zn4, yn4⟩, d6_0⟩, by omega⟩)))))⟩
    right; right
    refine wpAnyH_fuel 1 (by rfl) ?_
    simp only [Act.put, List.getElem_toArray, List.getElem_cons_succ, List.getElem_cons_zero, List.setIfInBounds_toArray, List.set_cons_zero, List.set_cons_succ]
    have : ¬ n26 = w.heap.size := by omega
    have : ¬ w.heap.size = n26 := by omega
    have : ¬ n26 = w.heap.size + 1 := by omega
    have : ¬ w.heap.size + 1 = n26 := by omega
    have : ¬ n4 = w.heap.size := by omega
    have : ¬ w.heap.size = n4 := by omega
    have : ¬ n4 = w.heap.size + 1 := by omega
    have : ¬ w.heap.size + 1 = n4 := by omega
    have : ¬ n26 = n4 := by omega
    have : ¬ n4 = n26 := by omega
    clear hH8
    have ca4_0 : W.cell? ⟨n4, 0, none⟩ = some (.int .i64 0) := cell_block d6_0
    have fa4_0 : W.frozen? ⟨n4, 0, none⟩ = false := frozen_block d6_0
    have ca4_1 : W.cell? ⟨n4, 1, none⟩ = some (.slice none 0 0) := cell_block d6_0
    have fa4_1 : W.frozen? ⟨n4, 1, none⟩ = false := frozen_block d6_0
    refine wpAnyH_ready (rs := [7]) (by kernel_rfl) (by simp) ?_
    refine AllReadyH.cons rfl (fun Kq hKq => ?_) AllReadyH.nil
    go_simp
    refine hKq.out _ _ ?_ (fun hH9 => ?_)
    · exact ⟨(World.cell?_setCell_far _ _ _ _ (by first | assumption | (dsimp only; omega))).trans ((World.cell?_setCell_far _ _ _ _ (by first | assumption | (dsimp only; omega))).trans (cS0)), (World.cell?_setCell_far _ _ _ _ (by first | assumption | (dsimp only; omega))).trans ((World.cell?_setCell_far _ _ _ _ (by first | assumption | (dsimp only; omega))).trans (cS1)), (World.cell?_setCell_far _ _ _ _ (by first | assumption | (dsimp only; omega))).trans ((World.cell?_setCell_far _ _ _ _ (by first | assumption | (dsimp only; omega))).trans (cS2)), (World.cell?_setCell_far _ _ _ _ (by first | assumption | (dsimp only; omega))).trans ((World.cell?_setCell_far _ _ _ _ (by first | assumption | (dsimp only; omega))).trans (cS3)), (World.cell?_setCell_far _ _ _ _ (by first | assumption | (dsimp only; omega))).trans ((World.cell?_setCell_far _ _ _ _ (by first | assumption | (dsimp only; omega))).trans (cS4)), (World.cell?_setCell_far _ _ _ _ (by first | assumption | (dsimp only; omega))).trans ((World.cell?_setCell_far _ _ _ _ (by first | assumption | (dsimp only; omega))).trans (cS5)), (World.frozen?_setCell _ _ _ _).trans ((World.frozen?_setCell _ _ _ _).trans (cS6)), (World.frozen?_setCell _ _ _ _).trans ((World.frozen?_setCell _ _ _ _).trans (cS7))⟩
    clear hKq Kq
    have hH9k := hH9
    obtain ⟨cS0hH9, cS1hH9, cS2hH9, cS3hH9, cS4hH9, cS5hH9, cS6hH9, cS7hH9⟩ := hH9k
    refine wpAnyH_fin (T := fun W => (W.cell? ⟨w.heap.size, 0, none⟩ = some (.int .i64 (E)) ∧ W.cell? ⟨w.heap.size, 1, none⟩ = some (.slice qS n cS) ∧ W.cell? ⟨w.heap.size, 2, none⟩ = some (.slice qR m cR) ∧ W.cell? ⟨w.heap.size, 3, none⟩ = some (.int .i64 (M)) ∧ W.cell? ⟨w.heap.size + 1, 0, none⟩ = some (.int .i64 (0)) ∧ W.cell? ⟨w.heap.size + 1, 1, none⟩ = some (.slice none 0 0) ∧ W.frozen? ⟨w.heap.size + 1, 0, none⟩ = false ∧ W.frozen? ⟨w.heap.size + 1, 1, none⟩ = false) ∧ (W.heap[n26]? = some (.cells (fC (mS s N 0) N) 24 (0, 0)) ∧ W.heap[n4]? = some (.cells (#[.int .i64 E, .slice (some ⟨n26, 0, none⟩) N N]) 39 (0, 0))) ∧ (((w.heap.size + 1 + 1) ≤ n26 ∧ n26 < W.heap.size) ∧ ((w.heap.size + 1 + 1) ≤ n4 ∧ n4 < W.heap.size) ∧ (w.heap.size + 1 + 1) ≤ W.heap.size) ∧ Below w.heap.size w W) (by kernel_rfl) ⟨hH9, ?_, ?_, ?_⟩ (fun W1 hT => ?_)
    · exact ⟨(block_setCell_other (by assumption)).trans ((block_setCell_other (by assumption)).trans (d4_0)), block_setCell (block_setCell (d6_0))⟩
    · exact ⟨⟨zn26, (Array.getElem?_eq_some_iff.1 ((block_setCell_other (by assumption)).trans ((block_setCell_other (by assumption)).trans (d4_0)))).1⟩, ⟨zn4, (Array.getElem?_eq_some_iff.1 (block_setCell (block_setCell (d6_0)))).1⟩, Nat.le_of_lt (Nat.lt_of_le_of_lt zn26 ((Array.getElem?_eq_some_iff.1 ((block_setCell_other (by assumption)).trans ((block_setCell_other (by assumption)).trans (d4_0)))).1))⟩
    · exact ((hB.setCell (p := ⟨n4, _, none⟩) (by dsimp only; omega) _).setCell (p := ⟨n4, _, none⟩) (by dsimp only; omega) _)
    obtain ⟨⟨gS0, gS1, gS2, gS3, gS4, gS5, gS6, gS7⟩, ⟨gF0, gF1⟩, ⟨⟨zln26, gZ0⟩, ⟨zln4, gZ1⟩, gZ2⟩, hB1⟩ := hT
    clear hSW' hH9 hB hZ cS0hH9 cS1hH9 cS2hH9 cS3hH9 cS4hH9 cS5hH9 cS6hH9 cS7hH9 ca4_0 fa4_0 ca4_1 fa4_1 zn26 yn26 d4_0 zn4 yn4 d6_0
    have cn4W1_0 : W1.cell? ⟨n4, 0, none⟩ = some (.int .i64 E) := cell_block gF1
    have pn4W1_0 : W1.frozen? ⟨n4, 0, none⟩ = false := frozen_block gF1
    have cn4W1_1 : W1.cell? ⟨n4, 1, none⟩ = some (.slice (some ⟨n26, 0, none⟩) N N) := cell_block gF1
    have pn4W1_1 : W1.frozen? ⟨n4, 1, none⟩ = false := frozen_block gF1
    go_wp2
    go_loopw [5] (fun i wr => ∃ k : Nat, k ≤ n ∧ i = .int .i64 (k : Int) ∧ Below w.heap.size w wr ∧ (wr.cell? ⟨w.heap.size, 0, none⟩ = some (.int .i64 E) ∧ wr.cell? ⟨w.heap.size, 1, none⟩ = some (.slice qS n cS) ∧ wr.cell? ⟨w.heap.size, 2, none⟩ = some (.slice qR m cR) ∧ wr.cell? ⟨w.heap.size, 3, none⟩ = some (.int .i64 M)) ∧ (wr.cell? ⟨n4, 0, none⟩ = some (.int .i64 E) ∧ wr.cell? ⟨n4, 1, none⟩ = some (.slice (some ⟨n26, 0, none⟩) N N)) ∧ (wr.cell? ⟨w.heap.size + 1, 0, none⟩ = some (.int .i64 0) ∧ wr.cell? ⟨w.heap.size + 1, 1, none⟩ = some (.slice none 0 0) ∧ wr.frozen? ⟨w.heap.size + 1, 0, none⟩ = false ∧ wr.frozen? ⟨w.heap.size + 1, 1, none⟩ = false) ∧ wr.heap[n26]? = some (.cells (fC (mS s N k) N) 24 (0, 0))) (fun i _ => n - (intOf i).toNat)
    case atStart => exact ⟨0, Nat.zero_le _, rfl, hB1, ⟨gS0, gS1, gS2, gS3⟩, ⟨cn4W1_0, cn4W1_1⟩, ⟨gS4, gS5, gS6, gS7⟩, gF0⟩
    case round =>
      obtain ⟨k, hk, rfl, hB, ⟨hp0, hp1, hp2, hp3⟩, ⟨hm0, hm1⟩, ⟨hr0, hr1, hr2, hr3⟩, hg⟩ := hrel
      by_cases hlt : k < n ∧ 0 < N
      · obtain ⟨hl, hn⟩ := hlt
        rcases HS1.out with h0 | ⟨b, o, rfl, hb, hcell⟩
        · omega
        have c0 := (hB.cell (p := ⟨b, o + k * 2, none⟩) hb).trans (hcell k hl).1
        have c1 := (hB.cell (p := ⟨b, o + k * 2 + 1, none⟩) hb).trans (hcell k hl).2
        obtain ⟨j, hj⟩ : ∃ j : Nat, (s k).1 % (N : Int) = (j : Int) := ⟨((s k).1 % (N : Int)).toNat, by have := Int.emod_nonneg (s k).1 (show (N : Int) ≠ 0 by omega); omega⟩
        have hjN : j < N := by have := Int.emod_lt_of_pos (s k).1 (show (0 : Int) < N by omega); omega
        have hsk := HSB.out k hl
        have KM := Lib.hid (fun W => modB_full (s k).1 (N : Int) W (by omega) hsk.1 hsk.2 (by omega))
        rw [hj] at KM
        have HSET := Lib.hid (mS_succ s N k j hj hjN)
        have cv : ∀ w, _ := fun w => run_float32 (max (-4000) (min 4000 (s k).2)) w
        unfold f32 at cv
        have d1 : wr.cell? ⟨n26, j, none⟩ = some (.float .f32 (mS s N k j)) := (cell_block hg).trans (fC_get _ hjN)
        have f1 : wr.frozen? ⟨n26, j, none⟩ = false := frozen_block hg
        clear hcell hj hsk
        generalize (s k).1 = s1 at *
        generalize (s k).2 = s2 at *
        generalize wd Ieee.single (max (-4000) (min 4000 s2)) = v at *
        generalize mS s N k j = v0 at *
        have G := Lib.hid hg
        have HB := Lib.hid hB
        clear hg hB
        have e0 : (0 : Int) ≤ (k : Int) := by omega
        have e1 : (k : Int) < (n : Int) := by omega
        have e2 : (0 : Int) < (N : Int) := by omega
        have e3 : (0 : Int) ≤ (j : Int) := by omega
        have e4 : (j : Int) < (N : Int) := by omega
        go_wp2
        refine wp_region_held_drew (S := fun w' => w'.cell? ⟨w.heap.size, 0, none⟩ = some (.int .i64 (E)) ∧ w'.cell? ⟨w.heap.size, 1, none⟩ = some (.slice (some ⟨b, o, none⟩) n cS) ∧ w'.cell? ⟨w.heap.size, 2, none⟩ = some (.slice qR m cR) ∧ w'.cell? ⟨w.heap.size, 3, none⟩ = some (.int .i64 (M)) ∧ w'.cell? ⟨w.heap.size + 1, 0, none⟩ = some (.int .i64 (0)) ∧ w'.cell? ⟨w.heap.size + 1, 1, none⟩ = some (.slice none 0 0) ∧ w'.cell? ⟨n4, 0, none⟩ = some (.int .i64 E) ∧ w'.cell? ⟨n4, 1, none⟩ = some (.slice (some ⟨n26, 0, none⟩) N N) ∧ w'.cell? ⟨b, o + k * 2, none⟩ = some (.int .i64 (s1)) ∧ w'.cell? ⟨b, o + k * 2 + 1, none⟩ = some (.int .i64 (s2)) ∧ w'.frozen? ⟨w.heap.size + 1, 0, none⟩ = false ∧ w'.frozen? ⟨w.heap.size + 1, 1, none⟩ = false) (by kernel_rfl) ?_ (fun hH10 => ?_)
        · (first | assumption | (refine ⟨?_, ?_, ?_, ?_, ?_, ?_, ?_, ?_, ?_, ?_, ?_, ?_⟩ <;> assumption) | (go_keep; done) | (simp [*, go_sem]; done))
        refine wpAnyH_pure (i := 0) (v := ?_) rfl (by kernel_rfl) (by kernel_rfl) (by kernel_rfl) (fun _ _ _ h => h) (by rfl) (by assumption) ?_ ?_
        rotate_left
        · (intro w hSw; (try dsimp only at hSw); go_simp; (try with_reducible rfl))
        simp only [Act.put, List.getElem_toArray, List.getElem_cons_succ, List.getElem_cons_zero, List.setIfInBounds_toArray, List.set_cons_zero, List.set_cons_succ]
        refine wpAnyH_pure (i := 1) (v := ?_) rfl (by kernel_rfl) (by kernel_rfl) (by kernel_rfl) (fun _ _ _ h => h) (by rfl) (by assumption) ?_ ?_
        rotate_left
        · (intro w hSw; (try dsimp only at hSw); go_simp; (try with_reducible rfl))
        simp only [Act.put, List.getElem_toArray, List.getElem_cons_succ, List.getElem_cons_zero, List.setIfInBounds_toArray, List.set_cons_zero, List.set_cons_succ]
        refine wpAnyH_pure (i := 2) (v := ?_) rfl (by kernel_rfl) (by kernel_rfl) (by kernel_rfl) (fun _ _ _ h => h) (by rfl) (by assumption) ?_ ?_
        rotate_left
        · (intro w hSw; (try dsimp only at hSw); go_simp; (try with_reducible rfl))
        simp only [Act.put, List.getElem_toArray, List.getElem_cons_succ, List.getElem_cons_zero, List.setIfInBounds_toArray, List.set_cons_zero, List.set_cons_succ]
        refine wpAnyH_pure (i := 3) (v := ?_) rfl (by kernel_rfl) (by kernel_rfl) (by kernel_rfl) (fun _ _ _ h => h) (by rfl) (by assumption) ?_ ?_
        rotate_left
        · (intro w hSw; (try dsimp only at hSw); go_simp; (try with_reducible rfl))
        simp only [Act.put, List.getElem_toArray, List.getElem_cons_succ, List.getElem_cons_zero, List.setIfInBounds_toArray, List.set_cons_zero, List.set_cons_succ]
        refine wpAnyH_pure (i := 4) (v := ?_) rfl (by kernel_rfl) (by kernel_rfl) (by kernel_rfl) (fun _ _ _ h => h) (by rfl) (by assumption) ?_ ?_
        rotate_left
        · (intro w hSw; (try dsimp only at hSw); go_simp; (try with_reducible rfl))
        simp only [Act.put, List.getElem_toArray, List.getElem_cons_succ, List.getElem_cons_zero, List.setIfInBounds_toArray, List.set_cons_zero, List.set_cons_succ]
        refine wpAnyH_pure (i := 5) (v := ?_) rfl (by kernel_rfl) (by kernel_rfl) (by kernel_rfl) (fun _ _ _ h => h) (by rfl) (by assumption) ?_ ?_
        rotate_left
        · (intro w hSw; (try dsimp only at hSw); go_simp; (try with_reducible rfl))
        simp only [Act.put, List.getElem_toArray, List.getElem_cons_succ, List.getElem_cons_zero, List.setIfInBounds_toArray, List.set_cons_zero, List.set_cons_succ]
        refine wpAnyH_pure (i := 6) (v := ?_) rfl (by kernel_rfl) (by kernel_rfl) (by kernel_rfl) (fun _ _ _ h => h) (by rfl) (by assumption) ?_ ?_
        rotate_left
        · (intro w hSw; (try dsimp only at hSw); go_simp; (try with_reducible rfl))
        simp only [Act.put, List.getElem_toArray, List.getElem_cons_succ, List.getElem_cons_zero, List.setIfInBounds_toArray, List.set_cons_zero, List.set_cons_succ]
        refine wpAnyH_pure (i := 7) (v := ?_) rfl (by kernel_rfl) (by kernel_rfl) (by kernel_rfl) (fun _ _ _ h => h) (by rfl) (by assumption) ?_ ?_
        rotate_left
        · (intro w hSw; (try dsimp only at hSw); go_simp; (try with_reducible rfl))
        simp only [Act.put, List.getElem_toArray, List.getElem_cons_succ, List.getElem_cons_zero, List.setIfInBounds_toArray, List.set_cons_zero, List.set_cons_succ]
        refine wpAnyH_pure (i := 8) (v := ?_) rfl (by kernel_rfl) (by kernel_rfl) (by kernel_rfl) (fun _ _ _ h => h) (by rfl) (by assumption) ?_ ?_
        rotate_left
        · (intro w hSw; (try dsimp only at hSw); go_simp; (try with_reducible rfl))
        simp only [Act.put, List.getElem_toArray, List.getElem_cons_succ, List.getElem_cons_zero, List.setIfInBounds_toArray, List.set_cons_zero, List.set_cons_succ]
        refine wpAnyH_pure (i := 9) (v := ?_) rfl (by kernel_rfl) (by kernel_rfl) (by kernel_rfl) (fun _ _ _ h => h) (by rfl) (by assumption) ?_ ?_
        rotate_left
        · (intro w hSw; (try dsimp only at hSw); go_simp; (try with_reducible rfl))
        simp only [Act.put, List.getElem_toArray, List.getElem_cons_succ, List.getElem_cons_zero, List.setIfInBounds_toArray, List.set_cons_zero, List.set_cons_succ]
        refine wpAnyH_pure (i := 10) (v := ?_) rfl (by kernel_rfl) (by kernel_rfl) (by kernel_rfl) (fun _ _ _ h => h) (by rfl) (by assumption) ?_ ?_
        rotate_left
        · (intro w hSw; (try dsimp only at hSw); go_simp; (try with_reducible rfl))
        simp only [Act.put, List.getElem_toArray, List.getElem_cons_succ, List.getElem_cons_zero, List.setIfInBounds_toArray, List.set_cons_zero, List.set_cons_succ]
        refine wpAnyH_pure (i := 12) (v := ?_) rfl (by kernel_rfl) (by kernel_rfl) (by kernel_rfl) (fun _ _ _ h => h) (by rfl) (by assumption) ?_ ?_
        rotate_left
        · (intro w hSw; (try dsimp only at hSw); go_simp; (try with_reducible rfl))
        simp only [Act.put, List.getElem_toArray, List.getElem_cons_succ, List.getElem_cons_zero, List.setIfInBounds_toArray, List.set_cons_zero, List.set_cons_succ]
        refine wpAnyH_pure (i := 13) (v := ?_) rfl (by kernel_rfl) (by kernel_rfl) (by kernel_rfl) (fun _ _ _ h => h) (by rfl) (by assumption) ?_ ?_
        rotate_left
        · (intro w hSw; (try dsimp only at hSw); go_simp; (try with_reducible rfl))
        simp only [Act.put, List.getElem_toArray, List.getElem_cons_succ, List.getElem_cons_zero, List.setIfInBounds_toArray, List.set_cons_zero, List.set_cons_succ]
        refine wpAnyH_pure (i := 14) (v := ?_) rfl (by kernel_rfl) (by kernel_rfl) (by kernel_rfl) (fun _ _ _ h => h) (by rfl) (by assumption) ?_ ?_
        rotate_left
        · (intro w hSw; (try dsimp only at hSw); go_simp; (try with_reducible rfl))
        simp only [Act.put, List.getElem_toArray, List.getElem_cons_succ, List.getElem_cons_zero, List.setIfInBounds_toArray, List.set_cons_zero, List.set_cons_succ]
        refine wpAnyH_pure (i := 15) (v := ?_) rfl (by kernel_rfl) (by kernel_rfl) (by kernel_rfl) (fun _ _ _ h => h) (by rfl) (by assumption) ?_ ?_
        rotate_left
        · (intro w hSw; (try dsimp only at hSw); go_simp; (try with_reducible rfl))
        simp only [Act.put, List.getElem_toArray, List.getElem_cons_succ, List.getElem_cons_zero, List.setIfInBounds_toArray, List.set_cons_zero, List.set_cons_succ]
        refine wpAnyH_pure (i := 16) (v := ?_) rfl (by kernel_rfl) (by kernel_rfl) (by kernel_rfl) (fun _ _ _ h => h) (by rfl) (by assumption) ?_ ?_
        rotate_left
        · (intro w hSw; (try dsimp only at hSw); go_simp; (try with_reducible rfl))
        simp only [Act.put, List.getElem_toArray, List.getElem_cons_succ, List.getElem_cons_zero, List.setIfInBounds_toArray, List.set_cons_zero, List.set_cons_succ]
        refine wpAnyH_pure (i := 17) (v := ?_) rfl (by kernel_rfl) (by kernel_rfl) (by kernel_rfl) (fun _ _ _ h => h) (by rfl) (by assumption) ?_ ?_
        rotate_left
        · (intro w hSw; (try dsimp only at hSw); go_simp; (try with_reducible rfl))
        simp only [Act.put, List.getElem_toArray, List.getElem_cons_succ, List.getElem_cons_zero, List.setIfInBounds_toArray, List.set_cons_zero, List.set_cons_succ]
        refine wpAnyH_pure (i := 18) (v := ?_) rfl (by kernel_rfl) (by kernel_rfl) (by kernel_rfl) (fun _ _ _ h => h) (by rfl) (by assumption) ?_ ?_
        rotate_left
        · (intro w hSw; (try dsimp only at hSw); go_simp; (try with_reducible rfl))
        simp only [Act.put, List.getElem_toArray, List.getElem_cons_succ, List.getElem_cons_zero, List.setIfInBounds_toArray, List.set_cons_zero, List.set_cons_succ]
        refine wpAnyH_pure (i := 19) (v := ?_) rfl (by kernel_rfl) (by kernel_rfl) (by kernel_rfl) (fun _ _ _ h => h) (by rfl) (by assumption) ?_ ?_
        rotate_left
        · (intro w hSw; (try dsimp only at hSw); go_simp; (try with_reducible rfl))
        simp only [Act.put, List.getElem_toArray, List.getElem_cons_succ, List.getElem_cons_zero, List.setIfInBounds_toArray, List.set_cons_zero, List.set_cons_succ]
        refine wpAnyH_pure (i := 20) (v := ?_) rfl (by kernel_rfl) (by kernel_rfl) (by kernel_rfl) (fun _ _ _ h => h) (by rfl) (by assumption) ?_ ?_
        rotate_left
        · (intro w hSw; (try dsimp only at hSw); go_simp; (try with_reducible rfl))
        simp only [Act.put, List.getElem_toArray, List.getElem_cons_succ, List.getElem_cons_zero, List.setIfInBounds_toArray, List.set_cons_zero, List.set_cons_succ]
        refine wpAnyH_ready (rs := [11]) (by kernel_rfl) (by simp) ?_
        refine AllReadyH.cons rfl (fun Kq hKq => ?_) AllReadyH.nil
        go_simp
        refine (KM.out _).mono ?_
        (rintro e w' ⟨rfl, rfl⟩)
        refine hKq.out _ _ ?_ (fun hH11 => ?_)
        · (first | assumption | (refine ⟨?_, ?_, ?_, ?_, ?_, ?_, ?_, ?_, ?_, ?_, ?_, ?_⟩ <;> assumption) | (go_keep; done) | (simp [*, go_sem]; done))
        clear hKq Kq
        clear hH10
        refine wpAnyH_pure (i := 21) (v := ?_) rfl (by kernel_rfl) (by kernel_rfl) (by kernel_rfl) (fun _ _ _ h => h) (by rfl) (by assumption) ?_ ?_
        rotate_left
        · (intro w hSw; (try dsimp only at hSw); go_simp; (try with_reducible rfl))
        simp only [Act.put, List.getElem_toArray, List.getElem_cons_succ, List.getElem_cons_zero, List.setIfInBounds_toArray, List.set_cons_zero, List.set_cons_succ]
        refine wpAnyH_ready (rs := [22]) (by kernel_rfl) (by simp) ?_
        refine AllReadyH.cons rfl (fun Kq hKq => ?_) AllReadyH.nil
        go_simp
        refine hKq.out _ _ ?_ (fun hH12 => ?_)
        · (first | (refine ⟨?_, ?_, ?_, ?_, ?_, ?_, ?_, ?_, ?_, ?_, ?_, ?_⟩ <;> ((repeat (first | refine (World.cell?_setCell_far _ _ _ _ (by dsimp only; omega)).trans ?_ | refine (World.frozen?_setCell _ _ _ _).trans ?_ | refine (block_setCell_other (by dsimp only; omega)).trans ?_)); with_reducible assumption)) | (first | assumption | (refine ⟨?_, ?_, ?_, ?_, ?_, ?_, ?_, ?_, ?_, ?_, ?_, ?_⟩ <;> assumption) | (go_keep; done) | (simp [*, go_sem]; done)) | (go_keep; done) | (simp [*, go_sem]; done))
        clear hKq Kq
        clear hH11
        refine wpAnyH_done (by kernel_rfl) ?_ _
        go_wp2
        go_roundw
        case rel =>
          refine ⟨k + 1, by omega, by go_num, by have := HB.out; (repeat' (first | (with_reducible exact Below.refl _ _) | (with_reducible assumption) | (with_reducible refine Below.alloc ?_ ?_ _) | (with_reducible refine Below.drew ?_) | (with_reducible refine below_drewN ?_ _) | (with_reducible refine Below.setCell ?_ ?_ _) | (with_reducible refine below_step (by with_reducible assumption) ?_ ?_) | (with_reducible exact Below.size (by with_reducible assumption)) | go_size)), ⟨?_, ?_, ?_, ?_⟩, ⟨?_, ?_⟩, ⟨?_, ?_, ?_, ?_⟩, ?_⟩
          · exact (World.cell?_setCell_far _ _ _ _ (by dsimp only; omega)).trans hp0
          · exact (World.cell?_setCell_far _ _ _ _ (by dsimp only; omega)).trans hp1
          · exact (World.cell?_setCell_far _ _ _ _ (by dsimp only; omega)).trans hp2
          · exact (World.cell?_setCell_far _ _ _ _ (by dsimp only; omega)).trans hp3
          · exact (World.cell?_setCell_far _ _ _ _ (by dsimp only; omega)).trans hm0
          · exact (World.cell?_setCell_far _ _ _ _ (by dsimp only; omega)).trans hm1
          · exact (World.cell?_setCell_far _ _ _ _ (by dsimp only; omega)).trans hr0
          · exact (World.cell?_setCell_far _ _ _ _ (by dsimp only; omega)).trans hr1
          · exact (World.frozen?_setCell _ _ _ _).trans hr2
          · exact (World.frozen?_setCell _ _ _ _).trans hr3
          · exact (block_setCell G.out).trans (by rw [HSET.out])
        case measure => simp [intOf]; omega
      · have hfc : fC (mS s N k) N = fC (mS s N n) N := by
          by_cases c : k = n
          · rw [c]
          · exact fC_congr fun i hi => by omega
        rw [hfc] at hg
        have HB := Lib.hid hB
        have G := Lib.hid hg
        clear hg hB hfc
        have hk0 : 0 < k ∨ k = 0 := by omega
        by_cases e1 : k < n
        · have e2 : ¬ (0 : Int) < (N : Int) := by omega
          have e1' : (k : Int) < (n : Int) := by omega
          go_wp2
          go_loopw [6] (fun i wr => ∃ l : Nat, l ≤ m ∧ l ≤ N ∧ i = .int .i64 (l : Int) ∧ Below w.heap.size w wr ∧ (wr.cell? ⟨w.heap.size, 0, none⟩ = some (.int .i64 E) ∧ wr.cell? ⟨w.heap.size, 1, none⟩ = some (.slice qS n cS) ∧ wr.cell? ⟨w.heap.size, 2, none⟩ = some (.slice qR m cR) ∧ wr.cell? ⟨w.heap.size, 3, none⟩ = some (.int .i64 M)) ∧ (wr.cell? ⟨n4, 0, none⟩ = some (.int .i64 E) ∧ wr.cell? ⟨n4, 1, none⟩ = some (.slice (some ⟨n26, 0, none⟩) N N)) ∧ (wr.cell? ⟨w.heap.size + 1, 0, none⟩ = some (.int .i64 0) ∧ wr.cell? ⟨w.heap.size + 1, 1, none⟩ = some (.slice none 0 0) ∧ wr.frozen? ⟨w.heap.size + 1, 0, none⟩ = false ∧ wr.frozen? ⟨w.heap.size + 1, 1, none⟩ = false) ∧ wr.heap[n26]? = some (.cells (fC (mR (mS s N n) r l) N) 24 (0, 0))) (fun i _ => m - (intOf i).toNat)
          case atStart => exact ⟨0, Nat.zero_le _, Nat.zero_le _, rfl, HB.out, ⟨hp0, hp1, hp2, hp3⟩, ⟨hm0, hm1⟩, ⟨hr0, hr1, hr2, hr3⟩, by rw [G.out, fC_congr (u := mR (mS s N n) r 0) (v := mS s N n) (fun i _ => by unfold mR; rw [if_neg (by omega)])]⟩
          case round =>
            obtain ⟨l, hh, hhN, rfl, hB2, ⟨gp0, gp1, gp2, gp3⟩, ⟨gm0, gm1⟩, ⟨gr0, gr1, gr2, gr3⟩, hg2⟩ := hrel
            by_cases hlt2 : l < m ∧ l < N
            · omega
            · have hfin : fC (mR (mS s N n) r l) N = fC U N := by
                rw [HU.out]
                exact fC_congr fun i hi => by unfold mR; by_cases c : i < l; rw [if_pos c, if_pos (by omega)]; rw [if_neg c, if_neg (by omega)]
              rw [hfin] at hg2
              have HB2 := Lib.hid hB2
              have G2 := Lib.hid hg2
              clear hg2 hB2 hfin
              by_cases hlm : l < m
              · have i1 : (l : Int) < (m : Int) := by omega
                have i2 : ¬ (l : Int) < (N : Int) := by omega
                go_wp2
                refine bodyPost_ret (by simp [results, Try.results25, go_sem, *]; rfl) rfl ?_
                exact ⟨_, rfl, ⟨by omega, by first | exact G2.out | exact (block_setCell_other (by omega)).trans ((block_setCell_other (by omega)).trans G2.out)⟩, by have := HB2.out; (repeat' (first | (with_reducible exact Below.refl _ _) | (with_reducible assumption) | (with_reducible refine Below.alloc ?_ ?_ _) | (with_reducible refine Below.drew ?_) | (with_reducible refine below_drewN ?_ _) | (with_reducible refine Below.setCell ?_ ?_ _) | (with_reducible refine below_step (by with_reducible assumption) ?_ ?_) | (with_reducible exact Below.size (by with_reducible assumption)) | go_size))⟩
              · have i1 : ¬ (l : Int) < (m : Int) := by omega
                go_wp2
                refine bodyPost_ret (by simp [results, Try.results25, go_sem, *]; rfl) rfl ?_
                exact ⟨_, rfl, ⟨by omega, by first | exact G2.out | exact (block_setCell_other (by omega)).trans ((block_setCell_other (by omega)).trans G2.out)⟩, by have := HB2.out; (repeat' (first | (with_reducible exact Below.refl _ _) | (with_reducible assumption) | (with_reducible refine Below.alloc ?_ ?_ _) | (with_reducible refine Below.drew ?_) | (with_reducible refine below_drewN ?_ _) | (with_reducible refine Below.setCell ?_ ?_ _) | (with_reducible refine below_step (by with_reducible assumption) ?_ ?_) | (with_reducible exact Below.size (by with_reducible assumption)) | go_size))⟩
        · have e1' : ¬ (k : Int) < (n : Int) := by omega
          go_wp2
          go_loopw [6] (fun i wr => ∃ l : Nat, l ≤ m ∧ l ≤ N ∧ i = .int .i64 (l : Int) ∧ Below w.heap.size w wr ∧ (wr.cell? ⟨w.heap.size, 0, none⟩ = some (.int .i64 E) ∧ wr.cell? ⟨w.heap.size, 1, none⟩ = some (.slice qS n cS) ∧ wr.cell? ⟨w.heap.size, 2, none⟩ = some (.slice qR m cR) ∧ wr.cell? ⟨w.heap.size, 3, none⟩ = some (.int .i64 M)) ∧ (wr.cell? ⟨n4, 0, none⟩ = some (.int .i64 E) ∧ wr.cell? ⟨n4, 1, none⟩ = some (.slice (some ⟨n26, 0, none⟩) N N)) ∧ (wr.cell? ⟨w.heap.size + 1, 0, none⟩ = some (.int .i64 0) ∧ wr.cell? ⟨w.heap.size + 1, 1, none⟩ = some (.slice none 0 0) ∧ wr.frozen? ⟨w.heap.size + 1, 0, none⟩ = false ∧ wr.frozen? ⟨w.heap.size + 1, 1, none⟩ = false) ∧ wr.heap[n26]? = some (.cells (fC (mR (mS s N n) r l) N) 24 (0, 0))) (fun i _ => m - (intOf i).toNat)
          case atStart => exact ⟨0, Nat.zero_le _, Nat.zero_le _, rfl, HB.out, ⟨hp0, hp1, hp2, hp3⟩, ⟨hm0, hm1⟩, ⟨hr0, hr1, hr2, hr3⟩, by rw [G.out, fC_congr (u := mR (mS s N n) r 0) (v := mS s N n) (fun i _ => by unfold mR; rw [if_neg (by omega)])]⟩
          case round =>
            obtain ⟨l, hh, hhN, rfl, hB2, ⟨gp0, gp1, gp2, gp3⟩, ⟨gm0, gm1⟩, ⟨gr0, gr1, gr2, gr3⟩, hg2⟩ := hrel
            by_cases hlt2 : l < m ∧ l < N
            · obtain ⟨hl2, hn2⟩ := hlt2
              rcases HR1.out with h0 | ⟨b, o, rfl, hb, hcell⟩
              · omega
              have c0 := (hB2.cell (p := ⟨b, o + l, none⟩) hb).trans (hcell l hl2)
              have HSET := Lib.hid (mR_succ (mS s N n) r N hn2)
              have d1 : wr.cell? ⟨n26, l, none⟩ = some (.float .f32 (mR (mS s N n) r l l)) := (cell_block hg2).trans (fC_get _ hn2)
              have f1 : wr.frozen? ⟨n26, l, none⟩ = false := frozen_block hg2
              clear hcell
              generalize r l = v at *
              generalize mR (mS s N n) r l l = v0 at *
              have G2 := Lib.hid hg2
              have HB2 := Lib.hid hB2
              clear hg2 hB2
              have i0 : (0 : Int) ≤ (l : Int) := by omega
              have i1 : (l : Int) < (m : Int) := by omega
              have i2 : (l : Int) < (N : Int) := by omega
              go_wp2
              refine wp_region_held_drew (S := fun w' => w'.cell? ⟨w.heap.size, 0, none⟩ = some (.int .i64 (E)) ∧ w'.cell? ⟨w.heap.size, 1, none⟩ = some (.slice qS n cS) ∧ w'.cell? ⟨w.heap.size, 2, none⟩ = some (.slice (some ⟨b, o, none⟩) m cR) ∧ w'.cell? ⟨w.heap.size, 3, none⟩ = some (.int .i64 (M)) ∧ w'.cell? ⟨w.heap.size + 1, 0, none⟩ = some (.int .i64 (0)) ∧ w'.cell? ⟨w.heap.size + 1, 1, none⟩ = some (.slice none 0 0) ∧ w'.cell? ⟨n4, 0, none⟩ = some (.int .i64 E) ∧ w'.cell? ⟨n4, 1, none⟩ = some (.slice (some ⟨n26, 0, none⟩) N N) ∧ w'.cell? ⟨b, o + l, none⟩ = some (.float .f32 v) ∧ w'.frozen? ⟨w.heap.size + 1, 0, none⟩ = false ∧ w'.frozen? ⟨w.heap.size + 1, 1, none⟩ = false) (by kernel_rfl) ?_ (fun hH13 => ?_)
              · (first | assumption | (refine ⟨?_, ?_, ?_, ?_, ?_, ?_, ?_, ?_, ?_, ?_, ?_⟩ <;> assumption) | (go_keep; done) | (simp [*, go_sem]; done))
              refine wpAnyH_pure (i := 0) (v := ?_) rfl (by kernel_rfl) (by kernel_rfl) (by kernel_rfl) (fun _ _ _ h => h) (by rfl) (by assumption) ?_ ?_
              rotate_left
              · (intro w hSw; (try dsimp only at hSw); go_simp; (try with_reducible rfl))
              simp only [Act.put, List.getElem_toArray, List.getElem_cons_succ, List.getElem_cons_zero, List.setIfInBounds_toArray, List.set_cons_zero, List.set_cons_succ]
              refine wpAnyH_pure (i := 1) (v := ?_) rfl (by kernel_rfl) (by kernel_rfl) (by kernel_rfl) (fun _ _ _ h => h) (by rfl) (by assumption) ?_ ?_
              rotate_left
              · (intro w hSw; (try dsimp only at hSw); go_simp; (try with_reducible rfl))
              simp only [Act.put, List.getElem_toArray, List.getElem_cons_succ, List.getElem_cons_zero, List.setIfInBounds_toArray, List.set_cons_zero, List.set_cons_succ]
              refine wpAnyH_pure (i := 2) (v := ?_) rfl (by kernel_rfl) (by kernel_rfl) (by kernel_rfl) (fun _ _ _ h => h) (by rfl) (by assumption) ?_ ?_
              rotate_left
              · (intro w hSw; (try dsimp only at hSw); go_simp; (try with_reducible rfl))
              simp only [Act.put, List.getElem_toArray, List.getElem_cons_succ, List.getElem_cons_zero, List.setIfInBounds_toArray, List.set_cons_zero, List.set_cons_succ]
              refine wpAnyH_pure (i := 3) (v := ?_) rfl (by kernel_rfl) (by kernel_rfl) (by kernel_rfl) (fun _ _ _ h => h) (by rfl) (by assumption) ?_ ?_
              rotate_left
              · (intro w hSw; (try dsimp only at hSw); go_simp; (try with_reducible rfl))
              simp only [Act.put, List.getElem_toArray, List.getElem_cons_succ, List.getElem_cons_zero, List.setIfInBounds_toArray, List.set_cons_zero, List.set_cons_succ]
              refine wpAnyH_pure (i := 4) (v := ?_) rfl (by kernel_rfl) (by kernel_rfl) (by kernel_rfl) (fun _ _ _ h => h) (by rfl) (by assumption) ?_ ?_
              rotate_left
              · (intro w hSw; (try dsimp only at hSw); go_simp; (try with_reducible rfl))
              simp only [Act.put, List.getElem_toArray, List.getElem_cons_succ, List.getElem_cons_zero, List.setIfInBounds_toArray, List.set_cons_zero, List.set_cons_succ]
              refine wpAnyH_pure (i := 5) (v := ?_) rfl (by kernel_rfl) (by kernel_rfl) (by kernel_rfl) (fun _ _ _ h => h) (by rfl) (by assumption) ?_ ?_
              rotate_left
              · (intro w hSw; (try dsimp only at hSw); go_simp; (try with_reducible rfl))
              simp only [Act.put, List.getElem_toArray, List.getElem_cons_succ, List.getElem_cons_zero, List.setIfInBounds_toArray, List.set_cons_zero, List.set_cons_succ]
              refine wpAnyH_pure (i := 6) (v := ?_) rfl (by kernel_rfl) (by kernel_rfl) (by kernel_rfl) (fun _ _ _ h => h) (by rfl) (by assumption) ?_ ?_
              rotate_left
              · (intro w hSw; (try dsimp only at hSw); go_simp; (try with_reducible rfl))
              simp only [Act.put, List.getElem_toArray, List.getElem_cons_succ, List.getElem_cons_zero, List.setIfInBounds_toArray, List.set_cons_zero, List.set_cons_succ]
              refine wpAnyH_pure (i := 7) (v := ?_) rfl (by kernel_rfl) (by kernel_rfl) (by kernel_rfl) (fun _ _ _ h => h) (by rfl) (by assumption) ?_ ?_
              rotate_left
              · (intro w hSw; (try dsimp only at hSw); go_simp; (try with_reducible rfl))
              simp only [Act.put, List.getElem_toArray, List.getElem_cons_succ, List.getElem_cons_zero, List.setIfInBounds_toArray, List.set_cons_zero, List.set_cons_succ]
              refine wpAnyH_pure (i := 8) (v := ?_) rfl (by kernel_rfl) (by kernel_rfl) (by kernel_rfl) (fun _ _ _ h => h) (by rfl) (by assumption) ?_ ?_
              rotate_left
              · (intro w hSw; (try dsimp only at hSw); go_simp; (try with_reducible rfl))
              simp only [Act.put, List.getElem_toArray, List.getElem_cons_succ, List.getElem_cons_zero, List.setIfInBounds_toArray, List.set_cons_zero, List.set_cons_succ]
              refine wpAnyH_ready (rs := [9]) (by kernel_rfl) (by simp) ?_
              refine AllReadyH.cons rfl (fun Kq hKq => ?_) AllReadyH.nil
              go_simp
              refine hKq.out _ _ ?_ (fun hH14 => ?_)
              · (first | (refine ⟨?_, ?_, ?_, ?_, ?_, ?_, ?_, ?_, ?_, ?_, ?_⟩ <;> ((repeat (first | refine (World.cell?_setCell_far _ _ _ _ (by dsimp only; omega)).trans ?_ | refine (World.frozen?_setCell _ _ _ _).trans ?_ | refine (block_setCell_other (by dsimp only; omega)).trans ?_)); with_reducible assumption)) | (first | assumption | (refine ⟨?_, ?_, ?_, ?_, ?_, ?_, ?_, ?_, ?_, ?_, ?_⟩ <;> assumption) | (go_keep; done) | (simp [*, go_sem]; done)) | (go_keep; done) | (simp [*, go_sem]; done))
              clear hKq Kq
              clear hH13
              refine wpAnyH_done (by kernel_rfl) ?_ _
              go_wp2
              go_roundw
              case rel =>
                refine ⟨l + 1, by omega, by omega, by go_num, by have := HB2.out; (repeat' (first | (with_reducible exact Below.refl _ _) | (with_reducible assumption) | (with_reducible refine Below.alloc ?_ ?_ _) | (with_reducible refine Below.drew ?_) | (with_reducible refine below_drewN ?_ _) | (with_reducible refine Below.setCell ?_ ?_ _) | (with_reducible refine below_step (by with_reducible assumption) ?_ ?_) | (with_reducible exact Below.size (by with_reducible assumption)) | go_size)), ⟨?_, ?_, ?_, ?_⟩, ⟨?_, ?_⟩, ⟨?_, ?_, ?_, ?_⟩, ?_⟩
                · exact (World.cell?_setCell_far _ _ _ _ (by dsimp only; omega)).trans gp0
                · exact (World.cell?_setCell_far _ _ _ _ (by dsimp only; omega)).trans gp1
                · exact (World.cell?_setCell_far _ _ _ _ (by dsimp only; omega)).trans gp2
                · exact (World.cell?_setCell_far _ _ _ _ (by dsimp only; omega)).trans gp3
                · exact (World.cell?_setCell_far _ _ _ _ (by dsimp only; omega)).trans gm0
                · exact (World.cell?_setCell_far _ _ _ _ (by dsimp only; omega)).trans gm1
                · exact (World.cell?_setCell_far _ _ _ _ (by dsimp only; omega)).trans gr0
                · exact (World.cell?_setCell_far _ _ _ _ (by dsimp only; omega)).trans gr1
                · exact (World.frozen?_setCell _ _ _ _).trans gr2
                · exact (World.frozen?_setCell _ _ _ _).trans gr3
                · exact (block_setCell G2.out).trans (by rw [HSET.out])
              case measure => simp [intOf]; omega
            · have hfin : fC (mR (mS s N n) r l) N = fC U N := by
                rw [HU.out]
                exact fC_congr fun i hi => by unfold mR; by_cases c : i < l; rw [if_pos c, if_pos (by omega)]; rw [if_neg c, if_neg (by omega)]
              rw [hfin] at hg2
              have HB2 := Lib.hid hB2
              have G2 := Lib.hid hg2
              clear hg2 hB2 hfin
              by_cases hlm : l < m
              · have i1 : (l : Int) < (m : Int) := by omega
                have i2 : ¬ (l : Int) < (N : Int) := by omega
                go_wp2
                refine bodyPost_ret (by simp [results, Try.results25, go_sem, *]; rfl) rfl ?_
                exact ⟨_, rfl, ⟨by omega, by first | exact G2.out | exact (block_setCell_other (by omega)).trans ((block_setCell_other (by omega)).trans G2.out)⟩, by have := HB2.out; (repeat' (first | (with_reducible exact Below.refl _ _) | (with_reducible assumption) | (with_reducible refine Below.alloc ?_ ?_ _) | (with_reducible refine Below.drew ?_) | (with_reducible refine below_drewN ?_ _) | (with_reducible refine Below.setCell ?_ ?_ _) | (with_reducible refine below_step (by with_reducible assumption) ?_ ?_) | (with_reducible exact Below.size (by with_reducible assumption)) | go_size))⟩
              · have i1 : ¬ (l : Int) < (m : Int) := by omega
                go_wp2
                refine bodyPost_ret (by simp [results, Try.results25, go_sem, *]; rfl) rfl ?_
                exact ⟨_, rfl, ⟨by omega, by first | exact G2.out | exact (block_setCell_other (by omega)).trans ((block_setCell_other (by omega)).trans G2.out)⟩, by have := HB2.out; (repeat' (first | (with_reducible exact Below.refl _ _) | (with_reducible assumption) | (with_reducible refine Below.alloc ?_ ?_ _) | (with_reducible refine Below.drew ?_) | (with_reducible refine below_drewN ?_ _) | (with_reducible refine Below.setCell ?_ ?_ _) | (with_reducible refine below_step (by with_reducible assumption) ?_ ?_) | (with_reducible exact Below.size (by with_reducible assumption)) | go_size))⟩
end Go.Proofs.Ythgnemkfaiejbaa
