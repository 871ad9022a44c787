/-
  Unfolded of package ray, with its errors; CheckMode and Unfolded of the reference.
-/
import Derived.Test.YtpphnnbijmoodaaMode
import Derived.Test.YtpphnnbijmoodaaAwake
set_option linter.unusedVariables false
set_option linter.unusedSimpArgs false
namespace Go.Proofs.Ytpphnnbijmoodaa
open Go.RowKit

def uE (m : Md) (z : Int) : Int := frst [mE m, unl (inB z 1 (m.Thick - 1)) 22]
theorem uE_zero {m : Md} {z : Int} : uE m z = 0 ↔ okM m ∧ (1 ≤ z ∧ z ≤ m.Thick - 1) := by
  unfold uE
  rw [frst_zero]
  simp only [List.mem_cons, List.not_mem_nil, or_false, forall_eq_or_imp, forall_eq, mE_zero, unl_zero (show (22 : Int) ≠ 0 by decide), inB_iff]

set_option maxRecDepth 100000 in
set_option maxHeartbeats 1000000 in
theorem Unfolded_err (m : Md) (z : Int) (w : World) (h : ¬ uE m z = 0) :
    Calls Try.prog 41 #[.agg #[.int .i64 m.Wedge, .int .i64 m.Metal, .int .i64 m.Skips, .int .i64 m.Thick], .int .i64 z] w fun e w' => e = .returned (.tuple #[.int .i64 0, .int .i64 (uE m z)]) ∧ Below w.heap.size w w' := by
  have K1 := Lib.hid (fun W => checkMode_any m W)
  have hf : frst [mE m, unl (inB z 1 (m.Thick - 1)) 22] = uE m z := rfl
  generalize uE m z = g at *
  generalize mE m = a at *
  have HF := Lib.hid hf
  clear hf
  go_enter Try.func41, Try.ntmps41
  go_wp2
  go_region_held3 (fun w' => w'.cell? ⟨w.heap.size, 0, none⟩ = some (.int .i64 m.Wedge) ∧ w'.cell? ⟨w.heap.size, 1, none⟩ = some (.int .i64 m.Metal) ∧ w'.cell? ⟨w.heap.size, 2, none⟩ = some (.int .i64 m.Skips) ∧ w'.cell? ⟨w.heap.size, 3, none⟩ = some (.int .i64 m.Thick)) (first | (go_keep; done) | (simp [*, go_sem]; done))
    (first
      | ((go_at_call 43; refine (K1.out _).mono ?_; rintro e w1 ⟨rfl, hw1⟩; obtain ⟨hcw1, hfw1, hlw1, hmw1, hnw1⟩ := bcell3 hw1; have hzw1 := hw1.size; (try simp only [World.size_alloc, World.size_setCell, World.size_drew, size_drewN] at hzw1)); have ca1_0 : w1.cell? ⟨w.heap.size, 0, none⟩ = some (.int .i64 (m.Wedge)) := (hcw1 (w.heap.size) (0) (by first | omega | (simp only [World.size_alloc, World.size_drew, World.size_setCell, size_drewN]; omega))).trans (by simp [go_sem, *]); have ca1_1 : w1.cell? ⟨w.heap.size, 1, none⟩ = some (.int .i64 (m.Metal)) := (hcw1 (w.heap.size) (1) (by first | omega | (simp only [World.size_alloc, World.size_drew, World.size_setCell, size_drewN]; omega))).trans (by simp [go_sem, *]); have ca1_2 : w1.cell? ⟨w.heap.size, 2, none⟩ = some (.int .i64 (m.Skips)) := (hcw1 (w.heap.size) (2) (by first | omega | (simp only [World.size_alloc, World.size_drew, World.size_setCell, size_drewN]; omega))).trans (by simp [go_sem, *]); have ca1_3 : w1.cell? ⟨w.heap.size, 3, none⟩ = some (.int .i64 (m.Thick)) := (hcw1 (w.heap.size) (3) (by first | omega | (simp only [World.size_alloc, World.size_drew, World.size_setCell, size_drewN]; omega))).trans (by simp [go_sem, *]); have oa1 : w.heap.size < w1.heap.size := (by omega))
      | (go_at_call 96; refine (inPlate_any _ _ _).mono ?_; rintro e w' ⟨rfl, rfl⟩)
      | (go_at_call 88; refine (unless_any _ _ _).mono ?_; rintro e w' ⟨rfl, rfl⟩)
      | (go_at_call 77; refine (first2 a (unl (inB z 1 (m.Thick - 1)) 22) _ _ (cell_fresh _ _ _ _ _ _ (by simp) rfl) (cell_fresh _ _ _ _ _ _ (by simp) rfl)).mono ?_; rw [HF.out]; rintro e w' ⟨rfl, rfl⟩))
  all_goals
    go_wp2
    go_ret2
    exact ⟨rfl, by (repeat' (first | (with_reducible exact Below.refl _ _) | (with_reducible assumption) | (with_reducible refine Below.alloc ?_ ?_ _) | (with_reducible refine Below.drew ?_) | (with_reducible refine below_drewN ?_ _) | (with_reducible refine Below.setCell ?_ ?_ _) | (with_reducible refine below_step (by with_reducible assumption) ?_ ?_) | (with_reducible exact Below.size (by with_reducible assumption)) | go_size))⟩
set_option maxRecDepth 100000 in
set_option maxHeartbeats 1000000 in
theorem Unfolded_ok (m : Md) (z : Int) (w : World) (h : okM m) (hz : 1 ≤ z ∧ z ≤ m.Thick - 1) :
    Calls Try.prog 41 #[.agg #[.int .i64 m.Wedge, .int .i64 m.Metal, .int .i64 m.Skips, .int .i64 m.Thick], .int .i64 z] w fun e w' => e = .returned (.tuple #[.int .i64 (unf m z), .int .i64 0]) ∧ Below w.heap.size w w' := by
  have K1 : ∀ W, _ := fun W => checkMode_any m W
  rw [mE_zero.2 h] at K1
  have H1 := Lib.hid K1
  have H2 := Lib.hid (fun W => unfolded_any m z W h hz)
  have HF := Lib.hid (show frst [0, unl (inB z 1 (m.Thick - 1)) 22] = 0 by rw [inB_iff.2 hz]; rfl)
  clear K1 h hz
  go_enter Try.func41, Try.ntmps41
  go_wp2
  go_region_held3 (fun w' => w'.cell? ⟨w.heap.size, 0, none⟩ = some (.int .i64 m.Wedge) ∧ w'.cell? ⟨w.heap.size, 1, none⟩ = some (.int .i64 m.Metal) ∧ w'.cell? ⟨w.heap.size, 2, none⟩ = some (.int .i64 m.Skips) ∧ w'.cell? ⟨w.heap.size, 3, none⟩ = some (.int .i64 m.Thick)) (first | (go_keep; done) | (simp [*, go_sem]; done))
    (first
      | ((go_at_call 43; refine (H1.out _).mono ?_; rintro e w1 ⟨rfl, hw1⟩; obtain ⟨hcw1, hfw1, hlw1, hmw1, hnw1⟩ := bcell3 hw1; have hzw1 := hw1.size; (try simp only [World.size_alloc, World.size_setCell, World.size_drew, size_drewN] at hzw1)); have ca1_0 : w1.cell? ⟨w.heap.size, 0, none⟩ = some (.int .i64 (m.Wedge)) := (hcw1 (w.heap.size) (0) (by first | omega | (simp only [World.size_alloc, World.size_drew, World.size_setCell, size_drewN]; omega))).trans (by simp [go_sem, *]); have ca1_1 : w1.cell? ⟨w.heap.size, 1, none⟩ = some (.int .i64 (m.Metal)) := (hcw1 (w.heap.size) (1) (by first | omega | (simp only [World.size_alloc, World.size_drew, World.size_setCell, size_drewN]; omega))).trans (by simp [go_sem, *]); have ca1_2 : w1.cell? ⟨w.heap.size, 2, none⟩ = some (.int .i64 (m.Skips)) := (hcw1 (w.heap.size) (2) (by first | omega | (simp only [World.size_alloc, World.size_drew, World.size_setCell, size_drewN]; omega))).trans (by simp [go_sem, *]); have ca1_3 : w1.cell? ⟨w.heap.size, 3, none⟩ = some (.int .i64 (m.Thick)) := (hcw1 (w.heap.size) (3) (by first | omega | (simp only [World.size_alloc, World.size_drew, World.size_setCell, size_drewN]; omega))).trans (by simp [go_sem, *]); have oa1 : w.heap.size < w1.heap.size := (by omega))
      | (go_at_call 96; refine (inPlate_any _ _ _).mono ?_; rintro e w' ⟨rfl, rfl⟩)
      | (go_at_call 88; refine (unless_any _ _ _).mono ?_; rintro e w' ⟨rfl, rfl⟩)
      | (go_at_call 77; refine (first2 0 (unl (inB z 1 (m.Thick - 1)) 22) _ _ (cell_fresh _ _ _ _ _ _ (by simp) rfl) (cell_fresh _ _ _ _ _ _ (by simp) rfl)).mono ?_; rw [HF.out]; rintro e w' ⟨rfl, rfl⟩))
  all_goals
    go_wp2_with (go_at_call 97; refine (H2.out _).mono ?_; rintro e w2 ⟨rfl, hw2⟩; obtain ⟨hcw2, hfw2, hlw2, hmw2, hnw2⟩ := bcell3 hw2; have hzw2 := hw2.size; (try simp only [World.size_alloc, World.size_setCell, World.size_drew, size_drewN] at hzw2))
    go_ret2
    exact ⟨rfl, by (repeat' (first | (with_reducible exact Below.refl _ _) | (with_reducible assumption) | (with_reducible refine Below.alloc ?_ ?_ _) | (with_reducible refine Below.drew ?_) | (with_reducible refine below_drewN ?_ _) | (with_reducible refine Below.setCell ?_ ?_ _) | (with_reducible refine below_step (by with_reducible assumption) ?_ ?_) | (with_reducible exact Below.size (by with_reducible assumption)) | go_size))⟩

theorem mE_ref {m : Md} (h : ¬ frst [unl (inB m.Wedge 500 10000) 2, unl (inB m.Metal 500 10000) 2] = 0) : mE m = frst [unl (inB m.Wedge 500 10000) 2, unl (inB m.Metal 500 10000) 2] := by
  unfold mE frst at *
  cases h1 : inB m.Wedge 500 10000 <;> cases h2 : inB m.Metal 500 10000 <;> simp [unl, h1, h2, frst] at h ⊢
theorem mE_ref2 {m : Md} (h : frst [unl (inB m.Wedge 500 10000) 2, unl (inB m.Metal 500 10000) 2] = 0) : mE m = if (inB m.Skips 0 4 && inB m.Thick 2 20000) then 0 else 2 := by
  unfold mE frst at *
  cases h1 : inB m.Wedge 500 10000 <;> cases h2 : inB m.Metal 500 10000 <;> cases h3 : inB m.Skips 0 4 <;> cases h4 : inB m.Thick 2 20000 <;> simp [unl, h1, h2, frst] at h ⊢

set_option maxRecDepth 100000 in
set_option maxHeartbeats 2000000 in
theorem rcheckMode_any (m : Md) (w : World) :
    Calls Try.prog 42 #[.agg #[.int .i64 m.Wedge, .int .i64 m.Metal, .int .i64 m.Skips, .int .i64 m.Thick]] w fun e w' => e = .returned (.int .i64 (mE m)) ∧ Below w.heap.size w w' := by
  have start : ∀ g : Int, Hid (frst [unl (inB m.Wedge 500 10000) 2, unl (inB m.Metal 500 10000) 2] = g) → (¬ g = 0 → Hid (mE m = g)) → (g = 0 → Hid (mE m = if (inB m.Skips 0 4 && inB m.Thick 2 20000) then 0 else 2)) →
      Calls Try.prog 42 #[.agg #[.int .i64 m.Wedge, .int .i64 m.Metal, .int .i64 m.Skips, .int .i64 m.Thick]] w fun e w' => e = .returned (.int .i64 (mE m)) ∧ Below w.heap.size w w' := by
    intro g HF E1 E2
    by_cases hg : g = 0
    · subst hg
      have HE := E2 rfl
      clear E1 E2
      cases c1 : inB m.Skips 0 4
      all_goals
        cases c2 : inB m.Thick 2 20000
        all_goals
          go_enter Try.func42, Try.ntmps42
          go_wp2
          obtain ⟨W, hW⟩ : ∃ W, W = w.alloc (.cells #[.int .i64 m.Wedge, .int .i64 m.Metal, .int .i64 m.Skips, .int .i64 m.Thick] 54) := ⟨_, rfl⟩
          rw [← hW]
          have hB := hW ▸ (show Below w.heap.size w (w.alloc (.cells #[.int .i64 m.Wedge, .int .i64 m.Metal, .int .i64 m.Skips, .int .i64 m.Thick] 54)) by (repeat' (first | (with_reducible exact Below.refl _ _) | (with_reducible assumption) | (with_reducible refine Below.alloc ?_ ?_ _) | (with_reducible refine Below.drew ?_) | (with_reducible refine below_drewN ?_ _) | (with_reducible refine Below.setCell ?_ ?_ _) | (with_reducible refine below_step (by with_reducible assumption) ?_ ?_) | (with_reducible exact Below.size (by with_reducible assumption)) | go_size)))
          have hl : w.heap.size < W.heap.size := by rw [hW]; simp
          have s0 : W.cell? ⟨w.heap.size, 0, none⟩ = some (.int .i64 m.Wedge) := by rw [hW]; exact cell_fresh _ _ _ _ _ _ rfl rfl
          have s1 : W.cell? ⟨w.heap.size, 1, none⟩ = some (.int .i64 m.Metal) := by rw [hW]; exact cell_fresh _ _ _ _ _ _ rfl rfl
          have s2 : W.cell? ⟨w.heap.size, 2, none⟩ = some (.int .i64 m.Skips) := by rw [hW]; exact cell_fresh _ _ _ _ _ _ rfl rfl
          have s3 : W.cell? ⟨w.heap.size, 3, none⟩ = some (.int .i64 m.Thick) := by rw [hW]; exact cell_fresh _ _ _ _ _ _ rfl rfl
          clear hW
          refine wp_region_still_tail 6 (by kernel_rfl) (by kernel_rfl) ?_
          change wpStill _ _ W.drew _ _ _
          simp only [List.take_succ_cons, List.take_zero, List.drop_succ_cons, List.drop_zero]
          repeat (first | still_step | still_call (still_of (refSpeed_any _ _)))
          refine wpStill_nil ?_
          change wpList _ _ _ _ _ W.drew
          go_wp2_with fail
          apply Calls.mono
          focus ((apply rfirst2 <;> exact cell_fresh _ _ _ _ _ _ rfl rfl); done)
          rw [HF.out]
          rintro e w' ⟨rfl, rfl⟩
          go_wp2_with (go_at_call 40; refine (bwithin_any _ _ _ _).mono ?_; rintro e w' ⟨rfl, rfl⟩)
          go_ret
          exact ⟨ri (by rw [HE.out, c1, c2]; rfl), by (repeat' (first | (with_reducible exact Below.refl _ _) | (with_reducible assumption) | (with_reducible refine Below.alloc ?_ ?_ _) | (with_reducible refine Below.drew ?_) | (with_reducible refine below_drewN ?_ _) | (with_reducible refine Below.setCell ?_ ?_ _) | (with_reducible refine below_step (by with_reducible assumption) ?_ ?_) | (with_reducible exact Below.size (by with_reducible assumption)) | go_size))⟩
    · have HE := E1 hg
      clear E1 E2
      go_enter Try.func42, Try.ntmps42
      go_wp2
      obtain ⟨W, hW⟩ : ∃ W, W = w.alloc (.cells #[.int .i64 m.Wedge, .int .i64 m.Metal, .int .i64 m.Skips, .int .i64 m.Thick] 54) := ⟨_, rfl⟩
      rw [← hW]
      have hB := hW ▸ (show Below w.heap.size w (w.alloc (.cells #[.int .i64 m.Wedge, .int .i64 m.Metal, .int .i64 m.Skips, .int .i64 m.Thick] 54)) by (repeat' (first | (with_reducible exact Below.refl _ _) | (with_reducible assumption) | (with_reducible refine Below.alloc ?_ ?_ _) | (with_reducible refine Below.drew ?_) | (with_reducible refine below_drewN ?_ _) | (with_reducible refine Below.setCell ?_ ?_ _) | (with_reducible refine below_step (by with_reducible assumption) ?_ ?_) | (with_reducible exact Below.size (by with_reducible assumption)) | go_size)))
      have s0 : W.cell? ⟨w.heap.size, 0, none⟩ = some (.int .i64 m.Wedge) := by rw [hW]; exact cell_fresh _ _ _ _ _ _ rfl rfl
      have s1 : W.cell? ⟨w.heap.size, 1, none⟩ = some (.int .i64 m.Metal) := by rw [hW]; exact cell_fresh _ _ _ _ _ _ rfl rfl
      clear hW
      refine wp_region_still_tail 6 (by kernel_rfl) (by kernel_rfl) ?_
      change wpStill _ _ W.drew _ _ _
      simp only [List.take_succ_cons, List.take_zero, List.drop_succ_cons, List.drop_zero]
      repeat (first | still_step | still_call (still_of (refSpeed_any _ _)))
      refine wpStill_nil ?_
      change wpList _ _ _ _ _ W.drew
      go_wp2_with fail
      apply Calls.mono
      focus ((apply rfirst2 <;> exact cell_fresh _ _ _ _ _ _ rfl rfl); done)
      rw [HF.out]
      rintro e w' ⟨rfl, rfl⟩
      go_wp2
      go_ret
      exact ⟨ri HE.out.symm, by (repeat' (first | (with_reducible exact Below.refl _ _) | (with_reducible assumption) | (with_reducible refine Below.alloc ?_ ?_ _) | (with_reducible refine Below.drew ?_) | (with_reducible refine below_drewN ?_ _) | (with_reducible refine Below.setCell ?_ ?_ _) | (with_reducible refine below_step (by with_reducible assumption) ?_ ?_) | (with_reducible exact Below.size (by with_reducible assumption)) | go_size))⟩
  exact start _ (Lib.hid rfl) (fun h => Lib.hid (mE_ref h)) (fun h => Lib.hid (mE_ref2 h))

set_option maxHeartbeats 400000 in
theorem runfolded_any (m : Md) (z : Int) (w : World) (h : okM m) (hz : 1 ≤ z ∧ z ≤ m.Thick - 1) :
    Calls Try.prog 44 #[.agg #[.int .i64 m.Wedge, .int .i64 m.Metal, .int .i64 m.Skips, .int .i64 m.Thick], .int .i64 z] w fun e w' => e = .returned (.int .i64 (unf m z)) ∧ Below w.heap.size w w' := by
  have hs := st_bd h
  obtain ⟨-, -, h3, h4⟩ := h
  by_cases hp : m.Skips % 2 = 1
  · have HU := Lib.hid (show unf m z = m.Skips * m.Thick + m.Thick - z by unfold unf; rw [if_pos hp]; omega)
    have t1 : (m.Skips % 2 == 0) = false := by simp [hp]
    clear hp
    go_enter Try.func44, Try.ntmps44
    go_wp2
    go_ret
    exact ⟨ri HU.out.symm, by (repeat' (first | (with_reducible exact Below.refl _ _) | (with_reducible assumption) | (with_reducible refine Below.alloc ?_ ?_ _) | (with_reducible refine Below.drew ?_) | (with_reducible refine below_drewN ?_ _) | (with_reducible refine Below.setCell ?_ ?_ _) | (with_reducible refine below_step (by with_reducible assumption) ?_ ?_) | (with_reducible exact Below.size (by with_reducible assumption)) | go_size))⟩
  · have HU := Lib.hid (show unf m z = m.Skips * m.Thick + z by unfold unf; rw [if_neg hp])
    have t1 : (m.Skips % 2 == 0) = true := by simp; omega
    clear hp
    go_enter Try.func44, Try.ntmps44
    go_wp2
    go_ret
    exact ⟨ri HU.out.symm, by (repeat' (first | (with_reducible exact Below.refl _ _) | (with_reducible assumption) | (with_reducible refine Below.alloc ?_ ?_ _) | (with_reducible refine Below.drew ?_) | (with_reducible refine below_drewN ?_ _) | (with_reducible refine Below.setCell ?_ ?_ _) | (with_reducible refine below_step (by with_reducible assumption) ?_ ?_) | (with_reducible exact Below.size (by with_reducible assumption)) | go_size))⟩
end Go.Proofs.Ytpphnnbijmoodaa
