/-
  MODES: the crossing of a mode, its errors, LeastTime and RoundedTime of package ray.
-/
import Derived.Test.YtpphnnbijmoodaaCross
set_option linter.unusedVariables false
set_option linter.unusedSimpArgs false
namespace Go.Proofs.Ytpphnnbijmoodaa
open Go.RowKit

/-- the unfolded depth -/
def unf (m : Md) (z : Int) : Int := if m.Skips % 2 = 1 then m.Skips * m.Thick + (m.Thick - z) else m.Skips * m.Thick + z
def okM (m : Md) : Prop := (500 ≤ m.Wedge ∧ m.Wedge ≤ 10000) ∧ (500 ≤ m.Metal ∧ m.Metal ≤ 10000) ∧ (0 ≤ m.Skips ∧ m.Skips ≤ 4) ∧ (2 ≤ m.Thick ∧ m.Thick ≤ 20000)
theorem mE_zero {m : Md} : mE m = 0 ↔ okM m := by
  unfold mE okM
  rw [frst_zero]
  simp only [List.mem_cons, List.not_mem_nil, or_false, forall_eq_or_imp, forall_eq, unl_zero (show (2 : Int) ≠ 0 by decide), inB_iff]
theorem st_bd {m : Md} (h : okM m) : 0 ≤ m.Skips * m.Thick ∧ m.Skips * m.Thick ≤ 80000 := by
  obtain ⟨-, -, h3, h4⟩ := h
  have := prod_bd (a := m.Skips) (b := m.Thick) (A := 4) (B := 20000) (by omega) (by omega) (by omega) (by omega)
  omega
theorem unf_bd {m : Md} {z : Int} (h : okM m) (hz : 1 ≤ z ∧ z ≤ m.Thick - 1) : 1 ≤ unf m z ∧ unf m z ≤ 100000 := by
  have := st_bd h
  obtain ⟨-, -, h3, h4⟩ := h
  unfold unf
  split <;> omega

set_option maxHeartbeats 400000 in
theorem unfolded_any (m : Md) (z : Int) (w : World) (h : okM m) (hz : 1 ≤ z ∧ z ≤ m.Thick - 1) :
    Calls Try.prog 97 #[.agg #[.int .i64 m.Wedge, .int .i64 m.Metal, .int .i64 m.Skips, .int .i64 m.Thick], .int .i64 z] w fun e w' => e = .returned (.int .i64 (unf m z)) ∧ Below w.heap.size w w' := by
  have hs := st_bd h
  obtain ⟨-, -, h3, h4⟩ := h
  by_cases hp : m.Skips % 2 = 1
  · have HU := Lib.hid (show unf m z = m.Skips * m.Thick + (m.Thick - z) by unfold unf; rw [if_pos hp])
    have t1 : (m.Skips % 2 == 1) = true := by simp [hp]
    clear hp
    go_enter Try.func97, Try.ntmps97
    go_wp2
    go_ret
    exact ⟨ri HU.out.symm, by (repeat' (first | (with_reducible exact Below.refl _ _) | (with_reducible assumption) | (with_reducible refine Below.alloc ?_ ?_ _) | (with_reducible refine Below.drew ?_) | (with_reducible refine below_drewN ?_ _) | (with_reducible refine Below.setCell ?_ ?_ _) | (with_reducible refine below_step (by with_reducible assumption) ?_ ?_) | (with_reducible exact Below.size (by with_reducible assumption)) | go_size))⟩
  · have HU := Lib.hid (show unf m z = m.Skips * m.Thick + z by unfold unf; rw [if_neg hp])
    have t1 : (m.Skips % 2 == 1) = false := by simp [hp]
    clear hp
    go_enter Try.func97, Try.ntmps97
    go_wp2
    go_ret
    exact ⟨ri HU.out.symm, by (repeat' (first | (with_reducible exact Below.refl _ _) | (with_reducible assumption) | (with_reducible refine Below.alloc ?_ ?_ _) | (with_reducible refine Below.drew ?_) | (with_reducible refine below_drewN ?_ _) | (with_reducible refine Below.setCell ?_ ?_ _) | (with_reducible refine below_step (by with_reducible assumption) ?_ ?_) | (with_reducible exact Below.size (by with_reducible assumption)) | go_size))⟩

/-- the crossing of a way -/
def crM (m : Md) (fx fz tx tz : Int) : Cr := ⟨fx, -fz, m.Wedge, tx, unf m tz, m.Metal⟩
/-- the error of a way -/
def wE (m : Md) (fx fz tx tz : Int) : Int := frst [spE fx fz, spE tx tz, unl (decide (fz < 0)) 15, unl (inB tz 1 (m.Thick - 1)) 22]
theorem spE_zero {x z : Int} : spE x z = 0 ↔ (-100000 ≤ x ∧ x ≤ 100000) ∧ (-100000 ≤ z ∧ z ≤ 100000) := by
  unfold spE
  rw [unl_zero (by decide)]
  simp only [Bool.and_eq_true, inB_iff]
def okW (m : Md) (fx fz tx tz : Int) : Prop := ((-100000 ≤ fx ∧ fx ≤ 100000) ∧ (-100000 ≤ fz ∧ fz ≤ 100000)) ∧ ((-100000 ≤ tx ∧ tx ≤ 100000) ∧ (-100000 ≤ tz ∧ tz ≤ 100000)) ∧ fz < 0 ∧ (1 ≤ tz ∧ tz ≤ m.Thick - 1)
theorem wE_zero {m : Md} {fx fz tx tz : Int} : wE m fx fz tx tz = 0 ↔ okW m fx fz tx tz := by
  unfold wE okW
  rw [frst_zero]
  simp only [List.mem_cons, List.not_mem_nil, or_false, forall_eq_or_imp, forall_eq, unl_zero (show (22 : Int) ≠ 0 by decide), unl_zero (show (15 : Int) ≠ 0 by decide), spE_zero, inB_iff, decide_eq_true_eq]
theorem okC_of {m : Md} {fx fz tx tz : Int} (h : okM m) (hw : okW m fx fz tx tz) : okC (crM m fx fz tx tz) := by
  have hu := unf_bd h hw.2.2.2
  obtain ⟨h1, h2, h3, h4⟩ := h
  obtain ⟨⟨a1, a2⟩, ⟨b1, b2⟩, c, d⟩ := hw
  unfold okC crM
  exact ⟨a1, b1, by show 1 ≤ -fz ∧ -fz ≤ 100000; omega, hu, h1, h2⟩

set_option maxRecDepth 100000 in
set_option maxHeartbeats 2000000 in
theorem crossOf_any (m : Md) (fx fz tx tz : Int) (w : World) (h : okM m) (hw : okW m fx fz tx tz) :
    Calls Try.prog 100 #[.agg #[.int .i64 m.Wedge, .int .i64 m.Metal, .int .i64 m.Skips, .int .i64 m.Thick], .agg #[.int .i64 fx, .int .i64 fz], .agg #[.int .i64 tx, .int .i64 tz]] w fun e w' => e = .returned (.agg #[.int .i64 fx, .int .i64 (-fz), .int .i64 m.Wedge, .int .i64 tx, .int .i64 (unf m tz), .int .i64 m.Metal]) ∧ Below w.heap.size w w' := by
  have K := Lib.hid (fun W => unfolded_any m tz W h hw.2.2.2)
  obtain ⟨⟨a1, a2⟩, ⟨b1, b2⟩, c, d⟩ := hw
  have wr1 : IntKind.i64.wrap (-fz) = -fz := IntWalk.i64_in _ (by omega)
  clear h
  go_enter Try.func100, Try.ntmps100
  go_wp2
  go_region_held3 (fun w' => w'.cell? ⟨w.heap.size, 0, none⟩ = some (.int .i64 m.Wedge) ∧ w'.cell? ⟨w.heap.size, 1, none⟩ = some (.int .i64 m.Metal) ∧ w'.cell? ⟨w.heap.size, 2, none⟩ = some (.int .i64 m.Skips) ∧ w'.cell? ⟨w.heap.size, 3, none⟩ = some (.int .i64 m.Thick) ∧ w'.cell? ⟨w.heap.size + 1, 0, none⟩ = some (.int .i64 fx) ∧ w'.cell? ⟨w.heap.size + 1, 1, none⟩ = some (.int .i64 fz) ∧ w'.cell? ⟨w.heap.size + 1 + 1, 0, none⟩ = some (.int .i64 tx) ∧ w'.cell? ⟨w.heap.size + 1 + 1, 1, none⟩ = some (.int .i64 tz)) (first | (go_keep; done) | (simp [*, go_sem]; done))
    (first | (go_at_call 97; refine (K.out _).mono ?_; rintro e w1 ⟨rfl, hw1⟩; obtain ⟨hcw1, hfw1, hlw1, hmw1, hnw1⟩ := bcell3 hw1; have hz1 := hw1.size; (try simp only [World.size_drew, World.size_alloc] at hz1); have o0 : w.heap.size < w1.heap.size := (by omega); have o1 : w.heap.size + 1 < w1.heap.size := (by omega); have o2 : w.heap.size + 1 + 1 < w1.heap.size := (by omega); have o3 : w.heap.size + 1 + 1 + 1 < w1.heap.size := (by omega)))
  go_wp2
  refine bodyPost_ret (by simp [results, Try.results100, go_sem, *]; rfl) rfl ?_
  exact ⟨rfl, by (repeat' (first | (with_reducible exact Below.refl _ _) | (with_reducible assumption) | (with_reducible refine Below.alloc ?_ ?_ _) | (with_reducible refine Below.drew ?_) | (with_reducible refine below_drewN ?_ _) | (with_reducible refine Below.setCell ?_ ?_ _) | (with_reducible refine below_step (by with_reducible assumption) ?_ ?_) | (with_reducible exact Below.size (by with_reducible assumption)) | go_size))⟩

set_option maxRecDepth 100000 in
set_option maxHeartbeats 2000000 in
theorem wayError_any (m : Md) (fx fz tx tz : Int) (w : World) :
    Calls Try.prog 99 #[.agg #[.int .i64 m.Wedge, .int .i64 m.Metal, .int .i64 m.Skips, .int .i64 m.Thick], .agg #[.int .i64 fx, .int .i64 fz], .agg #[.int .i64 tx, .int .i64 tz]] w fun e w' => e = .returned (.int .i64 (wE m fx fz tx tz)) ∧ Below w.heap.size w w' := by
  have HE := Lib.hid (show wE m fx fz tx tz = frst [spE fx fz, spE tx tz, unl (decide (fz < 0)) 15, unl (inB tz 1 (m.Thick - 1)) 22] from rfl)
  have K1 := Lib.hid (fun W => placeError_any fx fz W)
  have K2 := Lib.hid (fun W => placeError_any tx tz W)
  go_enter Try.func99, Try.ntmps99
  go_wp2
  go_region_held3 (fun w' => w'.cell? ⟨w.heap.size, 3, none⟩ = some (.int .i64 m.Thick) ∧ w'.cell? ⟨w.heap.size + 1, 0, none⟩ = some (.int .i64 fx) ∧ w'.cell? ⟨w.heap.size + 1, 1, none⟩ = some (.int .i64 fz) ∧ w'.cell? ⟨w.heap.size + 1 + 1, 0, none⟩ = some (.int .i64 tx) ∧ w'.cell? ⟨w.heap.size + 1 + 1, 1, none⟩ = some (.int .i64 tz)) (first | (go_keep; done) | (simp [*, go_sem]; done))
    (first
      | (go_at_call 78; ((with_reducible refine (K1.out _).mono ?_); rintro e w1 ⟨rfl, hw1⟩; obtain ⟨hcw1, hfw1, hlw1, hmw1, hnw1⟩ := bcell3 hw1; have hz1 := hw1.size; (try simp only [World.size_drew, World.size_alloc] at hz1); have o0_1 : w.heap.size < w1.heap.size := (by omega); have o1_1 : w.heap.size + 1 < w1.heap.size := (by omega); have o2_1 : w.heap.size + 1 + 1 < w1.heap.size := (by omega)))
      | (go_at_call 78; ((with_reducible refine (K2.out _).mono ?_); rintro e w2 ⟨rfl, hw2⟩; obtain ⟨hcw2, hfw2, hlw2, hmw2, hnw2⟩ := bcell3 hw2; have hz2 := hw2.size; (try simp only [World.size_drew, World.size_alloc] at hz2); have o0_2 : w.heap.size < w2.heap.size := (by omega); have o1_2 : w.heap.size + 1 < w2.heap.size := (by omega); have o2_2 : w.heap.size + 1 + 1 < w2.heap.size := (by omega)))
      | (go_at_call 96; refine (inPlate_any _ _ _).mono ?_; rintro e w' ⟨rfl, rfl⟩)
      | (go_at_call 88; refine (unless_any _ _ _).mono ?_; rintro e w' ⟨rfl, rfl⟩)
      | (go_at_call 77; refine (first4 (spE fx fz) (spE tx tz) (unl (decide (fz < 0)) 15) (unl (inB tz 1 (m.Thick - 1)) 22) _ _ (cell_fresh _ _ _ _ _ _ rfl rfl) (cell_fresh _ _ _ _ _ _ rfl rfl) (cell_fresh _ _ _ _ _ _ rfl rfl) (cell_fresh _ _ _ _ _ _ rfl rfl)).mono ?_; rintro e w' ⟨rfl, rfl⟩))
  all_goals
    go_wp2
    go_ret
    exact ⟨ri HE.out.symm, by (repeat' (first | (with_reducible exact Below.refl _ _) | (with_reducible assumption) | (with_reducible refine Below.alloc ?_ ?_ _) | (with_reducible refine Below.drew ?_) | (with_reducible refine below_drewN ?_ _) | (with_reducible refine Below.setCell ?_ ?_ _) | (with_reducible refine below_step (by with_reducible assumption) ?_ ?_) | (with_reducible exact Below.size (by with_reducible assumption)) | go_size))⟩
end Go.Proofs.Ytpphnnbijmoodaa
