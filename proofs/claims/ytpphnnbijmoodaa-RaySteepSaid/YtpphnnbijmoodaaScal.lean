import Derived.Test.YtpphnnbijmoodaaProg
import Derived.WalkKit
import Derived.WalkSpells
import Derived.WalkLawsBesides
import Derived.Handy
set_option linter.unusedVariables false
set_option linter.unusedSimpArgs false
namespace Go.Proofs.Ytpphnnbijmoodaa
open Go.RowKit

/-- the floor of n / by, for by above 0, out of Go's quotient and remainder -/
theorem fl_neg (n b : Int) (hb : 1 ≤ b) (h : n.tmod b < 0) : n.tdiv b - 1 = n / b := by
  have hn : n < 0 := by
    rcases Int.lt_or_le n 0 with h1 | h1
    · exact h1
    · have := Int.tmod_nonneg b h1; omega
  have e1 := Int.mul_tdiv_add_tmod n b
  have e2 := Int.mul_ediv_add_emod n b
  have b1 := Int.emod_nonneg n (show b ≠ 0 by omega)
  have b2 := Int.emod_lt_of_pos n (show 0 < b by omega)
  have b3 : -b < n.tmod b := by
    have := Int.lt_tmod_of_pos n (show 0 < b by omega); omega
  have h3 : b * (n.tdiv b - 1 - n / b) = (n % b) - n.tmod b - b := by grind
  have h4 : n.tdiv b - 1 - n / b = 0 := by
    rcases Int.lt_trichotomy (n.tdiv b - 1 - n / b) 0 with h5 | h5 | h5
    · have : b * (n.tdiv b - 1 - n / b) ≤ b * (-1) := Int.mul_le_mul_of_nonneg_left (by omega) (by omega)
      omega
    · exact h5
    · have : b * 1 ≤ b * (n.tdiv b - 1 - n / b) := Int.mul_le_mul_of_nonneg_left (by omega) (by omega)
      omega
  omega

theorem fl_pos (n b : Int) (hb : 1 ≤ b) (h : ¬ n.tmod b < 0) : n.tdiv b = n / b := by
  have e1 := Int.mul_tdiv_add_tmod n b
  have e2 := Int.mul_ediv_add_emod n b
  have b1 := Int.emod_nonneg n (show b ≠ 0 by omega)
  have b2 := Int.emod_lt_of_pos n (show 0 < b by omega)
  have b3 : n.tmod b < b := Int.tmod_lt_of_pos n (show 0 < b by omega)
  have h3 : b * (n.tdiv b - n / b) = (n % b) - n.tmod b := by grind
  have h4 : n.tdiv b - n / b = 0 := by
    rcases Int.lt_trichotomy (n.tdiv b - n / b) 0 with h5 | h5 | h5
    · have : b * (n.tdiv b - n / b) ≤ b * (-1) := Int.mul_le_mul_of_nonneg_left (by omega) (by omega)
      omega
    · exact h5
    · have : b * 1 ≤ b * (n.tdiv b - n / b) := Int.mul_le_mul_of_nonneg_left (by omega) (by omega)
      omega
  omega

theorem ri {k : IntKind} {a b : Int} (h : a = b) : Ending.returned (.int k a) = .returned (.int k b) := by rw [h]

theorem tdiv_bd (n b : Int) (hb : 1 ≤ b) (lo : -9223372036854775807 ≤ n) (hi : n ≤ 9223372036854775807) : -9223372036854775807 ≤ n.tdiv b ∧ n.tdiv b ≤ 9223372036854775807 := by
  rcases Int.lt_or_le n 0 with h | h
  · have e : n.tdiv b = -((-n).tdiv b) := by rw [Int.neg_tdiv, Int.neg_neg]
    have := IntWalk.tdiv_le (-n) b (by omega) hb
    rw [e, Int.tdiv_eq_ediv_of_nonneg (by omega)]; omega
  · rw [Int.tdiv_eq_ediv_of_nonneg h]; have := IntWalk.tdiv_le n b h hb; omega

set_option maxHeartbeats 400000 in
theorem dd_any (n b : Int) (w : World) (hb : 1 ≤ b) (lo : -9223372036854775807 ≤ n) (hi : n ≤ 9223372036854775807) (hb2 : b ≤ 9223372036854775807) :
    Calls Try.prog 101 #[.int .i64 n, .int .i64 b] w fun e w' => e = .returned (.int .i64 (n / b)) ∧ w = w' := by
  have hb0 : ¬ b = 0 := by omega
  have h0 := tdiv_bd n b hb lo hi
  by_cases h : n.tmod b < 0
  · have e := fl_neg n b hb h
    have e0 : Hid (n.tdiv b - 1 = n / b) := e
    clear e
    go_enter Try.func101, Try.ntmps101
    go_wp2
    go_ret
    exact ⟨ri (e0.out), rfl⟩
  · have e := fl_pos n b hb h
    have e0 : Hid (n.tdiv b = n / b) := e
    clear e
    go_enter Try.func101, Try.ntmps101
    go_wp2
    go_ret
    exact ⟨ri (e0.out), rfl⟩

set_option maxHeartbeats 400000 in
theorem floor_any (n b : Int) (w : World) (hb : 1 ≤ b) (lo : -9223372036854775807 ≤ n) (hi : n ≤ 9223372036854775807) (hb2 : b ≤ 9223372036854775807) :
    Calls Try.prog 94 #[.int .i64 n, .int .i64 b] w fun e w' => e = .returned (.int .i64 (n / b)) ∧ w = w' := by
  have hb0 : ¬ b = 0 := by omega
  have h0 := tdiv_bd n b hb lo hi
  by_cases h : n.tmod b < 0
  · have e := fl_neg n b hb h
    have e0 : Hid (n.tdiv b - 1 = n / b) := e
    clear e
    go_enter Try.func94, Try.ntmps94
    go_wp2
    go_ret
    exact ⟨ri (e0.out), rfl⟩
  · have e := fl_pos n b hb h
    have e0 : Hid (n.tdiv b = n / b) := e
    clear e
    go_enter Try.func94, Try.ntmps94
    go_wp2
    go_ret
    exact ⟨ri (e0.out), rfl⟩

/-- n / b rounded up -/
def cdiv (n b : Int) : Int := -((-n) / b)

theorem ediv_bd (n b : Int) (hb : 1 ≤ b) (lo : -9223372036854775807 ≤ n) (hi : n ≤ 9223372036854775807) : -9223372036854775807 ≤ n / b ∧ n / b ≤ 9223372036854775807 := by
  rcases Int.lt_or_le n 0 with h | h
  · constructor
    · have : (-9223372036854775807) / b ≤ n / b := Int.ediv_le_ediv (by omega) lo
      have h2 : -9223372036854775807 ≤ (-9223372036854775807) / b := by
        rw [Int.le_ediv_iff_mul_le (by omega)]
        have : b * (9223372036854775807 : Int) ≥ 1 * 9223372036854775807 := Int.mul_le_mul_of_nonneg_right hb (by omega)
        grind
      omega
    · have : n / b < 0 := Int.ediv_neg_of_neg_of_pos h (by omega)
      omega
  · have := IntWalk.tdiv_le n b h hb; omega

set_option maxHeartbeats 400000 in
theorem du_any (n b : Int) (w : World) (hb : 1 ≤ b) (lo : -9223372036854775807 ≤ n) (hi : n ≤ 9223372036854775807) (hb2 : b ≤ 9223372036854775807) :
    Calls Try.prog 102 #[.int .i64 n, .int .i64 b] w fun e w' => e = .returned (.int .i64 (cdiv n b)) ∧ w = w' := by
  have h1 := ediv_bd (-n) b hb (by omega) (by omega)
  go_enter Try.func102, Try.ntmps102
  go_wp2_with (go_at_call 101; refine (dd_any _ _ _ (by omega) (by omega) (by omega) (by omega)).mono ?_; rintro e w' ⟨rfl, rfl⟩)
  go_ret
  exact ⟨rfl, rfl⟩

set_option maxHeartbeats 400000 in
theorem ceil_any (n b : Int) (w : World) (hb : 1 ≤ b) (lo : -9223372036854775807 ≤ n) (hi : n ≤ 9223372036854775807) (hb2 : b ≤ 9223372036854775807) :
    Calls Try.prog 95 #[.int .i64 n, .int .i64 b] w fun e w' => e = .returned (.int .i64 (cdiv n b)) ∧ w = w' := by
  have h1 := ediv_bd (-n) b hb (by omega) (by omega)
  go_enter Try.func95, Try.ntmps95
  go_wp2_with (go_at_call 94; refine (floor_any _ _ _ (by omega) (by omega) (by omega) (by omega)).mono ?_; rintro e w' ⟨rfl, rfl⟩)
  go_ret
  exact ⟨rfl, rfl⟩

/-- lo ≤ n ≤ hi, as Go's functions 'within' and 'Within' answer it -/
def inB (n lo hi : Int) : Bool := decide (lo ≤ n ∧ n ≤ hi)

theorem within_any (n lo hi : Int) (w : World) :
    Calls Try.prog 123 #[.int .i64 n, .int .i64 lo, .int .i64 hi] w fun e w' => e = .returned (.bool (inB n lo hi)) ∧ w = w' := by
  by_cases h1 : lo ≤ n
  · by_cases h2 : n ≤ hi
    all_goals
      go_enter Try.func123, Try.ntmps123
      go_wp2
      go_ret
      exact ⟨by simp [inB, h1, h2], rfl⟩
  · go_enter Try.func123, Try.ntmps123
    go_wp2
    go_ret
    exact ⟨by simp [inB]; omega, rfl⟩

theorem bwithin_any (n lo hi : Int) (w : World) :
    Calls Try.prog 40 #[.int .i64 n, .int .i64 lo, .int .i64 hi] w fun e w' => e = .returned (.bool (inB n lo hi)) ∧ w = w' := by
  by_cases h1 : lo ≤ n
  · by_cases h2 : n ≤ hi
    all_goals
      go_enter Try.func40, Try.ntmps40
      go_wp2
      go_ret
      exact ⟨by simp [inB, h1, h2], rfl⟩
  · go_enter Try.func40, Try.ntmps40
    go_wp2
    go_ret
    exact ⟨by simp [inB]; omega, rfl⟩

/-- Go's 'unless': OK (0) where the condition holds, else the error -/
def unl (b : Bool) (e : Int) : Int := if b then 0 else e

theorem unless_any (b : Bool) (e0 : Int) (w : World) :
    Calls Try.prog 88 #[.bool b, .int .i64 e0] w fun e w' => e = .returned (.int .i64 (unl b e0)) ∧ w = w' := by
  cases b
  all_goals
    go_enter Try.func88, Try.ntmps88
    go_wp2
    go_ret
    exact ⟨by simp [unl], rfl⟩

theorem inPlate_any (z t : Int) (w : World) :
    Calls Try.prog 96 #[.int .i64 z, .int .i64 t] w fun e w' => e = .returned (.bool (inB z 1 (t - 1))) ∧ w = w' := by
  by_cases h1 : 0 < z
  · by_cases h2 : z < t
    all_goals
      go_enter Try.func96, Try.ntmps96
      go_wp2
      go_ret
      exact ⟨by simp [inB]; omega, rfl⟩
  · go_enter Try.func96, Try.ntmps96
    go_wp2
    go_ret
    exact ⟨by simp [inB]; omega, rfl⟩

theorem rangeError_any (v lo hi : Int) (w : World) :
    Calls Try.prog 90 #[.int .i64 v, .int .i64 lo, .int .i64 hi] w fun e w' => e = .returned (.int .i64 (unl (inB v lo hi) 2)) ∧ w = w' := by
  go_enter Try.func90, Try.ntmps90
  go_wp2_with (first | (go_at_call 123; refine (within_any _ _ _ _).mono ?_; rintro e w' ⟨rfl, rfl⟩) | (go_at_call 88; refine (unless_any _ _ _).mono ?_; rintro e w' ⟨rfl, rfl⟩))
  go_ret
  exact ⟨rfl, rfl⟩

theorem speedError_any (v : Int) (w : World) :
    Calls Try.prog 80 #[.int .i64 v] w fun e w' => e = .returned (.int .i64 (unl (inB v 500 10000) 2)) ∧ w = w' := by
  go_enter Try.func80, Try.ntmps80
  go_wp2_with (go_at_call 90; refine (rangeError_any _ _ _ _).mono ?_; rintro e w' ⟨rfl, rfl⟩)
  go_ret
  exact ⟨rfl, rfl⟩

theorem thickError_any (v : Int) (w : World) :
    Calls Try.prog 98 #[.int .i64 v] w fun e w' => e = .returned (.int .i64 (unl (inB v 2 20000) 2)) ∧ w = w' := by
  go_enter Try.func98, Try.ntmps98
  go_wp2_with (go_at_call 90; refine (rangeError_any _ _ _ _).mono ?_; rintro e w' ⟨rfl, rfl⟩)
  go_ret
  exact ⟨rfl, rfl⟩

theorem refSpeed_any (v : Int) (w : World) :
    Calls Try.prog 24 #[.int .i64 v] w fun e w' => e = .returned (.int .i64 (unl (inB v 500 10000) 2)) ∧ w = w' := by
  cases h : inB v 500 10000
  all_goals
    go_enter Try.func24, Try.ntmps24
    go_wp2_with (go_at_call 40; refine (bwithin_any _ _ _ _).mono ?_; rintro e w' ⟨rfl, rfl⟩)
    go_ret
    exact ⟨by simp [unl], rfl⟩

/-- the sign of a number -/
def sgn (n : Int) : Int := if 0 < n then 1 else if n < 0 then -1 else 0

theorem sign_any (n : Int) (w : World) :
    Calls Try.prog 91 #[.int .i64 n] w fun e w' => e = .returned (.int .i64 (sgn n)) ∧ w = w' := by
  by_cases h1 : 0 < n
  · go_enter Try.func91, Try.ntmps91
    go_wp2
    go_ret
    exact ⟨ri (by unfold sgn; split <;> (try split) <;> omega), rfl⟩
  · by_cases h2 : n < 0
    all_goals
      go_enter Try.func91, Try.ntmps91
      go_wp2
      go_ret
      exact ⟨ri (by unfold sgn; split <;> (try split) <;> omega), rfl⟩

/-- Go's 'size' of a number: its wrap at the least one stays -/
def siz (n : Int) : Int := if n < 0 then wrap64 (-n) else n

theorem size_any (n : Int) (w : World) :
    Calls Try.prog 115 #[.int .i64 n] w fun e w' => e = .returned (.int .i64 (siz n)) ∧ w = w' := by
  by_cases h : n < 0
  all_goals
    go_enter Try.func115, Try.ntmps115
    go_wp2
    go_ret
    exact ⟨ri (by unfold siz; split <;> first | rfl | omega), rfl⟩

theorem bcell {W w1 : World} (hb : Below W.heap.size W w1) : (∀ b o, b < W.heap.size → w1.cell? ⟨b, o, none⟩ = W.cell? ⟨b, o, none⟩) ∧ (∀ b o, b < W.heap.size → w1.frozen? ⟨b, o, none⟩ = W.frozen? ⟨b, o, none⟩) :=
  ⟨fun b o h => hb.cell (p := ⟨b, o, none⟩) h, fun b o h => hb.frozen (p := ⟨b, o, none⟩) h⟩

@[simp, go_sem] theorem lt_a1 (n : Nat) : (n < n + 1) = True := by simp
@[simp, go_sem] theorem lt_a2 (n : Nat) : (n < n + 1 + 1) = True := by simp only [eq_iff_iff, iff_true]; omega
@[simp, go_sem] theorem lt_a3 (n : Nat) : (n < n + 1 + 1 + 1) = True := by simp only [eq_iff_iff, iff_true]; omega
@[simp, go_sem] theorem lt_a4 (n : Nat) : (n < n + 1 + 1 + 1 + 1) = True := by simp only [eq_iff_iff, iff_true]; omega
@[simp, go_sem] theorem lt_s {n m : Nat} (h : n < m) : (n < m + 1) = True := by simp only [eq_iff_iff, iff_true]; omega
@[go_sem] theorem ne_a {n m : Nat} (h : n < m) : (n = m) = False := by simp only [eq_iff_iff, iff_false]; omega
@[go_sem] theorem ne_b {n m : Nat} (h : n < m) : (m = n) = False := by simp only [eq_iff_iff, iff_false]; omega
theorem size_drewN (w : World) (n : Nat) : (w.drewN n).heap.size = w.heap.size := rfl
theorem bcell3 {W w1 : World} (hb : Below W.heap.size W w1) : (∀ b o, b < W.heap.size → w1.cell? ⟨b, o, none⟩ = W.cell? ⟨b, o, none⟩) ∧ (∀ b o, b < W.heap.size → w1.frozen? ⟨b, o, none⟩ = W.frozen? ⟨b, o, none⟩) ∧ (∀ n, n < W.heap.size → n < w1.heap.size) ∧ (∀ n, n < W.heap.size → ¬ n = w1.heap.size) ∧ (∀ n, n < W.heap.size → ¬ w1.heap.size = n) :=
  ⟨(bcell hb).1, (bcell hb).2, fun _ h => Nat.lt_of_lt_of_le h hb.size, fun _ h => by have := hb.size; omega, fun _ h => by have := hb.size; omega⟩
theorem bel_cell {a b : World} (h : Below a.heap.size a b) (blk o : Nat) (v : Value) (hb : blk < a.heap.size) (hc : a.cell? ⟨blk, o, none⟩ = some v) : b.cell? ⟨blk, o, none⟩ = some v := (h.cell (p := ⟨blk, o, none⟩) hb).trans hc
theorem bel_fz {a b : World} (h : Below a.heap.size a b) (blk o : Nat) (hb : blk < a.heap.size) (hc : a.frozen? ⟨blk, o, none⟩ = false) : b.frozen? ⟨blk, o, none⟩ = false := (h.frozen (p := ⟨blk, o, none⟩) hb).trans hc
theorem cell_fresh (X : World) (n o : Nat) (vs : Array Value) (t : TypeId) (v : Value) (hn : X.heap.size = n) (h : vs[o]? = some v) : (X.alloc (.cells vs t)).cell? ⟨n, o, none⟩ = some v := by
  subst hn; rw [World.cell?_alloc_new]; exact h
theorem below_step {B : Nat} {w a b : World} (h : Below a.heap.size a b) (h1 : Below B w a) (hB : B ≤ a.heap.size) : Below B w b := h1.trans (h.mono hB)

/-- the error of a place -/
def spE (x z : Int) : Int := unl (inB x (-100000) 100000 && inB z (-100000) 100000) 2

set_option maxHeartbeats 400000 in
theorem refSpot_any (x z : Int) (w : World) :
    Calls Try.prog 22 #[.agg #[.int .i64 x, .int .i64 z]] w fun e w' => e = .returned (.int .i64 (spE x z)) ∧ Below w.heap.size w w' := by
  cases h1 : inB x (-100000) 100000
  all_goals
    cases h2 : inB z (-100000) 100000
    all_goals
      go_enter Try.func22, Try.ntmps22
      go_wp2_with (go_at_call 40; refine (bwithin_any _ _ _ _).mono ?_; rintro e w' ⟨rfl, rfl⟩)
      go_ret
      exact ⟨by simp [spE, h1, h2, unl], by go_grown⟩
end Go.Proofs.Ytpphnnbijmoodaa
