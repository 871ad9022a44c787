/-
  BASE: scalars and errors of package base, and of the reference's base. (As in stage 1's texts, without package ray.)
-/
import Derived.Test.YthgnemkfaiejbaaProg
import Derived.WalkKit
import Derived.WalkSpells
import Derived.WalkLawsBesides
import Derived.Handy
import Derived.Lib.Hide
import Derived.Deep.RegionHeld3
import Derived.Lib.Hide
import Derived.StillTailTactics
set_option linter.unusedVariables false
set_option linter.unusedSimpArgs false
namespace Go.Proofs.Ythgnemkfaiejbaa
open Go.RowKit


/-- the floor of n / by, for by above 0, out of Go's quotient and remainder -/
theorem fl_neg (n b : Int) (hb : 1 ≤ b) (h : n.tmod b < 0) : n.tdiv b - 1 = n / b := by
  have hn : n < 0 := by
    rcases Int.lt_or_le n 0 with h1 | h1
    · exact h1
    · have := Int.tmod_nonneg b h1; omega
  have e1 := Int.mul_tdiv_add_tmod n b
  have e2 := Int.mul_ediv_add_emod n b
  have b1 := Int.emod_nonneg n (show b ≠ 0 by omega)
  have b2 := Int.emod_lt_of_pos n (show 0 < b by omega)
  have b3 : -b < n.tmod b := by
    have := Int.lt_tmod_of_pos n (show 0 < b by omega); omega
  have h3 : b * (n.tdiv b - 1 - n / b) = (n % b) - n.tmod b - b := by grind
  have h4 : n.tdiv b - 1 - n / b = 0 := by
    rcases Int.lt_trichotomy (n.tdiv b - 1 - n / b) 0 with h5 | h5 | h5
    · have : b * (n.tdiv b - 1 - n / b) ≤ b * (-1) := Int.mul_le_mul_of_nonneg_left (by omega) (by omega)
      omega
    · exact h5
    · have : b * 1 ≤ b * (n.tdiv b - 1 - n / b) := Int.mul_le_mul_of_nonneg_left (by omega) (by omega)
      omega
  omega

theorem fl_pos (n b : Int) (hb : 1 ≤ b) (h : ¬ n.tmod b < 0) : n.tdiv b = n / b := by
  have e1 := Int.mul_tdiv_add_tmod n b
  have e2 := Int.mul_ediv_add_emod n b
  have b1 := Int.emod_nonneg n (show b ≠ 0 by omega)
  have b2 := Int.emod_lt_of_pos n (show 0 < b by omega)
  have b3 : n.tmod b < b := Int.tmod_lt_of_pos n (show 0 < b by omega)
  have h3 : b * (n.tdiv b - n / b) = (n % b) - n.tmod b := by grind
  have h4 : n.tdiv b - n / b = 0 := by
    rcases Int.lt_trichotomy (n.tdiv b - n / b) 0 with h5 | h5 | h5
    · have : b * (n.tdiv b - n / b) ≤ b * (-1) := Int.mul_le_mul_of_nonneg_left (by omega) (by omega)
      omega
    · exact h5
    · have : b * 1 ≤ b * (n.tdiv b - n / b) := Int.mul_le_mul_of_nonneg_left (by omega) (by omega)
      omega
  omega

theorem ri {k : IntKind} {a b : Int} (h : a = b) : Ending.returned (.int k a) = .returned (.int k b) := by rw [h]

theorem tdiv_bd (n b : Int) (hb : 1 ≤ b) (lo : -9223372036854775807 ≤ n) (hi : n ≤ 9223372036854775807) : -9223372036854775807 ≤ n.tdiv b ∧ n.tdiv b ≤ 9223372036854775807 := by
  rcases Int.lt_or_le n 0 with h | h
  · have e : n.tdiv b = -((-n).tdiv b) := by rw [Int.neg_tdiv, Int.neg_neg]
    have := IntWalk.tdiv_le (-n) b (by omega) hb
    rw [e, Int.tdiv_eq_ediv_of_nonneg (by omega)]; omega
  · rw [Int.tdiv_eq_ediv_of_nonneg h]; have := IntWalk.tdiv_le n b h hb; omega

set_option maxHeartbeats 400000 in
theorem dd_any (n b : Int) (w : World) (hb : 1 ≤ b) (lo : -9223372036854775807 ≤ n) (hi : n ≤ 9223372036854775807) (hb2 : b ≤ 9223372036854775807) :
    Calls Try.prog 146 #[.int .i64 n, .int .i64 b] w fun e w' => e = .returned (.int .i64 (n / b)) ∧ w = w' := by
  have hb0 : ¬ b = 0 := by omega
  have h0 := tdiv_bd n b hb lo hi
  by_cases h : n.tmod b < 0
  · have e := fl_neg n b hb h
    have e0 : Hid (n.tdiv b - 1 = n / b) := e
    clear e
    go_enter Try.func146, Try.ntmps146
    go_wp2
    go_ret
    exact ⟨ri (e0.out), rfl⟩
  · have e := fl_pos n b hb h
    have e0 : Hid (n.tdiv b = n / b) := e
    clear e
    go_enter Try.func146, Try.ntmps146
    go_wp2
    go_ret
    exact ⟨ri (e0.out), rfl⟩

set_option maxHeartbeats 400000 in
theorem floor_any (n b : Int) (w : World) (hb : 1 ≤ b) (lo : -9223372036854775807 ≤ n) (hi : n ≤ 9223372036854775807) (hb2 : b ≤ 9223372036854775807) :
    Calls Try.prog 148 #[.int .i64 n, .int .i64 b] w fun e w' => e = .returned (.int .i64 (n / b)) ∧ w = w' := by
  have hb0 : ¬ b = 0 := by omega
  have h0 := tdiv_bd n b hb lo hi
  by_cases h : n.tmod b < 0
  · have e := fl_neg n b hb h
    have e0 : Hid (n.tdiv b - 1 = n / b) := e
    clear e
    go_enter Try.func148, Try.ntmps148
    go_wp2
    go_ret
    exact ⟨ri (e0.out), rfl⟩
  · have e := fl_pos n b hb h
    have e0 : Hid (n.tdiv b = n / b) := e
    clear e
    go_enter Try.func148, Try.ntmps148
    go_wp2
    go_ret
    exact ⟨ri (e0.out), rfl⟩

/-- n / b rounded up -/
def cdiv (n b : Int) : Int := -((-n) / b)

theorem ediv_bd (n b : Int) (hb : 1 ≤ b) (lo : -9223372036854775807 ≤ n) (hi : n ≤ 9223372036854775807) : -9223372036854775807 ≤ n / b ∧ n / b ≤ 9223372036854775807 := by
  rcases Int.lt_or_le n 0 with h | h
  · constructor
    · have : (-9223372036854775807) / b ≤ n / b := Int.ediv_le_ediv (by omega) lo
      have h2 : -9223372036854775807 ≤ (-9223372036854775807) / b := by
        rw [Int.le_ediv_iff_mul_le (by omega)]
        have : b * (9223372036854775807 : Int) ≥ 1 * 9223372036854775807 := Int.mul_le_mul_of_nonneg_right hb (by omega)
        grind
      omega
    · have : n / b < 0 := Int.ediv_neg_of_neg_of_pos h (by omega)
      omega
  · have := IntWalk.tdiv_le n b h hb; omega

set_option maxHeartbeats 400000 in
theorem du_any (n b : Int) (w : World) (hb : 1 ≤ b) (lo : -9223372036854775807 ≤ n) (hi : n ≤ 9223372036854775807) (hb2 : b ≤ 9223372036854775807) :
    Calls Try.prog 145 #[.int .i64 n, .int .i64 b] w fun e w' => e = .returned (.int .i64 (cdiv n b)) ∧ w = w' := by
  have h1 := ediv_bd (-n) b hb (by omega) (by omega)
  go_enter Try.func145, Try.ntmps145
  go_wp2_with (go_at_call 146; refine (dd_any _ _ _ (by omega) (by omega) (by omega) (by omega)).mono ?_; rintro e w' ⟨rfl, rfl⟩)
  go_ret
  exact ⟨rfl, rfl⟩

set_option maxHeartbeats 400000 in
theorem ceil_any (n b : Int) (w : World) (hb : 1 ≤ b) (lo : -9223372036854775807 ≤ n) (hi : n ≤ 9223372036854775807) (hb2 : b ≤ 9223372036854775807) :
    Calls Try.prog 147 #[.int .i64 n, .int .i64 b] w fun e w' => e = .returned (.int .i64 (cdiv n b)) ∧ w = w' := by
  have h1 := ediv_bd (-n) b hb (by omega) (by omega)
  go_enter Try.func147, Try.ntmps147
  go_wp2_with (go_at_call 148; refine (floor_any _ _ _ (by omega) (by omega) (by omega) (by omega)).mono ?_; rintro e w' ⟨rfl, rfl⟩)
  go_ret
  exact ⟨rfl, rfl⟩

/-- lo ≤ n ≤ hi, as Go's functions 'within' and 'Within' answer it -/
def inB (n lo hi : Int) : Bool := decide (lo ≤ n ∧ n ≤ hi)

theorem within_any (n lo hi : Int) (w : World) :
    Calls Try.prog 160 #[.int .i64 n, .int .i64 lo, .int .i64 hi] w fun e w' => e = .returned (.bool (inB n lo hi)) ∧ w = w' := by
  by_cases h1 : lo ≤ n
  · by_cases h2 : n ≤ hi
    all_goals
      go_enter Try.func160, Try.ntmps160
      go_wp2
      go_ret
      exact ⟨by simp [inB, h1, h2], rfl⟩
  · go_enter Try.func160, Try.ntmps160
    go_wp2
    go_ret
    exact ⟨by simp [inB]; omega, rfl⟩

theorem bwithin_any (n lo hi : Int) (w : World) :
    Calls Try.prog 42 #[.int .i64 n, .int .i64 lo, .int .i64 hi] w fun e w' => e = .returned (.bool (inB n lo hi)) ∧ w = w' := by
  by_cases h1 : lo ≤ n
  · by_cases h2 : n ≤ hi
    all_goals
      go_enter Try.func42, Try.ntmps42
      go_wp2
      go_ret
      exact ⟨by simp [inB, h1, h2], rfl⟩
  · go_enter Try.func42, Try.ntmps42
    go_wp2
    go_ret
    exact ⟨by simp [inB]; omega, rfl⟩

/-- Go's 'unless': OK (0) where the condition holds, else the error -/
def unl (b : Bool) (e : Int) : Int := if b then 0 else e

theorem unless_any (b : Bool) (e0 : Int) (w : World) :
    Calls Try.prog 123 #[.bool b, .int .i64 e0] w fun e w' => e = .returned (.int .i64 (unl b e0)) ∧ w = w' := by
  cases b
  all_goals
    go_enter Try.func123, Try.ntmps123
    go_wp2
    go_ret
    exact ⟨by simp [unl], rfl⟩

theorem rangeError_any (v lo hi : Int) (w : World) :
    Calls Try.prog 98 #[.int .i64 v, .int .i64 lo, .int .i64 hi] w fun e w' => e = .returned (.int .i64 (unl (inB v lo hi) 2)) ∧ w = w' := by
  go_enter Try.func98, Try.ntmps98
  go_wp2_with (first | (go_at_call 160; refine (within_any _ _ _ _).mono ?_; rintro e w' ⟨rfl, rfl⟩) | (go_at_call 123; refine (unless_any _ _ _).mono ?_; rintro e w' ⟨rfl, rfl⟩))
  go_ret
  exact ⟨rfl, rfl⟩

/-- Go's 'size' of a number: its wrap at the least one stays -/
def siz (n : Int) : Int := if n < 0 then wrap64 (-n) else n

theorem size_any (n : Int) (w : World) :
    Calls Try.prog 165 #[.int .i64 n] w fun e w' => e = .returned (.int .i64 (siz n)) ∧ w = w' := by
  by_cases h : n < 0
  all_goals
    go_enter Try.func165, Try.ntmps165
    go_wp2
    go_ret
    exact ⟨ri (by unfold siz; split <;> first | rfl | omega), rfl⟩

theorem bcell {W w1 : World} (hb : Below W.heap.size W w1) : (∀ b o, b < W.heap.size → w1.cell? ⟨b, o, none⟩ = W.cell? ⟨b, o, none⟩) ∧ (∀ b o, b < W.heap.size → w1.frozen? ⟨b, o, none⟩ = W.frozen? ⟨b, o, none⟩) :=
  ⟨fun b o h => hb.cell (p := ⟨b, o, none⟩) h, fun b o h => hb.frozen (p := ⟨b, o, none⟩) h⟩

@[simp, go_sem] theorem lt_a1 (n : Nat) : (n < n + 1) = True := by simp
@[simp, go_sem] theorem lt_a2 (n : Nat) : (n < n + 1 + 1) = True := by simp only [eq_iff_iff, iff_true]; omega
@[simp, go_sem] theorem lt_a3 (n : Nat) : (n < n + 1 + 1 + 1) = True := by simp only [eq_iff_iff, iff_true]; omega
@[simp, go_sem] theorem lt_a4 (n : Nat) : (n < n + 1 + 1 + 1 + 1) = True := by simp only [eq_iff_iff, iff_true]; omega
@[simp, go_sem] theorem lt_s {n m : Nat} (h : n < m) : (n < m + 1) = True := by simp only [eq_iff_iff, iff_true]; omega
@[go_sem] theorem ne_a {n m : Nat} (h : n < m) : (n = m) = False := by simp only [eq_iff_iff, iff_false]; omega
@[go_sem] theorem ne_b {n m : Nat} (h : n < m) : (m = n) = False := by simp only [eq_iff_iff, iff_false]; omega
theorem size_drewN (w : World) (n : Nat) : (w.drewN n).heap.size = w.heap.size := rfl
theorem bcell3 {W w1 : World} (hb : Below W.heap.size W w1) : (∀ b o, b < W.heap.size → w1.cell? ⟨b, o, none⟩ = W.cell? ⟨b, o, none⟩) ∧ (∀ b o, b < W.heap.size → w1.frozen? ⟨b, o, none⟩ = W.frozen? ⟨b, o, none⟩) ∧ (∀ n, n < W.heap.size → n < w1.heap.size) ∧ (∀ n, n < W.heap.size → ¬ n = w1.heap.size) ∧ (∀ n, n < W.heap.size → ¬ w1.heap.size = n) :=
  ⟨(bcell hb).1, (bcell hb).2, fun _ h => Nat.lt_of_lt_of_le h hb.size, fun _ h => by have := hb.size; omega, fun _ h => by have := hb.size; omega⟩
theorem bel_cell {a b : World} (h : Below a.heap.size a b) (blk o : Nat) (v : Value) (hb : blk < a.heap.size) (hc : a.cell? ⟨blk, o, none⟩ = some v) : b.cell? ⟨blk, o, none⟩ = some v := (h.cell (p := ⟨blk, o, none⟩) hb).trans hc
theorem bel_fz {a b : World} (h : Below a.heap.size a b) (blk o : Nat) (hb : blk < a.heap.size) (hc : a.frozen? ⟨blk, o, none⟩ = false) : b.frozen? ⟨blk, o, none⟩ = false := (h.frozen (p := ⟨blk, o, none⟩) hb).trans hc
theorem cell_fresh (X : World) (n o : Nat) (vs : Array Value) (t : TypeId) (v : Value) (hn : X.heap.size = n) (h : vs[o]? = some v) : (X.alloc (.cells vs t)).cell? ⟨n, o, none⟩ = some v := by
  subst hn; rw [World.cell?_alloc_new]; exact h
theorem below_step {B : Nat} {w a b : World} (h : Below a.heap.size a b) (h1 : Below B w a) (hB : B ≤ a.heap.size) : Below B w b := h1.trans (h.mono hB)


/-- the first number that is not 0, or 0 -/
def frst : List Int → Int
  | [] => 0
  | e :: l => if e = 0 then frst l else e
theorem frst_drop {l : List Int} {k : Nat} (h : k < l.length) : frst (l.drop k) = if l[k]?.getD 0 = 0 then frst (l.drop (k + 1)) else l[k]?.getD 0 := by
  rw [List.drop_eq_getElem_cons h, frst]; simp [h]

set_option maxHeartbeats 400000 in
theorem firstOf_any (es : List Int) (b n : Nat) (w : World) (hn : n = es.length) (hc : ∀ i, i < n → w.cell? ⟨b, i, none⟩ = some (.int .i64 (es[i]?.getD 0))) (hl : n ≤ 100) :
    Calls Try.prog 99 #[.slice (some ⟨b, 0, none⟩) n n] w fun e w' => e = .returned (.int .i64 (frst es)) ∧ w = w' := by
  have Hn := Lib.hid hn
  clear hn
  have Hc := Lib.hid hc
  clear hc
  go_enter Try.func99, Try.ntmps99
  go_wp2
  go_loop [7] (fun i => ∃ k : Nat, k ≤ n ∧ frst es = frst (es.drop k) ∧ i = .int .i64 k) (fun i => n - (intOf i).toNat)
  case atStart => exact ⟨0, Nat.zero_le _, by simp, rfl⟩
  case round =>
    obtain ⟨k, hk, hf, rfl⟩ := hrel
    have HF := Lib.hid hf
    clear hf
    by_cases hlt : k < n
    · have hcell := Hc.out k hlt
      have hd := frst_drop (l := es) (k := k) (by have := Hn.out; omega)
      by_cases h0 : es[k]?.getD 0 = 0
      · rw [if_pos h0] at hd
        have HD := Lib.hid hd
        clear hd
        rw [h0] at hcell
        clear h0
        go_wp2
        go_round
        case rel => exact ⟨k + 1, by omega, by rw [HF.out, HD.out], by go_num⟩
        case measure => simp [intOf]; omega
      · rw [if_neg h0] at hd
        have HD := Lib.hid hd
        clear hd
        go_wp2
        go_ret
        exact ⟨ri (by rw [HF.out, HD.out]), rfl⟩
    · have hd : frst (es.drop k) = 0 := by rw [List.drop_eq_nil_of_le (by have := Hn.out; omega)]; rfl
      have HD := Lib.hid hd
      clear hd
      go_wp2
      go_ret
      exact ⟨ri (by rw [HF.out, HD.out]), rfl⟩

theorem cells2 {w : World} {b : Nat} {e0 e1 : Int} (h0 : w.cell? ⟨b, 0, none⟩ = some (.int .i64 e0)) (h1 : w.cell? ⟨b, 1, none⟩ = some (.int .i64 e1)) :
    ∀ i, i < 2 → w.cell? ⟨b, i, none⟩ = some (.int .i64 ([e0, e1][i]?.getD 0)) := by
  intro i hi
  match i, hi with
  | 0, _ => exact h0
  | 1, _ => exact h1
theorem cells3 {w : World} {b : Nat} {e0 e1 e2 : Int} (h0 : w.cell? ⟨b, 0, none⟩ = some (.int .i64 e0)) (h1 : w.cell? ⟨b, 1, none⟩ = some (.int .i64 e1)) (h2 : w.cell? ⟨b, 2, none⟩ = some (.int .i64 e2)) :
    ∀ i, i < 3 → w.cell? ⟨b, i, none⟩ = some (.int .i64 ([e0, e1, e2][i]?.getD 0)) := by
  intro i hi
  match i, hi with
  | 0, _ => exact h0
  | 1, _ => exact h1
  | 2, _ => exact h2
theorem cells4 {w : World} {b : Nat} {e0 e1 e2 e3 : Int} (h0 : w.cell? ⟨b, 0, none⟩ = some (.int .i64 e0)) (h1 : w.cell? ⟨b, 1, none⟩ = some (.int .i64 e1)) (h2 : w.cell? ⟨b, 2, none⟩ = some (.int .i64 e2)) (h3 : w.cell? ⟨b, 3, none⟩ = some (.int .i64 e3)) :
    ∀ i, i < 4 → w.cell? ⟨b, i, none⟩ = some (.int .i64 ([e0, e1, e2, e3][i]?.getD 0)) := by
  intro i hi
  match i, hi with
  | 0, _ => exact h0
  | 1, _ => exact h1
  | 2, _ => exact h2
  | 3, _ => exact h3

theorem first2 (e0 e1 : Int) (b : Nat) (w : World) (h0 : w.cell? ⟨b, 0, none⟩ = some (.int .i64 e0)) (h1 : w.cell? ⟨b, 1, none⟩ = some (.int .i64 e1)) :
    Calls Try.prog 99 #[.slice (some ⟨b, 0, none⟩) 2 2] w fun e w' => e = .returned (.int .i64 (frst [e0, e1])) ∧ w = w' :=
  firstOf_any [e0, e1] b 2 w rfl (cells2 h0 h1) (by omega)
theorem first3 (e0 e1 e2 : Int) (b : Nat) (w : World) (h0 : w.cell? ⟨b, 0, none⟩ = some (.int .i64 e0)) (h1 : w.cell? ⟨b, 1, none⟩ = some (.int .i64 e1)) (h2 : w.cell? ⟨b, 2, none⟩ = some (.int .i64 e2)) :
    Calls Try.prog 99 #[.slice (some ⟨b, 0, none⟩) 3 3] w fun e w' => e = .returned (.int .i64 (frst [e0, e1, e2])) ∧ w = w' :=
  firstOf_any [e0, e1, e2] b 3 w rfl (cells3 h0 h1 h2) (by omega)
theorem first4 (e0 e1 e2 e3 : Int) (b : Nat) (w : World) (h0 : w.cell? ⟨b, 0, none⟩ = some (.int .i64 e0)) (h1 : w.cell? ⟨b, 1, none⟩ = some (.int .i64 e1)) (h2 : w.cell? ⟨b, 2, none⟩ = some (.int .i64 e2)) (h3 : w.cell? ⟨b, 3, none⟩ = some (.int .i64 e3)) :
    Calls Try.prog 99 #[.slice (some ⟨b, 0, none⟩) 4 4] w fun e w' => e = .returned (.int .i64 (frst [e0, e1, e2, e3])) ∧ w = w' :=
  firstOf_any [e0, e1, e2, e3] b 4 w rfl (cells4 h0 h1 h2 h3) (by omega)

theorem cellsN {w : World} {b n : Nat} {es : List Int} (hn : n = es.length) (h : ∀ i : Fin es.length, w.cell? ⟨b, i.1, none⟩ = some (.int .i64 (es[i.1]))) :
    ∀ i, i < n → w.cell? ⟨b, i, none⟩ = some (.int .i64 (es[i]?.getD 0)) := by
  intro i hi
  subst hn
  rw [List.getElem?_eq_getElem hi]
  exact h ⟨i, hi⟩
theorem first6 (e0 e1 e2 e3 e4 e5 : Int) (b : Nat) (w : World) (h0 : w.cell? ⟨b, 0, none⟩ = some (.int .i64 e0)) (h1 : w.cell? ⟨b, 1, none⟩ = some (.int .i64 e1)) (h2 : w.cell? ⟨b, 2, none⟩ = some (.int .i64 e2)) (h3 : w.cell? ⟨b, 3, none⟩ = some (.int .i64 e3)) (h4 : w.cell? ⟨b, 4, none⟩ = some (.int .i64 e4)) (h5 : w.cell? ⟨b, 5, none⟩ = some (.int .i64 e5)) :
    Calls Try.prog 99 #[.slice (some ⟨b, 0, none⟩) 6 6] w fun e w' => e = .returned (.int .i64 (frst [e0, e1, e2, e3, e4, e5])) ∧ w = w' :=
  firstOf_any [e0, e1, e2, e3, e4, e5] b 6 w rfl (by
    intro i hi
    match i, hi with
    | 0, _ => exact h0
    | 1, _ => exact h1
    | 2, _ => exact h2
    | 3, _ => exact h3
    | 4, _ => exact h4
    | 5, _ => exact h5) (by omega)
theorem still_of {f : Nat} {args : Array Value} {w : World} {v : Value} (h : Calls Try.prog f args w fun e w' => e = .returned v ∧ w = w') : Calls Try.prog f args w fun e w' => e = .returned v ∧ w' = w :=
  h.mono fun _ _ h => ⟨h.1, h.2.symm⟩
end Go.Proofs.Ythgnemkfaiejbaa
