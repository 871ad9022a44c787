/-
  A QUARTER OF A PERIOD: the sign of a float turned round; traces of the period four. (Plain, but for a rule or two.)
-/
import Derived.Test.YthgnemkfaiejbaaTAwake
set_option linter.unusedVariables false
set_option linter.unusedSimpArgs false
namespace Go.Proofs.Ythgnemkfaiejbaa
open Go.RowKit

theorem xor_top {r k : Nat} (h : r < 2 ^ k) : r ^^^ 2 ^ k = 2 ^ k + r := by
  apply Nat.eq_of_testBit_eq
  intro i
  rw [Nat.testBit_xor, Nat.testBit_two_pow]
  rcases Nat.lt_trichotomy i k with c | c | c
  · rw [Nat.testBit_two_pow_add_gt c, decide_eq_false (by omega)]; simp
  · subst c
    rw [Nat.testBit_two_pow_add_eq, decide_eq_true rfl]; simp
  · have p : 2 ^ (k + 1) ≤ 2 ^ i := Nat.pow_le_pow_right (by decide) c
    rw [Nat.pow_succ] at p
    rw [decide_eq_false (by omega), Nat.testBit_lt_two_pow (show r < 2 ^ i by omega), Nat.testBit_lt_two_pow (show 2 ^ k + r < 2 ^ i by omega)]; rfl
theorem neg_word (neg : Bool) {r : Nat} (h : r < Ieee.single.signWeight) : Op.negFloat .f32 (Ieee.single.word neg r) = Ieee.single.word (!neg) r := by
  have hs : Ieee.single.signWeight = 2 ^ 31 := rfl
  rw [hs] at h
  unfold Op.negFloat Ieee.Format.word
  rw [show FloatKind.f32.format.exponentBits + FloatKind.f32.format.fractionBits = 31 from rfl, hs]
  have e := xor_top h
  cases neg
  · simp only [Bool.false_eq_true, if_false, Bool.not_false, if_true]
    exact e
  · simp only [if_true, Bool.not_true, Bool.false_eq_true, if_false]
    rw [← e, Nat.xor_assoc, Nat.xor_self, Nat.xor_zero]
theorem neg_order {n : Int} (h : n.natAbs < 2 ^ 24) : FloatKind.f32.format.order (wd Ieee.single (-n)) (Op.negFloat .f32 (wd Ieee.single n)) = some .eq := by
  by_cases h0 : n = 0
  · subst h0
    decide +kernel
  · have hm : n.natAbs ≠ 0 := by omega
    have e : Op.negFloat .f32 (wd Ieee.single n) = wd Ieee.single (-n) := by
      unfold wd
      have a := nearest_scaled fine_single (decide (n < 0)) h hm 0
      have b := nearest_scaled fine_single (decide (-n < 0)) (m := (-n).natAbs) (by rw [show (-n).natAbs = n.natAbs by omega]; exact h) (by omega) 0
      rw [Nat.pow_zero, Nat.mul_one, show (-((0 : Nat) : Int)) = 0 from rfl] at a b
      have r := rung_bd fine_single h hm
      have i := Ieee.single.infRung_lt
      rw [a, b, neg_word _ (by omega), show (-n).natAbs = n.natAbs by omega]
      congr 1
      by_cases c : n < 0
      · rw [decide_eq_true c, decide_eq_false (by omega)]; rfl
      · rw [decide_eq_false c, decide_eq_true (by omega)]; rfl
    rw [e]
    have := order_wd fine_single (a := -n) (b := -n) (by rw [show (-n).natAbs = n.natAbs by omega]; exact h) (by rw [show (-n).natAbs = n.natAbs by omega]; exact h)
    rw [Int.compare_eq_eq.2 rfl] at this
    exact this
theorem same_order {n : Int} (h : n.natAbs < 2 ^ 24) : FloatKind.f32.format.order (wd Ieee.single n) (wd Ieee.single n) = some .eq := by
  have := order_wd fine_single h h
  rw [Int.compare_eq_eq.2 rfl] at this
  exact this
theorem unary_neg32 (b : Nat) : Op.unary .neg (.float .f32 b) = pure (.float .f32 (Op.negFloat .f32 b)) := rfl
/-- four samples again and again -/
def qt (a b : Int) (n : Nat) : Int := if n % 4 = 0 then a else if n % 4 = 1 then b else if n % 4 = 2 then -a else -b
theorem qt_two (a b : Int) (n : Nat) : qt a b (n + 2) = -qt a b n := by
  unfold qt
  have h : n % 4 = 0 ∨ n % 4 = 1 ∨ n % 4 = 2 ∨ n % 4 = 3 := by omega
  rcases h with h | h | h | h
  · rw [h, show (n + 2) % 4 = 2 by omega]; simp
  · rw [h, show (n + 2) % 4 = 3 by omega]; simp
  · rw [h, show (n + 2) % 4 = 0 by omega]; simp
  · rw [h, show (n + 2) % 4 = 1 by omega]; simp
theorem qt_bd {a b : Int} (ha : a.natAbs ≤ 2047) (hb : b.natAbs ≤ 2047) (n : Nat) : (qt a b n).natAbs ≤ 2047 := by
  unfold qt
  repeat' split
  all_goals omega
theorem anP_qt (a b : Int) (n : Nat) : anP (qt a b) n = 2 * qt a b n := by unfold anP; rw [qt_two]; omega
theorem anQ_qt (a b : Int) (n : Nat) : anQ (qt a b) n = 2 * qt a b (n + 1) := by unfold anQ; rw [show n + 3 = (n + 1) + 2 from rfl, qt_two]; omega
theorem anS_qt (a b : Int) (n : Nat) : anS (qt a b) n = 4 * (a * a + b * b) := by
  unfold anS
  rw [anP_qt, anQ_qt]
  unfold qt
  have h : n % 4 = 0 ∨ n % 4 = 1 ∨ n % 4 = 2 ∨ n % 4 = 3 := by omega
  rcases h with h | h | h | h
  · rw [h, show (n + 1) % 4 = 1 by omega]; simp; grind
  · rw [h, show (n + 1) % 4 = 2 by omega]; simp; grind
  · rw [h, show (n + 1) % 4 = 3 by omega]; simp; grind
  · rw [h, show (n + 1) % 4 = 0 by omega]; simp; grind
end Go.Proofs.Ythgnemkfaiejbaa
