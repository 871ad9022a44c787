/-
  THE LEGS OF A WAY ADDED UP: lengths and times, rounded up, of legs are not less than those of the straight way.
-/
import Derived.Test.YtpphnnbijmoodaaCore
set_option linter.unusedVariables false
set_option linter.unusedSimpArgs false
namespace Go.Proofs.Ytpphnnbijmoodaa
open Go.RowKit

theorem cauchy {a b c d p q : Int} (hp : 0 ≤ p) (hq : 0 ≤ q) (h1 : a * a + b * b ≤ p * p) (h2 : c * c + d * d ≤ q * q) : a * c + b * d ≤ p * q := by
  have hpq : 0 ≤ p * q := Int.mul_nonneg hp hq
  refine le_of_sq hpq ?_
  have e : (a * c + b * d) * (a * c + b * d) + (a * d - b * c) * (a * d - b * c) = (a * a + b * b) * (c * c + d * d) := by grind
  have s := sq_nonneg (a * d - b * c)
  have c0 : 0 ≤ c * c + d * d := by have := sq_nonneg c; have := sq_nonneg d; omega
  have m : (a * a + b * b) * (c * c + d * d) ≤ (p * p) * (q * q) := mulle h1 h2 c0 (sq_nonneg p)
  have e2 : (p * p) * (q * q) = p * q * (p * q) := by grind
  omega
theorem mink2 {a b c d p q : Int} (hp : 0 ≤ p) (hq : 0 ≤ q) (h1 : a * a + b * b ≤ p * p) (h2 : c * c + d * d ≤ q * q) : (a + c) * (a + c) + (b + d) * (b + d) ≤ (p + q) * (p + q) := by
  have h := cauchy hp hq h1 h2
  have e1 : (a + c) * (a + c) + (b + d) * (b + d) = (a * a + b * b) + (c * c + d * d) + 2 * (a * c + b * d) := by grind
  have e2 : (p + q) * (p + q) = p * p + q * q + 2 * (p * q) := by grind
  omega
theorem lHi_le {x z m : Int} (hx : -200000 ≤ x ∧ x ≤ 200000) (hz : -200000 ≤ z ∧ z ≤ 200000) (hm : 0 ≤ m) (h : sqm x z ≤ m * m) : lHi x z ≤ m := by
  obtain ⟨a, b, c, d, e, f, g, i⟩ := len_spec hx hz
  rcases Int.lt_or_le m (lHi x z) with k | k
  · exfalso
    by_cases hl : lHi x z = lLo x z
    · have k2 : m + 1 ≤ lLo x z := by omega
      have := sq_mono (a := m + 1) (b := lLo x z) (by omega) k2
      have e3 : (m + 1) * (m + 1) = m * m + 2 * m + 1 := by grind
      omega
    · have k2 : m ≤ lLo x z := by omega
      have h3 := sq_mono hm k2
      have h4 : lLo x z * lLo x z = sqm x z := by omega
      have h5 : lHi x z = lLo x z := by
        unfold lHi sqU
        unfold lLo at h4 ⊢
        rw [if_neg (by omega)]
      exact hl h5
  · exact k
theorem sqm_sq (x z : Int) : sqm x z = (1000 * x) * (1000 * x) + (1000 * z) * (1000 * z) := by unfold sqm; grind
/-- two legs are not shorter than the straight way, all rounded up -/
theorem lHi_add {a b c d : Int} (ha : -200000 ≤ a ∧ a ≤ 200000) (hb : -200000 ≤ b ∧ b ≤ 200000) (hc : -200000 ≤ c ∧ c ≤ 200000) (hd : -200000 ≤ d ∧ d ≤ 200000)
    (hac : -200000 ≤ a + c ∧ a + c ≤ 200000) (hbd : -200000 ≤ b + d ∧ b + d ≤ 200000) : lHi (a + c) (b + d) ≤ lHi a b + lHi c d := by
  obtain ⟨s0, -, s2, s3, -, -, -, -⟩ := len_spec ha hb
  obtain ⟨r0, -, r2, r3, -, -, -, -⟩ := len_spec hc hd
  refine lHi_le hac hbd (by omega) ?_
  rw [sqm_sq] at s2 r2 ⊢
  have := mink2 (by omega) (by omega) s2 r2
  rw [show (1000 : Int) * (a + c) = 1000 * a + 1000 * c from Int.mul_add _ _ _, show (1000 : Int) * (b + d) = 1000 * b + 1000 * d from Int.mul_add _ _ _]
  exact this
theorem cdiv_add {n m b : Int} (hb : 1 ≤ b) : cdiv (n + m) b ≤ cdiv n b + cdiv m b := by
  unfold cdiv
  have h1 : (-n) / b * b ≤ -n := Int.ediv_mul_le _ (by omega)
  have h2 : (-m) / b * b ≤ -m := Int.ediv_mul_le _ (by omega)
  have h : (-n) / b + (-m) / b ≤ (-(n + m)) / b := by
    rw [Int.le_ediv_iff_mul_le (by omega), Int.add_mul]
    omega
  omega
theorem cdiv_mono {n m b : Int} (hb : 1 ≤ b) (h : n ≤ m) : cdiv n b ≤ cdiv m b := by
  unfold cdiv
  have : (-m) / b ≤ (-n) / b := Int.ediv_le_ediv (by omega) (by omega)
  omega
theorem tup_mono {l m v : Int} (hv : 1 ≤ v) (h : l ≤ m) : tup l v ≤ tup m v := cdiv_mono hv (by omega)
theorem tup_add {l m v : Int} (hv : 1 ≤ v) : tup (l + m) v ≤ tup l v + tup m v := by
  unfold tup
  rw [Int.mul_add]
  exact cdiv_add hv
/-- the time of the straight way is not more than that of two legs, all rounded up -/
theorem tup_legs {a b c d v : Int} (hv : 1 ≤ v) (ha : -200000 ≤ a ∧ a ≤ 200000) (hb : -200000 ≤ b ∧ b ≤ 200000) (hc : -200000 ≤ c ∧ c ≤ 200000) (hd : -200000 ≤ d ∧ d ≤ 200000)
    (hac : -200000 ≤ a + c ∧ a + c ≤ 200000) (hbd : -200000 ≤ b + d ∧ b + d ≤ 200000) : tup (lHi (a + c) (b + d)) v ≤ tup (lHi a b) v + tup (lHi c d) v :=
  Int.le_trans (tup_mono hv (lHi_add ha hb hc hd hac hbd)) (tup_add hv)
end Go.Proofs.Ytpphnnbijmoodaa
