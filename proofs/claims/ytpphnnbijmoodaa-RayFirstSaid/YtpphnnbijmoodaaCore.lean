/-
  THE LEAST TIME IS THE LEAST: plain: at no place the greatest time is less than the least time at the crossing of least time, or at the place behind it.
-/
import Derived.Test.YtpphnnbijmoodaaTimeAt
import Derived.Test.YtpphnnbijmoodaaLeast
set_option linter.unusedVariables false
set_option linter.unusedSimpArgs false
namespace Go.Proofs.Ytpphnnbijmoodaa

theorem tdn_le {l v : Int} (hv : 1 ≤ v) : tdn l v * v ≤ 10000 * l := by
  unfold tdn; exact Int.ediv_mul_le _ (by omega)
theorem le_tup {l v : Int} (hv : 1 ≤ v) : 10000 * l ≤ tup l v * v := by
  unfold tup cdiv
  have := Int.ediv_mul_le (-(10000 * l)) (b := v) (by omega)
  have e : -(-(10000 * l) / v) * v = -((-(10000 * l) / v) * v) := Int.neg_mul _ _
  omega
theorem tl_le {l1 l2 u1 u2 v1 v2 : Int} (hv1 : 1 ≤ v1) (hv2 : 1 ≤ v2) (h : v2 * l1 + v1 * l2 ≤ v2 * u1 + v1 * u2) : tdn l1 v1 + tdn l2 v2 ≤ tup u1 v1 + tup u2 v2 := by
  have a1 := tdn_le (l := l1) hv1
  have a2 := tdn_le (l := l2) hv2
  have a3 := le_tup (l := u1) hv1
  have a4 := le_tup (l := u2) hv2
  generalize tdn l1 v1 = p1 at *
  generalize tdn l2 v2 = p2 at *
  generalize tup u1 v1 = q1 at *
  generalize tup u2 v2 = q2 at *
  have b1 : v2 * (p1 * v1) ≤ v2 * (10000 * l1) := Int.mul_le_mul_of_nonneg_left a1 (by omega)
  have b2 : v1 * (p2 * v2) ≤ v1 * (10000 * l2) := Int.mul_le_mul_of_nonneg_left a2 (by omega)
  have b3 : v2 * (10000 * u1) ≤ v2 * (q1 * v1) := Int.mul_le_mul_of_nonneg_left a3 (by omega)
  have b4 : v1 * (10000 * u2) ≤ v1 * (q2 * v2) := Int.mul_le_mul_of_nonneg_left a4 (by omega)
  have b5 : (v1 * v2) * (p1 + p2) ≤ (v1 * v2) * (q1 + q2) := by grind
  exact Int.le_of_mul_le_mul_left b5 (Int.mul_pos (by omega) (by omega))

theorem sqm_is (a z : Int) : sqm a z = 1000 * a * (1000 * a) + 1000000 * (z * z) := by unfold sqm; grind

/-- the slope at u is not above 0: to the lesser side the time does not fall below -/
theorem core_dn {x : Cr} {u t : Int} (h : okC x) (hu : inC x u) (hs : slp x u ≤ 0) (ht : t ≤ u) (h1 : -200000 ≤ t - x.X1 ∧ t - x.X1 ≤ 200000) (h2 : -200000 ≤ x.X2 - t ∧ x.X2 - t ≤ 200000) : tL x u ≤ tH x t := by
  obtain ⟨a1, a2, a3, a4, a5, a6⟩ := h
  unfold inC at hu
  rw [slp_le] at hs
  obtain ⟨r0, r1, r2, r3, r4, r5, r6, r7⟩ := len_spec (x := u - x.X1) (z := x.H1) (by omega) (by omega)
  obtain ⟨s0, s1, s2, s3, s4, s5, s6, s7⟩ := len_spec (x := x.X2 - u) (z := x.H2) (by omega) (by omega)
  obtain ⟨m0, m1, m2, m3, m4, m5, m6, m7⟩ := len_spec (x := t - x.X1) (z := x.H1) h1 (by omega)
  obtain ⟨n0, n1, n2, n3, n4, n5, n6, n7⟩ := len_spec (x := x.X2 - t) (z := x.H2) h2 (by omega)
  have k1 : 1 * 1 ≤ x.H1 * x.H1 := sq_mono (by omega) (by omega)
  have k2 : 1 * 1 ≤ x.H2 * x.H2 := sq_mono (by omega) (by omega)
  unfold tL tH
  apply tl_le (by omega) (by omega)
  rw [sqm_is] at r1 s1 m2 n2
  unfold slpC at hs
  by_cases hx : x.X2 < x.X1
  · rw [if_pos hx] at hs
    have := tangent (V1 := x.V2) (V2 := x.V1) (A := 1000 * (u - x.X2)) (B := 1000 * (x.X1 - u)) (D := 1000 * (u - t)) (K1 := 1000000 * (x.H2 * x.H2)) (K2 := 1000000 * (x.H1 * x.H1)) (L1 := lLo (x.X2 - u) x.H2) (L2 := lLo (u - x.X1) x.H1) (U1 := lHi (x.X2 - t) x.H2) (U2 := lHi (t - x.X1) x.H1)
      (by omega) (by omega) (by omega) (by omega) (by omega) (by omega) (by omega) (by grind) s0 r0 (by omega) (by omega) (by grind) (by grind) (by grind) (by grind)
    omega
  · rw [if_neg hx] at hs
    exact tangent (V1 := x.V1) (V2 := x.V2) (A := 1000 * (u - x.X1)) (B := 1000 * (x.X2 - u)) (D := 1000 * (u - t)) (K1 := 1000000 * (x.H1 * x.H1)) (K2 := 1000000 * (x.H2 * x.H2)) (L1 := lLo (u - x.X1) x.H1) (L2 := lLo (x.X2 - u) x.H2) (U1 := lHi (t - x.X1) x.H1) (U2 := lHi (x.X2 - t) x.H2)
      (by omega) (by omega) (by omega) (by omega) (by omega) (by omega) (by omega) (by grind) r0 s0 (by omega) (by omega) (by grind) (by grind) (by grind) (by grind)

theorem slp_ge {x : Cr} {t : Int} : 0 ≤ slp x t ↔ if x.X2 < x.X1 then slpC x t ≤ 0 else 0 ≤ slpC x t := by
  unfold slp sgn
  split <;> (split <;> (try split)) <;> omega
/-- the slope at u is not below 0: to the greater side the time does not fall below -/
theorem core_up {x : Cr} {u t : Int} (h : okC x) (hu : inC x u) (hs : 0 ≤ slp x u) (ht : u ≤ t) (h1 : -200000 ≤ t - x.X1 ∧ t - x.X1 ≤ 200000) (h2 : -200000 ≤ x.X2 - t ∧ x.X2 - t ≤ 200000) : tL x u ≤ tH x t := by
  obtain ⟨a1, a2, a3, a4, a5, a6⟩ := h
  unfold inC at hu
  rw [slp_ge] at hs
  obtain ⟨r0, r1, r2, r3, r4, r5, r6, r7⟩ := len_spec (x := u - x.X1) (z := x.H1) (by omega) (by omega)
  obtain ⟨s0, s1, s2, s3, s4, s5, s6, s7⟩ := len_spec (x := x.X2 - u) (z := x.H2) (by omega) (by omega)
  obtain ⟨m0, m1, m2, m3, m4, m5, m6, m7⟩ := len_spec (x := t - x.X1) (z := x.H1) h1 (by omega)
  obtain ⟨n0, n1, n2, n3, n4, n5, n6, n7⟩ := len_spec (x := x.X2 - t) (z := x.H2) h2 (by omega)
  have k1 : 1 * 1 ≤ x.H1 * x.H1 := sq_mono (by omega) (by omega)
  have k2 : 1 * 1 ≤ x.H2 * x.H2 := sq_mono (by omega) (by omega)
  unfold tL tH
  apply tl_le (by omega) (by omega)
  rw [sqm_is] at r1 s1 m2 n2
  unfold slpC at hs
  by_cases hx : x.X2 < x.X1
  · rw [if_pos hx] at hs
    exact tangent (V1 := x.V1) (V2 := x.V2) (A := 1000 * (x.X1 - u)) (B := 1000 * (u - x.X2)) (D := 1000 * (t - u)) (K1 := 1000000 * (x.H1 * x.H1)) (K2 := 1000000 * (x.H2 * x.H2)) (L1 := lLo (u - x.X1) x.H1) (L2 := lLo (x.X2 - u) x.H2) (U1 := lHi (t - x.X1) x.H1) (U2 := lHi (x.X2 - t) x.H2)
      (by omega) (by omega) (by omega) (by omega) (by omega) (by omega) (by omega) (by grind) r0 s0 (by omega) (by omega) (by grind) (by grind) (by grind) (by grind)
  · rw [if_neg hx] at hs
    have := tangent (V1 := x.V2) (V2 := x.V1) (A := 1000 * (x.X2 - u)) (B := 1000 * (u - x.X1)) (D := 1000 * (t - u)) (K1 := 1000000 * (x.H2 * x.H2)) (K2 := 1000000 * (x.H1 * x.H1)) (L1 := lLo (x.X2 - u) x.H2) (L2 := lLo (u - x.X1) x.H1) (U1 := lHi (x.X2 - t) x.H2) (U2 := lHi (t - x.X1) x.H1)
      (by omega) (by omega) (by omega) (by omega) (by omega) (by omega) (by omega) (by grind) s0 r0 (by omega) (by omega) (by grind) (by grind) (by grind) (by grind)
    omega
theorem slp_greater (x : Cr) : 0 ≤ slp x (max x.X1 x.X2) := by
  rw [slp_ge]
  unfold slpC
  split
  · rename_i h
    rw [show max x.X1 x.X2 = x.X1 by omega, show x.X1 - x.X1 = 0 by omega]
    have : 0 ≤ (x.X2 - x.X1) * (x.X2 - x.X1) * (x.V1 * x.V1 * (0 * 0 + x.H1 * x.H1)) := Int.mul_nonneg (sq_nonneg _) (Int.mul_nonneg (sq_nonneg _) (by have := sq_nonneg x.H1; omega))
    omega
  · rename_i h
    rw [show max x.X1 x.X2 = x.X2 by omega, show x.X2 - x.X2 = 0 by omega]
    have : 0 ≤ (x.X2 - x.X1) * (x.X2 - x.X1) * (x.V2 * x.V2 * (0 * 0 + x.H2 * x.H2)) := Int.mul_nonneg (sq_nonneg _) (Int.mul_nonneg (sq_nonneg _) (by have := sq_nonneg x.H2; omega))
    omega
/-- at no place is sound faster than the least time without its bound, let alone with it -/
theorem pL_le {x : Cr} {t : Int} (h : okC x) (h1 : -200000 ≤ t - x.X1 ∧ t - x.X1 ≤ 200000) (h2 : -200000 ≤ x.X2 - t ∧ x.X2 - t ≤ 200000) : pL x ≤ tH x t := by
  obtain ⟨hi, hs, he⟩ := plc_is h
  have hi2 := hi
  unfold inC at hi2
  unfold pL
  rcases Int.lt_or_le (plc x) t with h3 | h3
  · split
    · rename_i hk
      have hp : 0 < slp x (plc x + 1) := by
        rcases he with he | he
        · omega
        · exact he
      have := core_up h (u := plc x + 1) (t := t) (by unfold inC; omega) (by omega) (by omega) h1 h2
      omega
    · rename_i hk
      have e : plc x = max x.X1 x.X2 := by omega
      exact core_up h hi (by rw [e]; exact slp_greater x) (by omega) h1 h2
  · have := core_dn h hi hs h3 h1 h2
    split <;> omega
theorem lsL_le {x : Cr} {t : Int} (h : okC x) (h1 : -200000 ≤ t - x.X1 ∧ t - x.X1 ≤ 200000) (h2 : -200000 ≤ x.X2 - t ∧ x.X2 - t ≤ 200000) : lsL x ≤ tH x t := by
  have a := pL_le h h1 h2
  have b := bnd_bd h
  have c : 0 ≤ tH x t := by
    obtain ⟨a1, a2, a3, a4, a5, a6⟩ := h
    obtain ⟨m0, m1, m2, m3, m4, m5, m6, m7⟩ := len_spec (x := t - x.X1) (z := x.H1) h1 (by omega)
    obtain ⟨n0, n1, n2, n3, n4, n5, n6, n7⟩ := len_spec (x := x.X2 - t) (z := x.H2) h2 (by omega)
    have p := tup_bd (l := lHi (t - x.X1) x.H1) (v := x.V1) (by omega) (by omega) (by omega)
    have q := tup_bd (l := lHi (x.X2 - t) x.H2) (v := x.V2) (by omega) (by omega) (by omega)
    unfold tH; omega
  unfold lsL
  omega
end Go.Proofs.Ytpphnnbijmoodaa
