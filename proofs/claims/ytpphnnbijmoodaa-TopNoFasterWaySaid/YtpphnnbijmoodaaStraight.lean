/-
  ONE SPEED: the least time meets the time of the straight way.
-/
import Derived.Test.YtpphnnbijmoodaaMink
import Derived.Test.YtpphnnbijmoodaaRayLeastT
set_option linter.unusedVariables false
set_option linter.unusedSimpArgs false
namespace Go.Proofs.Ytpphnnbijmoodaa
open Go.RowKit

theorem half_of {z s : Int} (hs : 1 ≤ s) (g : z * (2000 * s) ≤ 1000000 * (s * s)) : z ≤ 1000 * s := by
  have g6 : (z * 2) * (1000 * s) ≤ (1000 * s) * (1000 * s) := by
    have e : (z * 2) * (1000 * s) = z * (2000 * s) := by grind
    have e' : (1000 * s) * (1000 * s) = 1000000 * (s * s) := by grind
    omega
  have := Int.le_of_mul_le_mul_right g6 (by omega)
  omega
/-- how much longer the way through a place of the plane is than the straight one, in thousandths -/
theorem detour {a b h1 h2 p q m : Int} (hh1 : 1 ≤ h1) (hh2 : 1 ≤ h2) (hp : 0 ≤ p) (hq : 0 ≤ q) (hm : 0 ≤ m) (hab : 0 ≤ a * b) (e1 : a * h2 - b * h1 ≤ h1 + h2) (e2 : -(h1 + h2) ≤ a * h2 - b * h1)
    (p2 : p * p ≤ 1000000 * (a * a + h1 * h1)) (q2 : q * q ≤ 1000000 * (b * b + h2 * h2)) (m2 : 1000000 * ((a + b) * (a + b) + (h1 + h2) * (h1 + h2)) ≤ m * m) :
    (p + q - m) * (h1 * h2) ≤ 1000 * (h1 + h2) := by
  have hH : 1 * 1 ≤ h1 * h2 := mulle hh1 hh2 (by omega) (by omega)
  rcases Int.lt_or_le m (p + q) with k | k
  · obtain ⟨c, hc⟩ : ∃ c, c = a * b + h1 * h2 := ⟨_, rfl⟩
    obtain ⟨E, hE⟩ : ∃ E, E = a * h2 - b * h1 := ⟨_, rfl⟩
    rw [← hE] at e1 e2
    have pq0 : 0 ≤ p * q := Int.mul_nonneg hp hq
    have s1 : (p + q - m) * (p + q + m) = p * p + q * q + 2 * (p * q) - m * m := by grind
    have s2 : 1000000 * (a * a + h1 * h1) + 1000000 * (b * b + h2 * h2) - 1000000 * ((a + b) * (a + b) + (h1 + h2) * (h1 + h2)) = -(2000000 * c) := by rw [hc]; grind
    have s3 : (p + q - m) * (p + q + m) ≤ 2 * (p * q - 1000000 * c) := by omega
    have d0 : 1 ≤ p + q - m := by omega
    have d1 : 1 * 1 ≤ (p + q - m) * (p + q + m) := mulle d0 (by omega) (by omega) (by omega)
    have w0 : 0 ≤ p * q - 1000000 * c := by omega
    have id1 : (a * a + h1 * h1) * (b * b + h2 * h2) = c * c + E * E := by rw [hc, hE]; grind
    have pp : (p * q) * (p * q) ≤ 1000000000000 * (c * c + E * E) := by
      have := mulle p2 q2 (sq_nonneg q) (by have := sq_nonneg a; have := sq_nonneg h1; omega)
      have e : (p * q) * (p * q) = p * p * (q * q) := by grind
      have e3 : 1000000 * (a * a + h1 * h1) * (1000000 * (b * b + h2 * h2)) = 1000000000000 * ((a * a + h1 * h1) * (b * b + h2 * h2)) := by grind
      rw [e, ← id1, ← e3]; exact this
    have c0 : h1 * h2 ≤ c := by omega
    have f1 : (p * q - 1000000 * c) * (p * q + 1000000 * c) ≤ 1000000000000 * (E * E) := by
      have e : (p * q - 1000000 * c) * (p * q + 1000000 * c) = (p * q) * (p * q) - 1000000000000 * (c * c) := by grind
      omega
    have f2 : (p * q - 1000000 * c) * (2000000 * (h1 * h2)) ≤ (p * q - 1000000 * c) * (p * q + 1000000 * c) := Int.mul_le_mul_of_nonneg_left (by omega) w0
    have EE : E * E ≤ (h1 + h2) * (h1 + h2) := sqle ⟨by omega, e1⟩
    have mS : 1000 * (h1 + h2) ≤ m := by
      refine le_of_sq hm ?_
      have e : 1000 * (h1 + h2) * (1000 * (h1 + h2)) = 1000000 * ((h1 + h2) * (h1 + h2)) := by grind
      have := sq_nonneg (a + b)
      omega
    have g1 : (p + q - m) * (p + q + m) * (h1 * h2) ≤ 2 * (p * q - 1000000 * c) * (h1 * h2) := Int.mul_le_mul_of_nonneg_right s3 (by omega)
    have g2 : 2 * (p * q - 1000000 * c) * (h1 * h2) * 1000000 = (p * q - 1000000 * c) * (2000000 * (h1 * h2)) := by grind
    have g3 : (p + q - m) * (h1 * h2) * (2000 * (h1 + h2)) ≤ (p + q - m) * (h1 * h2) * (p + q + m) := Int.mul_le_mul_of_nonneg_left (by omega) (Int.mul_nonneg (by omega) (by omega))
    have g4 : (p + q - m) * (p + q + m) * (h1 * h2) = (p + q - m) * (h1 * h2) * (p + q + m) := by grind
    have g5 : (p + q - m) * (h1 * h2) * (2000 * (h1 + h2)) ≤ 1000000 * ((h1 + h2) * (h1 + h2)) := by omega
    exact half_of (by omega) g5
  · have : (p + q - m) * (h1 * h2) ≤ 0 * (h1 * h2) := Int.mul_le_mul_of_nonneg_right (by omega) (by omega)
    omega
/-- which side of the straight crossing a place lies -/
theorem eps_le {x : Cr} {t : Int} (h : okC x) (ht : inC x t) (hV : x.V1 = x.V2) (hs : slp x t ≤ 0) : (t - x.X1) * x.H2 ≤ (x.X2 - t) * x.H1 := by
  unfold inC at ht
  have hv : 0 < x.V2 * x.V2 := Int.mul_pos (by have := h.2.2.2.2.2; omega) (by have := h.2.2.2.2.2; omega)
  have e : slpC x t = (x.V2 * x.V2) * (((t - x.X1) * x.H2) * ((t - x.X1) * x.H2) - ((x.X2 - t) * x.H1) * ((x.X2 - t) * x.H1)) := by unfold slpC; rw [hV]; grind
  have n1 : 0 ≤ x.H1 := by have := h.2.2.1; omega
  have n2 : 0 ≤ x.H2 := by have := h.2.2.2.1; omega
  rw [slp_le] at hs
  by_cases c : x.X2 < x.X1
  · rw [if_pos c, e] at hs
    have h1 : 0 ≤ ((t - x.X1) * x.H2) * ((t - x.X1) * x.H2) - ((x.X2 - t) * x.H1) * ((x.X2 - t) * x.H1) := by
      rcases Int.lt_or_le (((t - x.X1) * x.H2) * ((t - x.X1) * x.H2) - ((x.X2 - t) * x.H1) * ((x.X2 - t) * x.H1)) 0 with k | k
      · have := Int.mul_neg_of_pos_of_neg hv k; omega
      · exact k
    have a1 : 0 ≤ (x.X1 - t) * x.H2 := Int.mul_nonneg (by omega) n2
    have e1 : (t - x.X1) * x.H2 = -((x.X1 - t) * x.H2) := by grind
    have e2 : (x.X2 - t) * x.H1 = -((t - x.X2) * x.H1) := by grind
    rw [e1, e2, Int.neg_mul_neg, Int.neg_mul_neg] at h1
    have := le_of_sq (a := (t - x.X2) * x.H1) a1 (by omega)
    omega
  · rw [if_neg c, e] at hs
    have h1 : ((t - x.X1) * x.H2) * ((t - x.X1) * x.H2) - ((x.X2 - t) * x.H1) * ((x.X2 - t) * x.H1) ≤ 0 := by
      rcases Int.lt_or_le 0 (((t - x.X1) * x.H2) * ((t - x.X1) * x.H2) - ((x.X2 - t) * x.H1) * ((x.X2 - t) * x.H1)) with k | k
      · have := Int.mul_pos hv k; omega
      · exact k
    exact le_of_sq (Int.mul_nonneg (by omega) n1) (by omega)
theorem eps_gt {x : Cr} {t : Int} (h : okC x) (ht : inC x t) (hV : x.V1 = x.V2) (hs : 0 < slp x t) : (x.X2 - t) * x.H1 < (t - x.X1) * x.H2 := by
  unfold inC at ht
  have hv : 0 < x.V2 * x.V2 := Int.mul_pos (by have := h.2.2.2.2.2; omega) (by have := h.2.2.2.2.2; omega)
  have e : slpC x t = (x.V2 * x.V2) * (((t - x.X1) * x.H2) * ((t - x.X1) * x.H2) - ((x.X2 - t) * x.H1) * ((x.X2 - t) * x.H1)) := by unfold slpC; rw [hV]; grind
  have n1 : 0 ≤ x.H1 := by have := h.2.2.1; omega
  have n2 : 0 ≤ x.H2 := by have := h.2.2.2.1; omega
  have hs2 : ¬ slp x t ≤ 0 := by omega
  rw [slp_le] at hs2
  by_cases c : x.X2 < x.X1
  · rw [if_pos c, e] at hs2
    have h1 : ((t - x.X1) * x.H2) * ((t - x.X1) * x.H2) - ((x.X2 - t) * x.H1) * ((x.X2 - t) * x.H1) < 0 := by
      rcases Int.lt_or_le (((t - x.X1) * x.H2) * ((t - x.X1) * x.H2) - ((x.X2 - t) * x.H1) * ((x.X2 - t) * x.H1)) 0 with k | k
      · exact k
      · exact absurd (Int.mul_nonneg (by omega) k) hs2
    have a1 : 0 ≤ (t - x.X2) * x.H1 := Int.mul_nonneg (by omega) n1
    have e1 : (t - x.X1) * x.H2 = -((x.X1 - t) * x.H2) := by grind
    have e2 : (x.X2 - t) * x.H1 = -((t - x.X2) * x.H1) := by grind
    rw [e1, e2, Int.neg_mul_neg, Int.neg_mul_neg] at h1
    have := lt_of_sq (a := (x.X1 - t) * x.H2) a1 (by omega)
    omega
  · rw [if_neg c, e] at hs2
    have h1 : 0 < ((t - x.X1) * x.H2) * ((t - x.X1) * x.H2) - ((x.X2 - t) * x.H1) * ((x.X2 - t) * x.H1) := by
      rcases Int.lt_or_le 0 (((t - x.X1) * x.H2) * ((t - x.X1) * x.H2) - ((x.X2 - t) * x.H1) * ((x.X2 - t) * x.H1)) with k | k
      · exact k
      · have := Int.mul_nonneg (show (0 : Int) ≤ x.V2 * x.V2 by omega) (show 0 ≤ -(((t - x.X1) * x.H2) * ((t - x.X1) * x.H2) - ((x.X2 - t) * x.H1) * ((x.X2 - t) * x.H1)) by omega)
        rw [Int.mul_neg] at this
        omega
    exact lt_of_sq (Int.mul_nonneg (by omega) n2) (by omega)
theorem le_cdiv {n b : Int} (hb : 1 ≤ b) : n ≤ cdiv n b * b := by
  unfold cdiv
  have h : (-n) / b * b ≤ -n := Int.ediv_mul_le _ (by omega)
  rw [Int.neg_mul]
  omega
/-- from lengths to times -/
theorem times_of {A B M c1 c2 V p q m h1 h2 : Int} (hV : 1 ≤ V) (hh1 : 1 ≤ h1) (hh2 : 1 ≤ h2) (a : A * V ≤ 10000 * p) (b : B * V ≤ 10000 * q) (c : 10000 * m ≤ M * V)
    (d1 : 10000000 ≤ c1 * (V * h1)) (d2 : 10000000 ≤ c2 * (V * h2)) (h : (p + q - m) * (h1 * h2) ≤ 1000 * (h1 + h2)) : A + B - (c1 + c2) ≤ M := by
  rcases Int.lt_or_le M (A + B - (c1 + c2)) with k | k
  · exfalso
    have hH : 1 * 1 ≤ h1 * h2 := mulle hh1 hh2 (by omega) (by omega)
    have e1 : 10000000 * h2 ≤ c1 * (V * h1) * h2 := Int.mul_le_mul_of_nonneg_right d1 (by omega)
    have e2 : 10000000 * h1 ≤ c2 * (V * h2) * h1 := Int.mul_le_mul_of_nonneg_right d2 (by omega)
    have e3 : (A + B - M) * V * (h1 * h2) ≤ 10000 * (p + q - m) * (h1 * h2) := Int.mul_le_mul_of_nonneg_right (by rw [Int.sub_mul, Int.add_mul]; omega) (by omega)
    have e4 : 10000 * (p + q - m) * (h1 * h2) = 10000 * ((p + q - m) * (h1 * h2)) := by grind
    have e5 : (A + B - M - (c1 + c2)) * (V * (h1 * h2)) = (A + B - M) * V * (h1 * h2) - c1 * (V * h1) * h2 - c2 * (V * h2) * h1 := by grind
    have e6 : 1 * 1 ≤ V * (h1 * h2) := mulle hV (by omega) (by omega) (by omega)
    have e7 : 1 * 1 ≤ (A + B - M - (c1 + c2)) * (V * (h1 * h2)) := mulle (by omega) (by omega) (by omega) (by omega)
    omega
  · exact k
theorem same_sign {x : Cr} {t : Int} (ht : inC x t) : 0 ≤ (t - x.X1) * (x.X2 - t) := by
  unfold inC at ht
  rcases Int.lt_or_le x.X2 x.X1 with c | c
  · have : (t - x.X1) * (x.X2 - t) = (x.X1 - t) * (t - x.X2) := by grind
    rw [this]; exact Int.mul_nonneg (by omega) (by omega)
  · exact Int.mul_nonneg (by omega) (by omega)
/-- with one speed the least time and that of the straight way have a number in common -/
theorem one_speed {x : Cr} (h : okC x) (hV : x.V1 = x.V2) (hS : x.H1 + x.H2 ≤ 200000) :
    lsL x ≤ tup (lHi (x.X2 - x.X1) (x.H1 + x.H2)) x.V2 ∧ tdn (lLo (x.X2 - x.X1) (x.H1 + x.H2)) x.V2 ≤ lsH x := by
  have hp := plc_is h
  have hk := hp.1
  have bd := in_bd h hk
  obtain ⟨x1, x2, b1, b2, v1, v2⟩ := h
  have h : okC x := ⟨x1, x2, b1, b2, v1, v2⟩
  have eD : x.X2 - x.X1 = (plc x - x.X1) + (x.X2 - plc x) := by omega
  have bD : -200000 ≤ (plc x - x.X1) + (x.X2 - plc x) ∧ (plc x - x.X1) + (x.X2 - plc x) ≤ 200000 := by omega
  constructor
  · obtain ⟨s0, s1, -, -, -, -, -, -⟩ := len_spec bd.1 (show -200000 ≤ x.H1 ∧ x.H1 ≤ 200000 by omega)
    obtain ⟨r0, r1, -, -, -, -, -, -⟩ := len_spec bd.2 (show -200000 ≤ x.H2 ∧ x.H2 ≤ 200000 by omega)
    obtain ⟨t0, -, t2, t3, -, -, -, -⟩ := len_spec bD (show -200000 ≤ x.H1 + x.H2 ∧ x.H1 + x.H2 ≤ 200000 by omega)
    have ee := eps_le h hk hV hp.2.1
    have e2 : -(x.H1 + x.H2) ≤ (plc x - x.X1) * x.H2 - (x.X2 - plc x) * x.H1 := by
      rcases hp.2.2 with c | c
      · have n1 : 0 ≤ (plc x - x.X1) * x.H2 := Int.mul_nonneg (by omega) (by omega)
        have n2 : (x.X2 - plc x) * x.H1 ≤ 0 * x.H1 := Int.mul_le_mul_of_nonneg_right (by omega) (by omega)
        omega
      · by_cases c2 : plc x = max x.X1 x.X2
        · have n1 : 0 ≤ (plc x - x.X1) * x.H2 := Int.mul_nonneg (by omega) (by omega)
          have n2 : (x.X2 - plc x) * x.H1 ≤ 0 * x.H1 := Int.mul_le_mul_of_nonneg_right (by omega) (by omega)
          omega
        · have hn := plc_next h (by unfold inC at hk; omega)
          have g := eps_gt h hn hV c
          have f1 : (x.X2 - (plc x + 1)) * x.H1 = (x.X2 - plc x) * x.H1 - x.H1 := by grind
          have f2 : (plc x + 1 - x.X1) * x.H2 = (plc x - x.X1) * x.H2 + x.H2 := by grind
          omega
    have dt := detour (a := plc x - x.X1) (b := x.X2 - plc x) (h1 := x.H1) (h2 := x.H2) (p := lLo (plc x - x.X1) x.H1) (q := lLo (x.X2 - plc x) x.H2) (m := lHi ((plc x - x.X1) + (x.X2 - plc x)) (x.H1 + x.H2))
      b1.1 b2.1 s0 r0 (by omega) (same_sign hk) (by omega) e2 (by unfold sqm at s1; exact s1) (by unfold sqm at r1; exact r1) (by unfold sqm at t2; exact t2)
    have d1 := le_cdiv (n := 10000000) (b := x.V1 * x.H1) (vh_bd h).1.1
    have d2 := le_cdiv (n := 10000000) (b := x.V2 * x.H2) (vh_bd h).2.1
    have tt := times_of (A := tdn (lLo (plc x - x.X1) x.H1) x.V1) (B := tdn (lLo (x.X2 - plc x) x.H2) x.V2) (M := tup (lHi ((plc x - x.X1) + (x.X2 - plc x)) (x.H1 + x.H2)) x.V2) (c1 := cdiv 10000000 (x.V1 * x.H1)) (c2 := cdiv 10000000 (x.V2 * x.H2)) (V := x.V2) (by omega) b1.1 b2.1
      (by rw [hV]; exact tdn_le (by omega)) (tdn_le (by omega)) (le_tup (by omega)) (by rw [← hV]; exact d1) d2 dt
    rw [← eD] at tt
    have t00 : 0 ≤ tup (lHi (x.X2 - x.X1) (x.H1 + x.H2)) x.V2 := by
      rw [eD]
      exact (tup_bd (l := lHi ((plc x - x.X1) + (x.X2 - plc x)) (x.H1 + x.H2)) (by omega) (by have := len_spec bD (show -200000 ≤ x.H1 + x.H2 ∧ x.H1 + x.H2 ≤ 200000 by omega); omega) (by omega)).1
    have hL : pL x ≤ tL x (plc x) := by unfold pL; split <;> omega
    unfold lsL
    have hb : bnd x = cdiv 10000000 (x.V1 * x.H1) + cdiv 10000000 (x.V2 * x.H2) := rfl
    have ht : tL x (plc x) = tdn (lLo (plc x - x.X1) x.H1) x.V1 + tdn (lLo (x.X2 - plc x) x.H2) x.V2 := rfl
    omega
  · have hm : ∀ t, inC x t → tdn (lLo (x.X2 - x.X1) (x.H1 + x.H2)) x.V2 ≤ tH x t := by
      intro t ht
      have bt := in_bd h ht
      have eT : x.X2 - x.X1 = (t - x.X1) + (x.X2 - t) := by omega
      have bT : -200000 ≤ (t - x.X1) + (x.X2 - t) ∧ (t - x.X1) + (x.X2 - t) ≤ 200000 := by omega
      have l1 := tup_legs (v := x.V2) (by omega) bt.1 (show -200000 ≤ x.H1 ∧ x.H1 ≤ 200000 by omega) bt.2 (show -200000 ≤ x.H2 ∧ x.H2 ≤ 200000 by omega) bT (show -200000 ≤ x.H1 + x.H2 ∧ x.H1 + x.H2 ≤ 200000 by omega)
      have l2 := lH_le bT (show -200000 ≤ x.H1 + x.H2 ∧ x.H1 + x.H2 ≤ 200000 by omega)
      have l3 := tl_le (l1 := lLo ((t - x.X1) + (x.X2 - t)) (x.H1 + x.H2)) (l2 := 0) (u1 := lHi ((t - x.X1) + (x.X2 - t)) (x.H1 + x.H2)) (u2 := 0) (v1 := x.V2) (v2 := x.V2) (by omega) (by omega) (Int.add_le_add (Int.mul_le_mul_of_nonneg_left l2 (by omega)) (Int.le_refl _))
      have z1 : tdn 0 x.V2 = 0 := by unfold tdn; simp
      have z2 : tup 0 x.V2 = 0 := by unfold tup cdiv; simp
      unfold tH
      rw [hV, eT]
      omega
    unfold lsH
    split
    · rename_i c
      have a := hm _ hk
      have b := hm _ (plc_next h c)
      omega
    · exact hm _ hk
end Go.Proofs.Ytpphnnbijmoodaa
