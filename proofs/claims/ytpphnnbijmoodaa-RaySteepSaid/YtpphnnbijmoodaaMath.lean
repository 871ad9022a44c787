/-
  PLAIN MATHEMATICS, no Go in sight: whole roots, enclosures of lengths and times, and the tangent of a sum of two lengths, all over whole numbers.
-/
set_option linter.unusedVariables false
set_option linter.unusedSimpArgs false
namespace Go.Proofs.Ytpphnnbijmoodaa

theorem le_of_sq {a b : Int} (hb : 0 ≤ b) (h : a * a ≤ b * b) : a ≤ b := by
  rcases Int.lt_or_le b a with h1 | h1
  · have h2 : b * b < a * a := by
      have h3 : b * b ≤ b * a := Int.mul_le_mul_of_nonneg_left (by omega) hb
      have h4 : b * a < a * a := Int.mul_lt_mul_of_pos_right h1 (by omega)
      omega
    omega
  · exact h1
theorem lt_of_sq {a b : Int} (hb : 0 ≤ b) (h : a * a < b * b) : a < b := by
  rcases Int.lt_or_le a b with h1 | h1
  · exact h1
  · have h2 : b * b ≤ a * a := Int.mul_le_mul h1 h1 hb (by omega)
    omega
theorem sq_nonneg (a : Int) : 0 ≤ a * a := by
  rcases Int.le_total 0 a with h | h
  · exact Int.mul_nonneg h h
  · exact Int.mul_nonneg_of_nonpos_of_nonpos h h
theorem mulle {a b c d : Int} (h1 : a ≤ c) (h2 : b ≤ d) (h3 : 0 ≤ b) (h4 : 0 ≤ c) : a * b ≤ c * d := Int.mul_le_mul h1 h2 h3 h4
theorem sq_mono {a b : Int} (ha : 0 ≤ a) (h : a ≤ b) : a * a ≤ b * b := mulle h h ha (by omega)

/-- the root rounded down, by bits: 'f' bits of the root -/
def isqF : Nat → Nat → Nat
  | 0, _ => 0
  | f + 1, n => if (2 * isqF f (n / 4) + 1) * (2 * isqF f (n / 4) + 1) ≤ n then 2 * isqF f (n / 4) + 1 else 2 * isqF f (n / 4)
theorem isqF_spec (f : Nat) : ∀ n : Nat, n < 4 ^ f → isqF f n * isqF f n ≤ n ∧ n < (isqF f n + 1) * (isqF f n + 1) := by
  induction f with
  | zero => intro n h; simp at h; subst h; simp [isqF]
  | succ f ih =>
    intro n h
    obtain ⟨h1, h2⟩ := ih (n / 4) (by rw [Nat.pow_succ] at h; omega)
    unfold isqF
    generalize isqF f (n / 4) = r at *
    have e1 : (2 * r + 1) * (2 * r + 1) = 4 * (r * r) + 4 * r + 1 := by grind
    have e2 : 2 * r * (2 * r) = 4 * (r * r) := by grind
    have e3 : (2 * r + 1 + 1) * (2 * r + 1 + 1) = 4 * (r * r) + 8 * r + 4 := by grind
    have e4 : (r + 1) * (r + 1) = r * r + 2 * r + 1 := by grind
    split
    · rename_i hc; exact ⟨hc, by omega⟩
    · rename_i hc; exact ⟨by omega, by omega⟩

/-- the root of n, rounded down (n from 0 to below 2^62) -/
@[irreducible] def sq (n : Int) : Int := (isqF 31 n.toNat : Nat)
theorem sq_nn (n : Int) : 0 ≤ sq n := by unfold sq; omega
theorem sq_spec (n : Int) (h0 : 0 ≤ n) (h1 : n < 4611686018427387904) : sq n * sq n ≤ n ∧ n < (sq n + 1) * (sq n + 1) := by
  have := isqF_spec 31 n.toNat (by simp; omega)
  unfold sq
  generalize isqF 31 n.toNat = r at *
  have e1 : (r : Int) * r = ((r * r : Nat) : Int) := by simp
  have e2 : ((r : Int) + 1) * (r + 1) = (((r + 1) * (r + 1) : Nat) : Int) := by simp
  rw [e1, e2]; omega
theorem sq_uniq {n r : Int} (h0 : 0 ≤ r) (h1 : r * r ≤ n) (h2 : n < (r + 1) * (r + 1)) (hn : n < 4611686018427387904) : sq n = r := by
  have h3 : 0 ≤ n := by have := sq_nonneg r; omega
  obtain ⟨a, b⟩ := sq_spec n h3 hn
  have c := sq_nn n
  have d := lt_of_sq (a := sq n) (b := r + 1) (by omega) (by omega)
  have e := lt_of_sq (a := r) (b := sq n + 1) (by omega) (by omega)
  omega

/-- the root of n, rounded up -/
@[irreducible] def sqU (n : Int) : Int := if sq n * sq n < n then sq n + 1 else sq n

/-- every number from 0 on has a root rounded up -/
theorem root_up (n : Nat) : ∃ p : Nat, n ≤ p * p ∧ (p = 0 ∨ (p - 1) * (p - 1) < n) := by
  induction n with
  | zero => exact ⟨0, by simp, .inl rfl⟩
  | succ n ih =>
    obtain ⟨p, h1, h2⟩ := ih
    by_cases h : n + 1 ≤ p * p
    · exact ⟨p, h, by omega⟩
    · refine ⟨p + 1, ?_, ?_⟩
      · have : (p + 1) * (p + 1) = p * p + 2 * p + 1 := by grind
        omega
      · right; simp; omega
theorem root_upI (n : Int) (h : 1 ≤ n) : ∃ p : Int, 1 ≤ p ∧ n ≤ p * p ∧ (p - 1) * (p - 1) < n := by
  obtain ⟨p, h1, h2⟩ := root_up n.toNat
  have h3 : p ≠ 0 := by intro e; subst e; simp at h1; omega
  obtain ⟨q, rfl⟩ : ∃ q, p = q + 1 := ⟨p - 1, by omega⟩
  refine ⟨(q : Int) + 1, by omega, ?_, ?_⟩
  · have e2 : ((q : Int) + 1) * (q + 1) = (((q + 1) * (q + 1) : Nat) : Int) := by simp
    rw [e2]; omega
  · rcases h2 with h2 | h2
    · omega
    · have e1 : ((q : Int) + 1 - 1) * (q + 1 - 1) = ((q * q : Nat) : Int) := by simp
      rw [e1]; simp at h2; omega

/-- the square of a length, in thousandths -/
def sqm (x z : Int) : Int := 1000000 * (x * x + z * z)
/-- a length rounded down, and up -/
def lLo (x z : Int) : Int := sq (sqm x z)
def lHi (x z : Int) : Int := sqU (sqm x z)
theorem sqm_bd {x z : Int} (hx : -200000 ≤ x ∧ x ≤ 200000) (hz : -200000 ≤ z ∧ z ≤ 200000) : 0 ≤ x * x ∧ x * x ≤ 40000000000 ∧ 0 ≤ z * z ∧ z * z ≤ 40000000000 := by
  have h1 := sq_nonneg x
  have h2 := sq_nonneg z
  have h3 : x * x ≤ 200000 * 200000 := by
    rcases Int.le_total 0 x with h | h
    · exact sq_mono h hx.2
    · have := sq_mono (a := -x) (b := 200000) (by omega) (by omega)
      have e : -x * -x = x * x := by grind
      omega
  have h4 : z * z ≤ 200000 * 200000 := by
    rcases Int.le_total 0 z with h | h
    · exact sq_mono h hz.2
    · have := sq_mono (a := -z) (b := 200000) (by omega) (by omega)
      have e : -z * -z = z * z := by grind
      omega
  omega
/-- what the enclosure of a length is good for -/
theorem len_spec {x z : Int} (hx : -200000 ≤ x ∧ x ≤ 200000) (hz : -200000 ≤ z ∧ z ≤ 200000) :
    0 ≤ lLo x z ∧ lLo x z * lLo x z ≤ sqm x z ∧ sqm x z ≤ lHi x z * lHi x z ∧ lLo x z ≤ lHi x z ∧ lHi x z ≤ lLo x z + 1 ∧ lHi x z ≤ 300000000 ∧ 0 ≤ sqm x z ∧ sqm x z ≤ 80000000000000000 := by
  obtain ⟨a, b, c, d⟩ := sqm_bd hx hz
  have h0 : 0 ≤ sqm x z ∧ sqm x z ≤ 80000000000000000 := by unfold sqm; omega
  obtain ⟨e, f⟩ := sq_spec (sqm x z) h0.1 (by omega)
  have g := sq_nn (sqm x z)
  unfold lHi lLo sqU
  generalize sq (sqm x z) = r at *
  have k : r ≤ 290000000 := le_of_sq (by omega) (by omega)
  have e3 : (r + 1) * (r + 1) = r * r + 2 * r + 1 := by grind
  split
  · exact ⟨g, e, by omega, by omega, by omega, by omega, h0⟩
  · exact ⟨g, e, by omega, by omega, by omega, by omega, h0⟩
theorem sqm_neg (x z : Int) : sqm (-x) z = sqm x z := by unfold sqm; rw [Int.neg_mul_neg]
theorem lLo_neg (x z : Int) : lLo (-x) z = lLo x z := by unfold lLo; rw [sqm_neg]
theorem lHi_neg (x z : Int) : lHi (-x) z = lHi x z := by unfold lHi; rw [sqm_neg]
theorem lLo_neg2 (x z : Int) : lLo x (-z) = lLo x z := by unfold lLo sqm; rw [Int.neg_mul_neg]
theorem lHi_neg2 (x z : Int) : lHi x (-z) = lHi x z := by unfold lHi sqm; rw [Int.neg_mul_neg]

/-- THE TANGENT: two legs (A, K1) and (B, K2) whose slope V2 A / p - V1 B / q is at most 0 (said of squares): with A less by D and B more by D the sum V2 p + V1 q is not less. L1, L2 are at most the roots, U1, U2 at least. -/
theorem tangent {V1 V2 A B D K1 K2 L1 L2 U1 U2 : Int} (hV1 : 0 ≤ V1) (hV2 : 0 ≤ V2) (hA : 0 ≤ A) (hB : 0 ≤ B) (hD : 0 ≤ D) (hK1 : 1 ≤ K1) (hK2 : 1 ≤ K2)
    (hS : (V2 * A) * (V2 * A) * (B * B + K2) ≤ (V1 * B) * (V1 * B) * (A * A + K1))
    (hL1 : 0 ≤ L1) (hL2 : 0 ≤ L2) (hU1 : 0 ≤ U1) (hU2 : 0 ≤ U2)
    (h1 : L1 * L1 ≤ A * A + K1) (h2 : L2 * L2 ≤ B * B + K2) (h3 : (A - D) * (A - D) + K1 ≤ U1 * U1) (h4 : (B + D) * (B + D) + K2 ≤ U2 * U2) :
    V2 * L1 + V1 * L2 ≤ V2 * U1 + V1 * U2 := by
  rcases Int.lt_or_le (V2 * U1 + V1 * U2) (V2 * L1 + V1 * L2) with hlt | hle
  case inr => exact hle
  exfalso
  have hAA := sq_nonneg A
  have hBB := sq_nonneg B
  generalize hP : A * A + K1 = P at *
  generalize hQ : B * B + K2 = Q at *
  have c1 : 0 ≤ D * (V2 * A) := Int.mul_nonneg hD (Int.mul_nonneg hV2 hA)
  have c2 : 0 ≤ V2 * L1 := Int.mul_nonneg hV2 hL1
  have c3 : 0 ≤ V1 * L2 := Int.mul_nonneg hV1 hL2
  have hP1 : 1 ≤ P := by omega
  have hQ1 : 1 ≤ Q := by omega
  obtain ⟨N, hN⟩ : ∃ N, N = D * (V2 * A) + V2 * L1 + V1 * L2 + 1 := ⟨_, rfl⟩
  have hN1 : 1 ≤ N := by omega
  have hNN : 1 ≤ N * N := by have := sq_mono (a := 1) (b := N) (by omega) hN1; omega
  have hNP : N * N ≤ N * N * P := by have := Int.mul_le_mul_of_nonneg_left hP1 (show 0 ≤ N * N by omega); omega
  have hNQ : N * N ≤ N * N * Q := by have := Int.mul_le_mul_of_nonneg_left hQ1 (show 0 ≤ N * N by omega); omega
  obtain ⟨p, p1, p2, p3⟩ := root_upI (N * N * P) (by omega)
  obtain ⟨q, q1, q2, q3⟩ := root_upI (N * N * Q) (by omega)
  have pN : N ≤ p := le_of_sq (by omega) (by omega)
  have qN : N ≤ q := le_of_sq (by omega) (by omega)
  -- (i)
  have i1 : N * (P - A * D) ≤ U1 * p := by
    refine le_of_sq (Int.mul_nonneg hU1 (by omega)) ?_
    have e1 : N * (P - A * D) * (N * (P - A * D)) + N * N * (K1 * (D * D)) = ((A - D) * (A - D) + K1) * (N * N * P) := by subst hP; grind
    have e2 : ((A - D) * (A - D) + K1) * (N * N * P) ≤ (U1 * U1) * (p * p) := mulle h3 p2 (by omega) (sq_nonneg U1)
    have e3 : (U1 * U1) * (p * p) = U1 * p * (U1 * p) := by grind
    have e4 : 0 ≤ N * N * (K1 * (D * D)) := Int.mul_nonneg (by omega) (Int.mul_nonneg (by omega) (sq_nonneg D))
    omega
  have i2 : N * (Q + B * D) ≤ U2 * q := by
    refine le_of_sq (Int.mul_nonneg hU2 (by omega)) ?_
    have e1 : N * (Q + B * D) * (N * (Q + B * D)) + N * N * (K2 * (D * D)) = ((B + D) * (B + D) + K2) * (N * N * Q) := by subst hQ; grind
    have e2 : ((B + D) * (B + D) + K2) * (N * N * Q) ≤ (U2 * U2) * (q * q) := mulle h4 q2 (by omega) (sq_nonneg U2)
    have e3 : (U2 * U2) * (q * q) = U2 * q * (U2 * q) := by grind
    have e4 : 0 ≤ N * N * (K2 * (D * D)) := Int.mul_nonneg (by omega) (Int.mul_nonneg (by omega) (sq_nonneg D))
    omega
  have j1 : L1 * (p - 1) ≤ N * P := by
    refine le_of_sq (Int.mul_nonneg (by omega) (by omega)) ?_
    have e2 : (L1 * L1) * ((p - 1) * (p - 1)) ≤ P * (N * N * P) := mulle h1 (by omega) (sq_nonneg _) (by omega)
    grind
  have j2 : L2 * (q - 1) ≤ N * Q := by
    refine le_of_sq (Int.mul_nonneg (by omega) (by omega)) ?_
    have e2 : (L2 * L2) * ((q - 1) * (q - 1)) ≤ Q * (N * N * Q) := mulle h2 (by omega) (sq_nonneg _) (by omega)
    grind
  have s1 : V2 * A * (q - 1) ≤ V1 * B * p := by
    refine le_of_sq (Int.mul_nonneg (Int.mul_nonneg hV1 hB) (by omega)) ?_
    have e1 : V2 * A * (V2 * A) * ((q - 1) * (q - 1)) ≤ V2 * A * (V2 * A) * (N * N * Q) := Int.mul_le_mul_of_nonneg_left (by omega) (sq_nonneg _)
    have e2 : N * N * (V2 * A * (V2 * A) * Q) ≤ N * N * (V1 * B * (V1 * B) * P) := Int.mul_le_mul_of_nonneg_left hS (by omega)
    have e3 : V1 * B * (V1 * B) * (N * N * P) ≤ V1 * B * (V1 * B) * (p * p) := Int.mul_le_mul_of_nonneg_left p2 (sq_nonneg _)
    grind
  have k1 : V2 * q * ((L1 - U1) * p) ≤ V2 * q * (N * (A * D) + L1) := Int.mul_le_mul_of_nonneg_left (by grind) (Int.mul_nonneg hV2 (by omega))
  have k2 : V1 * p * ((L2 - U2) * q) ≤ V1 * p * (L2 - N * (B * D)) := Int.mul_le_mul_of_nonneg_left (by grind) (Int.mul_nonneg hV1 (by omega))
  have k3 : N * D * (V2 * A * q - V1 * B * p) ≤ N * D * (V2 * A) := Int.mul_le_mul_of_nonneg_left (by grind) (Int.mul_nonneg (by omega) hD)
  have k4 : p * q * 1 ≤ p * q * (V2 * L1 + V1 * L2 - (V2 * U1 + V1 * U2)) := Int.mul_le_mul_of_nonneg_left (by omega) (Int.mul_nonneg (by omega) (by omega))
  have k5 : p * q ≤ N * D * (V2 * A) + V2 * L1 * q + V1 * L2 * p := by grind
  -- p q is greater than that
  have m0 : ∃ m, p ≤ m ∧ q ≤ m ∧ N * m ≤ p * q := by
    rcases Int.le_total p q with h | h
    · exact ⟨q, h, Int.le_refl _, Int.mul_le_mul_of_nonneg_right pN (by omega)⟩
    · exact ⟨p, Int.le_refl _, h, by have := Int.mul_le_mul_of_nonneg_left qN (show 0 ≤ p by omega); grind⟩
  obtain ⟨m, m1, m2, m3⟩ := m0
  have m4 : (D * (V2 * A)) * N ≤ (D * (V2 * A)) * m := Int.mul_le_mul_of_nonneg_left (by omega) c1
  have m5 : (V2 * L1) * q ≤ (V2 * L1) * m := Int.mul_le_mul_of_nonneg_left m2 c2
  have m6 : (V1 * L2) * p ≤ (V1 * L2) * m := Int.mul_le_mul_of_nonneg_left m1 c3
  have m7 : N * m = (D * (V2 * A)) * m + (V2 * L1) * m + (V1 * L2) * m + m := by rw [hN]; grind
  have m8 : N * D * (V2 * A) = (D * (V2 * A)) * N := by grind
  omega
end Go.Proofs.Ytpphnnbijmoodaa
