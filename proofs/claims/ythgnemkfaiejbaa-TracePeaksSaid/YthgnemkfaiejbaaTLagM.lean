/-
  LAGS of traces: sums of products, the lag that is found. (Plain.)
-/
set_option linter.unusedVariables false
set_option linter.unusedSimpArgs false
namespace Go.Proofs.Ythgnemkfaiejbaa
/-- the sum of products up to k, those of the second taken later by a lag -/
def lk (x y : Nat → Int) (lag : Int) : Nat → Int
  | 0 => 0
  | k + 1 => lk x y lag k + if 0 ≤ (k : Int) + lag ∧ (k : Int) + lag ≤ 63 then x k * y ((k : Int) + lag).toNat else 0
theorem prod_bd {a b : Int} (ha : a.natAbs ≤ 2047) (hb : b.natAbs ≤ 2047) : (a * b).natAbs ≤ 4190209 := by
  rw [Int.natAbs_mul]
  exact Nat.mul_le_mul ha hb
theorem lk_bd {x y : Nat → Int} (hx : ∀ k, k < 64 → (x k).natAbs ≤ 2047) (hy : ∀ k, k < 64 → (y k).natAbs ≤ 2047) (lag : Int) : ∀ k, k ≤ 64 → (lk x y lag k).natAbs ≤ k * 4190209
  | 0, _ => by simp [lk]
  | k + 1, h => by
    have ih := lk_bd hx hy lag k (by omega)
    unfold lk
    split
    · rename_i c
      have := prod_bd (hx k (by omega)) (hy ((k : Int) + lag).toNat (by omega))
      rw [Nat.add_mul]; omega
    · rw [Nat.add_mul]; omega
/-- the lag so far, and its sum -/
def bl (L : Int → Int) : Nat → Int × Int
  | 0 => (0, L 0)
  | s + 1 =>
    let p := bl L s
    let q := if L (-((s + 1 : Nat) : Int)) > p.2 then (-((s + 1 : Nat) : Int), L (-((s + 1 : Nat) : Int))) else p
    if L ((s + 1 : Nat) : Int) > q.2 then (((s + 1 : Nat) : Int), L ((s + 1 : Nat) : Int)) else q
/-- its sum is that of its lag, and no lag so far has a greater one -/
theorem bl_spec (L : Int → Int) : ∀ s, (bl L s).2 = L (bl L s).1 ∧ -(s : Int) ≤ (bl L s).1 ∧ (bl L s).1 ≤ s ∧ ∀ l : Int, -(s : Int) ≤ l → l ≤ s → L l ≤ (bl L s).2
  | 0 => ⟨rfl, by simp [bl], by simp [bl], fun l h1 h2 => by
      obtain rfl : l = 0 := by omega
      exact Int.le_refl _⟩
  | s + 1 => by
    obtain ⟨a, b, c, d⟩ := bl_spec L s
    unfold bl
    simp only
    by_cases h1 : L (-((s + 1 : Nat) : Int)) > (bl L s).2
    · rw [if_pos h1]
      by_cases h2 : L ((s + 1 : Nat) : Int) > (L (-((s + 1 : Nat) : Int)))
      · rw [if_pos h2]
        refine ⟨rfl, by simp; omega, by simp, fun l l1 l2 => ?_⟩
        by_cases e : l = ((s + 1 : Nat) : Int)
        · rw [e]; exact Int.le_refl _
        · by_cases e2 : l = -((s + 1 : Nat) : Int)
          · rw [e2]; exact Int.le_of_lt h2
          · have := d l (by omega) (by omega); simp only; omega
      · rw [if_neg h2]
        refine ⟨rfl, by simp, by simp; omega, fun l l1 l2 => ?_⟩
        by_cases e : l = ((s + 1 : Nat) : Int)
        · rw [e]; simp only; omega
        · by_cases e2 : l = -((s + 1 : Nat) : Int)
          · rw [e2]; exact Int.le_refl _
          · have := d l (by omega) (by omega); simp only; omega
    · rw [if_neg h1]
      by_cases h2 : L ((s + 1 : Nat) : Int) > (bl L s).2
      · rw [if_pos h2]
        refine ⟨rfl, by simp; omega, by simp, fun l l1 l2 => ?_⟩
        by_cases e : l = ((s + 1 : Nat) : Int)
        · rw [e]; exact Int.le_refl _
        · by_cases e2 : l = -((s + 1 : Nat) : Int)
          · rw [e2]; simp only; omega
          · have := d l (by omega) (by omega); simp only; omega
      · rw [if_neg h2]
        refine ⟨a, by omega, by omega, fun l l1 l2 => ?_⟩
        by_cases e : l = ((s + 1 : Nat) : Int)
        · rw [e]; omega
        · by_cases e2 : l = -((s + 1 : Nat) : Int)
          · rw [e2]; omega
          · exact d l (by omega) (by omega)
/-- where one lag has more than all others it is found -/
theorem bl_only (L : Int → Int) (s : Nat) (m : Int) (h1 : -(s : Int) ≤ m) (h2 : m ≤ s) (h : ∀ l : Int, -(s : Int) ≤ l → l ≤ s → l ≠ m → L l < L m) : (bl L s).1 = m := by
  obtain ⟨a, b, c, d⟩ := bl_spec L s
  by_cases e : (bl L s).1 = m
  · exact e
  · have := h _ b c e
    have := d m h1 h2
    omega
/-- squares, products with those e ahead, and what lies between -/
def qs (x : Nat → Int) : Nat → Int
  | 0 => 0
  | k + 1 => qs x k + x k * x k
def ps (x : Nat → Int) (e : Nat) : Nat → Int
  | 0 => 0
  | k + 1 => ps x e k + if e ≤ k then x k * x (k - e) else 0
def rs (x : Nat → Int) (e : Nat) : Nat → Int
  | 0 => 0
  | k + 1 => rs x e k + if e ≤ k then (x k - x (k - e)) * (x k - x (k - e)) else x k * x k
theorem sq_nn (a : Int) : 0 ≤ a * a := by
  rcases Int.le_total 0 a with h | h
  · exact Int.mul_nonneg h h
  · exact Int.mul_nonneg_of_nonpos_of_nonpos h h
theorem sq_pos {a : Int} (h : a ≠ 0) : 0 < a * a := by
  have := sq_nn a
  have : a * a ≠ 0 := Int.mul_ne_zero h h
  omega
theorem qs_mono (x : Nat → Int) : ∀ k j, qs x k ≤ qs x (k + j)
  | k, 0 => Int.le_refl _
  | k, j + 1 => by
    have := qs_mono x k j
    have h := sq_nn (x (k + j))
    show qs x k ≤ qs x (k + j) + x (k + j) * x (k + j)
    omega
theorem rs_mono (x : Nat → Int) (e : Nat) : ∀ k j, rs x e k ≤ rs x e (k + j)
  | k, 0 => Int.le_refl _
  | k, j + 1 => by
    have := rs_mono x e k j
    show rs x e k ≤ rs x e (k + j) + if e ≤ k + j then (x (k + j) - x (k + j - e)) * (x (k + j) - x (k + j - e)) else x (k + j) * x (k + j)
    split
    · have h := sq_nn (x (k + j) - x (k + j - e)); omega
    · have h := sq_nn (x (k + j)); omega
theorem sums (x : Nat → Int) (e : Nat) : ∀ k, qs x k + qs x (k - e) = 2 * ps x e k + rs x e k
  | 0 => by simp [qs, ps, rs]
  | k + 1 => by
    have ih := sums x e k
    show qs x k + x k * x k + qs x (k + 1 - e) = 2 * (ps x e k + _) + (rs x e k + _)
    by_cases h : e ≤ k
    · rw [if_pos h, if_pos h, show k + 1 - e = (k - e) + 1 by omega]
      show qs x k + x k * x k + (qs x (k - e) + x (k - e) * x (k - e)) = _
      generalize x (k - e) = b at *
      generalize x k = a at *
      grind
    · rw [if_neg h, if_neg h, show k + 1 - e = 0 by omega]
      rw [show k - e = 0 by omega] at ih
      omega
theorem first_nonzero (x : Nat → Int) : ∀ k, (∃ i, i < k ∧ x i ≠ 0) → ∃ i, i < k ∧ x i ≠ 0 ∧ ∀ j, j < i → x j = 0
  | 0, ⟨i, h, _⟩ => absurd h (Nat.not_lt_zero _)
  | k + 1, ⟨i, h, hx⟩ => by
    by_cases c : ∃ i, i < k ∧ x i ≠ 0
    · obtain ⟨j, a, b, d⟩ := first_nonzero x k c
      exact ⟨j, by omega, b, d⟩
    · have hik : i = k := by
        by_cases hik : i = k
        · exact hik
        · exact absurd ⟨i, by omega, hx⟩ c
      subst hik
      refine ⟨i, h, hx, fun j hj => ?_⟩
      by_cases hz : x j = 0
      · exact hz
      · exact absurd ⟨j, hj, hz⟩ c
/-- the products with those e ahead are less than the squares -/
theorem ps_lt (x : Nat → Int) (e k : Nat) (he : 0 < e) (h : ∃ i, i < k ∧ x i ≠ 0) : ps x e k < qs x k := by
  obtain ⟨i, hi, hx, hf⟩ := first_nonzero x k h
  have r0 : 0 ≤ rs x e i := by
    have := rs_mono x e 0 i
    rw [Nat.zero_add] at this
    exact this
  have r1 : 0 < rs x e (i + 1) := by
    show 0 < rs x e i + _
    split
    · rw [hf (i - e) (by omega)]
      have := sq_pos (a := x i - 0) (by omega)
      omega
    · have := sq_pos hx; omega
  have r2 := rs_mono x e (i + 1) (k - (i + 1))
  rw [show i + 1 + (k - (i + 1)) = k by omega] at r2
  have s := sums x e k
  have q := qs_mono x (k - e) (k - (k - e))
  rw [show k - e + (k - (k - e)) = k by omega] at q
  omega
/-- a trace that comes m samples later -/
def sh (x : Nat → Int) (m : Nat) : Nat → Int := fun n => if m ≤ n then x (n - m) else 0
theorem lk_sh (x : Nat → Int) (m e : Nat) (hm : m ≤ 64) (hz : ∀ i, i < 64 → 64 ≤ i + m → x i = 0) : ∀ k, k ≤ 64 → lk x (sh x m) ((m : Int) - e) k = ps x e k
  | 0, _ => rfl
  | k + 1, h => by
    have ih := lk_sh x m e hm hz k (by omega)
    show lk x (sh x m) ((m : Int) - e) k + _ = ps x e k + _
    rw [ih]
    congr 1
    by_cases c : 0 ≤ (k : Int) + ((m : Int) - e) ∧ (k : Int) + ((m : Int) - e) ≤ 63
    · rw [if_pos c]
      unfold sh
      by_cases d : e ≤ k
      · rw [if_pos d, if_pos (by omega), show ((k : Int) + ((m : Int) - e)).toNat - m = k - e by omega]
      · rw [if_neg d, if_neg (by omega)]; simp
    · rw [if_neg c]
      by_cases d : e ≤ k
      · rw [if_pos d, hz (k - e) (by omega) (by omega)]; simp
      · rw [if_neg d]
theorem ps_zero (x : Nat → Int) : ∀ k, ps x 0 k = qs x k
  | 0 => rfl
  | k + 1 => by show ps x 0 k + _ = qs x k + _; rw [ps_zero x k, if_pos (Nat.zero_le _)]; rfl
theorem lag_sh (x : Nat → Int) (m : Nat) (hm : m ≤ 64) (hz : ∀ i, i < 64 → 64 ≤ i + m → x i = 0) (h : ∃ i, i < 64 ∧ x i ≠ 0) (l : Int) (h1 : -(m : Int) ≤ l) (h2 : l ≤ m) (hl : l ≠ m) :
    lk x (sh x m) l 64 < lk x (sh x m) m 64 := by
  obtain ⟨e, he⟩ : ∃ e : Nat, (m : Int) - e = l := ⟨((m : Int) - l).toNat, by omega⟩
  have a := lk_sh x m e hm hz 64 (by omega)
  have b := lk_sh x m 0 hm hz 64 (by omega)
  rw [he] at a
  rw [show (m : Int) - ((0 : Nat) : Int) = m by omega, ps_zero] at b
  rw [a, b]
  exact ps_lt x e 64 (by omega) h
theorem lk_zero (x y : Nat → Int) (lag : Int) (hx : ∀ i, i < 64 → x i = 0) : ∀ k, k ≤ 64 → lk x y lag k = 0
  | 0, _ => rfl
  | k + 1, h => by
    show lk x y lag k + _ = 0
    rw [lk_zero x y lag hx k (by omega), hx k (by omega)]
    split <;> simp
end Go.Proofs.Ythgnemkfaiejbaa
