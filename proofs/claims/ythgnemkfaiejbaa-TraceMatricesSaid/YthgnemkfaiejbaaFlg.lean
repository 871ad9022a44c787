/-
  FLOATS of any word: what a single stands for, the same as a double, its whole part, its order. (Plain; nothing of the program.)
-/
import Derived.Test.YthgnemkfaiejbaaFlo
set_option linter.unusedVariables false
set_option linter.unusedSimpArgs false
set_option exponentiation.threshold 3000
namespace Go.Proofs.Ythgnemkfaiejbaa
open Ieee

/-- the word nearest to a number that the format has -/
theorem nearest_gen {f : Format} (neg : Bool) {m : Nat} (h : m < 2 ^ (f.fractionBits + 1)) (hm : m ≠ 0) (k : Nat) (p : Int) (L : Int) (hL : L = max (p + k + m.log2 - f.fractionBits) f.leastPlace) (hl : f.leastPlace ≤ p + k) (hb : ((L - f.leastPlace).toNat * f.binade + m * 2 ^ (p + k - L).toNat) ≤ f.infRung) :
    f.nearest neg (m * 2 ^ k) p = f.word neg ((L - f.leastPlace).toNat * f.binade + m * 2 ^ (p + k - L).toNat) := by
  have l := log2_le h hm
  have h0 : m * 2 ^ k ≠ 0 := Nat.mul_ne_zero hm (by have := Nat.two_pow_pos k; omega)
  unfold Format.nearest
  rw [if_neg h0, log2_scaled hm]
  have el : max (p + ((m.log2 + k : Nat) : Int) - f.fractionBits) f.leastPlace = L := by rw [hL]; congr 1; omega
  rw [el]
  have hLp : L ≤ p + k := by omega
  have ek : Toward.even.cut neg ((m * 2 ^ k) <<< (p - L).toNat) (L - p).toNat = m * 2 ^ (p + k - L).toNat := by
    rw [Nat.shiftLeft_eq]
    rcases Int.lt_or_le p L with c | c
    · rw [show (p - L).toNat = 0 by omega, Nat.pow_zero, Nat.mul_one]
      have e : m * 2 ^ k = m * 2 ^ (p + k - L).toNat * 2 ^ (L - p).toNat := by rw [Nat.mul_assoc, ← Nat.pow_add]; congr 2; omega
      rw [e, cut_exact]
    · rw [show (L - p).toNat = 0 by omega]
      have e : m * 2 ^ k * 2 ^ (p - L).toNat = m * 2 ^ (p + k - L).toNat := by rw [Nat.mul_assoc, ← Nat.pow_add]; congr 2; omega
      rw [e]
      have := cut_exact .even neg (m * 2 ^ (p + k - L).toNat) 0
      rw [Nat.pow_zero, Nat.mul_one] at this
      exact this
  simp only [ek]
  rw [Nat.min_eq_left hb]
/-- what that word stands for: the same number -/
theorem read_gen {f : Format} (neg : Bool) {m : Nat} (h : m < 2 ^ (f.fractionBits + 1)) (k : Nat) (p : Int) (hl : f.leastPlace ≤ p + k) (hu : (p + k - f.leastPlace).toNat + 2 ≤ 2 ^ f.exponentBits - 1) :
    ∃ j : Nat, f.read (f.nearest neg (m * 2 ^ k) p) = .number neg (m * 2 ^ j) (p + k - j) ∧ f.leastPlace ≤ p + k - j ∨ m = 0 ∧ f.read (f.nearest neg (m * 2 ^ k) p) = .number neg 0 f.leastPlace := by
  have pb : 0 < f.binade := by unfold Format.binade; exact Nat.two_pow_pos _
  have isw := f.infRung_lt
  by_cases hm : m = 0
  · subst hm
    rw [Nat.zero_mul, nearest_zero]
    obtain ⟨a, b⟩ := read_word (f := f) neg (r := 0) (by omega)
    refine ⟨0, .inr ⟨rfl, ?_⟩⟩
    unfold Format.read
    simp only [a, b]
    rw [if_pos pb]
  · have l := log2_le h hm
    obtain ⟨L, hL⟩ : ∃ L, L = max (p + k + m.log2 - f.fractionBits) f.leastPlace := ⟨_, rfl⟩
    have hLp : L ≤ p + k := by omega
    have hLl : f.leastPlace ≤ L := by omega
    -- the digits that are kept
    have mb := mag_bd h hm
    have up : m * 2 ^ (p + k - L).toNat < 2 * f.binade := by
      refine Nat.lt_of_le_of_lt ?_ mb.2
      exact Nat.mul_le_mul_left _ (Nat.pow_le_pow_right (by decide) (by omega))
    have hR : (L - f.leastPlace).toNat * f.binade + m * 2 ^ (p + k - L).toNat < f.infRung := by
      unfold Format.infRung
      have e : (L - f.leastPlace).toNat + 2 ≤ 2 ^ f.exponentBits - 1 := by omega
      have e2 := Nat.mul_le_mul_right f.binade e
      rw [Nat.add_mul] at e2
      omega
    rw [nearest_gen neg h hm k p L hL hl (by omega)]
    obtain ⟨a, b⟩ := read_word (f := f) neg (r := (L - f.leastPlace).toNat * f.binade + m * 2 ^ (p + k - L).toNat) (by omega)
    refine ⟨(p + k - L).toNat, .inl ?_⟩
    unfold Format.read
    simp only [a, b]
    rw [show p + (k : Int) - (((p + k - L).toNat : Nat) : Int) = L by omega]
    by_cases c : m * 2 ^ (p + k - L).toNat < f.binade
    · -- below the normal ones
      have eL : L = f.leastPlace := by
        rcases Int.lt_or_le f.leastPlace L with d | d
        · exfalso
          have e1 : L = p + k + m.log2 - f.fractionBits := by omega
          have e2 : (p + k - L).toNat = f.fractionBits - m.log2 := by omega
          rw [e2] at c
          omega
        · omega
      rw [eL, Int.sub_self, Int.toNat_zero, Nat.zero_mul, Nat.zero_add]
      rw [eL] at c
      rw [if_pos c]
      exact ⟨rfl, Int.le_refl _⟩
    · have r1 : ¬ (L - f.leastPlace).toNat * f.binade + m * 2 ^ (p + k - L).toNat < f.binade := by omega
      rw [if_neg r1, if_pos hR]
      have eq : (L - f.leastPlace).toNat * f.binade + m * 2 ^ (p + k - L).toNat = (m * 2 ^ (p + k - L).toNat - f.binade) + f.binade * ((L - f.leastPlace).toNat + 1) := by
        rw [Nat.mul_add, Nat.mul_one, Nat.mul_comm f.binade]; omega
      have q1 : ((L - f.leastPlace).toNat * f.binade + m * 2 ^ (p + k - L).toNat) % f.binade = m * 2 ^ (p + k - L).toNat - f.binade := by
        rw [eq, Nat.add_mul_mod_self_left, Nat.mod_eq_of_lt (by omega)]
      have q2 : ((L - f.leastPlace).toNat * f.binade + m * 2 ^ (p + k - L).toNat) / f.binade = (L - f.leastPlace).toNat + 1 := by
        rw [eq, Nat.add_mul_div_left _ _ pb, Nat.div_eq_of_lt (by omega), Nat.zero_add]
      rw [q1, q2]
      refine ⟨?_, hLl⟩
      rw [show f.binade + (m * 2 ^ (p + k - L).toNat - f.binade) = m * 2 ^ (p + k - L).toNat by omega]
      congr 1
      omega

/-- the size of a number, on a scale that has all doubles -/
def mg (m : Nat) (e : Int) : Nat := m * 2 ^ (e + 1100).toNat
def sg (s : Bool) (M : Nat) : Int := if s then -(M : Int) else (M : Int)
theorem mg_zero (e : Int) : mg 0 e = 0 := Nat.zero_mul _
theorem mg_move (m k : Nat) (e : Int) (h : -1100 ≤ e) : mg (m * 2 ^ k) e = mg m (e + k) := by
  unfold mg
  rw [show (e + (k : Int) + 1100).toNat = k + (e + 1100).toNat by omega, Nat.pow_add, Nat.mul_assoc]
theorem signed_sg (s : Bool) (m k c : Nat) : Ieee.signed s m k * ((2 ^ c : Nat) : Int) = sg s (m * 2 ^ (k + c)) := by
  unfold Ieee.signed sg
  rw [Nat.shiftLeft_eq, Nat.pow_add, ← Nat.mul_assoc, Int.natCast_mul (m * 2 ^ k)]
  cases s
  · simp
  · simp [Int.neg_mul]
theorem order_mg (s t : Bool) (m n : Nat) (i j : Int) (hi : -1100 ≤ i) (hj : -1100 ≤ j) : Datum.order (.number s m i) (.number t n j) = some (compare (sg s (mg m i)) (sg t (mg n j))) := by
  unfold Datum.order mg
  simp only
  have e1 := signed_sg s m (i - min i j).toNat (min i j + 1100).toNat
  have e2 := signed_sg t n (j - min i j).toNat (min i j + 1100).toNat
  rw [show (i - min i j).toNat + (min i j + 1100).toNat = (i + 1100).toNat by omega] at e1
  rw [show (j - min i j).toNat + (min i j + 1100).toNat = (j + 1100).toNat by omega] at e2
  rw [← e1, ← e2]
  have p : (0 : Int) < ((2 ^ (min i j + 1100).toNat : Nat) : Int) := by have := Nat.two_pow_pos (min i j + 1100).toNat; omega
  generalize ((2 ^ (min i j + 1100).toNat : Nat) : Int) = P at *
  generalize Ieee.signed s m (i - min i j).toNat = a at *
  generalize Ieee.signed t n (j - min i j).toNat = b at *
  congr 1
  rcases Int.lt_trichotomy a b with c | c | c
  · have : a * P < b * P := Int.mul_lt_mul_of_pos_right c p
    rw [Int.compare_eq_lt.2 c, Int.compare_eq_lt.2 this]
  · subst c; rw [Int.compare_eq_eq.2 rfl, Int.compare_eq_eq.2 rfl]
  · have : b * P < a * P := Int.mul_lt_mul_of_pos_right c p
    rw [Int.compare_eq_gt.2 c, Int.compare_eq_gt.2 this]
/-- a double that stands for a number of this size -/
def IsD (y : Nat) (s : Bool) (M : Nat) : Prop := ∃ m e, double.read y = .number s m e ∧ m < 2 ^ 53 ∧ -1074 ≤ e ∧ e ≤ 971 ∧ mg m e = M
theorem double_bd {x : Nat} {s : Bool} {m : Nat} {e : Int} (h : double.read x = .number s m e) : m < 2 ^ 53 ∧ -1074 ≤ e ∧ e ≤ 971 := by
  have hL : double.leastPlace = -1074 := by decide
  have hB : double.binade = 2 ^ 52 := by decide
  have hI : double.infRung = 2047 * 2 ^ 52 := by decide
  unfold Format.read at h
  simp only [hL, hB, hI] at h
  generalize x % double.signWeight = r at h
  repeat' split at h
  · injection h with a1 a2 a3; omega
  · injection h with a1 a2 a3; omega
  · cases h
  · cases h
theorem single_bd {x : Nat} {s : Bool} {m : Nat} {e : Int} (h : single.read x = .number s m e) : m < 2 ^ 24 ∧ -149 ≤ e ∧ e ≤ 104 := by
  have hL : single.leastPlace = -149 := by decide
  have hB : single.binade = 2 ^ 23 := by decide
  have hI : single.infRung = 255 * 2 ^ 23 := by decide
  unfold Format.read at h
  simp only [hL, hB, hI] at h
  generalize x % single.signWeight = r at h
  repeat' split at h
  · injection h with a1 a2 a3; omega
  · injection h with a1 a2 a3; omega
  · cases h
  · cases h
theorem isD_read {y : Nat} {s : Bool} {m : Nat} {e : Int} (h : double.read y = .number s m e) : IsD y s (mg m e) := ⟨m, e, h, (double_bd h).1, (double_bd h).2.1, (double_bd h).2.2, rfl⟩
theorem isD_nearest (s : Bool) {m : Nat} (h : m < 2 ^ 53) (k : Nat) (p : Int) (hl : -1074 ≤ p + k) (hu : p + k ≤ 971) (hp : -1100 ≤ p) : IsD (double.nearest s (m * 2 ^ k) p) s (mg m (p + k)) := by
  have hL : double.leastPlace = -1074 := by decide
  obtain ⟨j, hj | ⟨h0, hj⟩⟩ := read_gen (f := double) s h k p (by rw [hL]; exact hl) (by rw [hL]; show _ ≤ 2047; omega)
  · rw [hL] at hj
    have := isD_read hj.1
    rw [mg_move _ _ _ (by omega), show p + (k : Int) - j + j = p + k by omega] at this
    exact this
  · have := isD_read hj
    subst h0
    rw [mg_zero]
    rw [mg_zero] at this
    exact this
theorem IsD.order {x y : Nat} {s t : Bool} {M N : Nat} (hx : IsD x s M) (hy : IsD y t N) : FloatKind.f64.format.order x y = some (compare (sg s M) (sg t N)) := by
  obtain ⟨m, e, r1, _, b1, _, v1⟩ := hx
  obtain ⟨n, f, r2, _, b2, _, v2⟩ := hy
  show double.order x y = _
  unfold Format.order
  rw [r1, r2, order_mg _ _ _ _ _ _ (by omega) (by omega), v1, v2]
theorem read_abs {x : Nat} : double.read (x % 2 ^ 63) = match double.read x with | .number _ m e => .number false m e | .infinity _ => .infinity false | .nan _ t => .nan false t := by
  have hs : double.signWeight = 2 ^ 63 := rfl
  have lt : x % 2 ^ 63 < 2 ^ 63 := Nat.mod_lt _ (by decide)
  unfold Format.read
  simp only [hs]
  rw [Nat.div_eq_of_lt lt, Nat.mod_mod]
  generalize x % 2 ^ 63 = r at *
  generalize (x / 2 ^ 63 % 2 == 1) = b
  by_cases c : r < double.binade
  · rw [if_pos c, if_pos c]; rfl
  · rw [if_neg c, if_neg c]
    by_cases d : r < double.infRung
    · rw [if_pos d, if_pos d]; rfl
    · rw [if_neg d, if_neg d]
      by_cases e : r = double.infRung
      · rw [if_pos e, if_pos e]; rfl
      · rw [if_neg e, if_neg e]; rfl
theorem IsD.abs {x : Nat} {s : Bool} {M : Nat} (hx : IsD x s M) : IsD (x % 2 ^ 63) false M := by
  obtain ⟨m, e, r, h1, h2, h3, h4⟩ := hx
  exact ⟨m, e, by rw [read_abs, r], h1, h2, h3, h4⟩
def Z : Nat := 2 ^ 1100
theorem Z_pos : 0 < Z := Nat.two_pow_pos _
theorem cut_zero (s : Bool) (n d : Nat) : Toward.zero.cut s n d = n / 2 ^ d := by
  unfold Toward.cut
  simp only [Nat.shiftLeft_eq, Nat.one_mul, Bool.toNat_false, Nat.add_zero]
  rcases Nat.le_total d (n.log2 + 2) with c | c
  · rw [Nat.min_eq_left c]
  · rw [Nat.min_eq_right c]
    have a : n < 2 ^ (n.log2 + 2) := by
      by_cases h : n = 0
      · subst h; exact Nat.two_pow_pos _
      · exact (Nat.log2_lt h).1 (by omega)
    rw [Nat.div_eq_of_lt a, Nat.div_eq_of_lt (Nat.lt_of_lt_of_le a (Nat.pow_le_pow_right (by decide) c))]
theorem whole_part (m : Nat) {e : Int} (he : -1100 ≤ e) : m * 2 ^ e.toNat / 2 ^ (-e).toNat = mg m e / Z := by
  unfold mg Z
  rcases Int.lt_or_le e 0 with c | c
  · rw [show e.toNat = 0 by omega, Nat.pow_zero, Nat.mul_one]
    have : (2 : Nat) ^ 1100 = 2 ^ (-e).toNat * 2 ^ (e + 1100).toNat := by rw [← Nat.pow_add]; congr 1; omega
    rw [this, Nat.mul_div_mul_right _ _ (Nat.two_pow_pos _)]
  · rw [show (-e).toNat = 0 by omega, Nat.pow_zero, Nat.div_one, show (e + 1100).toNat = e.toNat + 1100 by omega, Nat.pow_add, ← Nat.mul_assoc, Nat.mul_div_cancel _ (Nat.two_pow_pos _)]
theorem integral_num (s : Bool) (m : Nat) {e : Int} (he : -1100 ≤ e) : Datum.integral .zero (.number s m e) = .number s (mg m e / Z) 0 := by
  unfold Datum.integral
  simp only
  rw [cut_zero, Nat.shiftLeft_eq, whole_part _ he]
/-- the whole part of a double is one -/
theorem isD_whole (t : Bool) {m : Nat} {e : Int} (h : m < 2 ^ 53) (h1 : -1074 ≤ e) (h2 : e ≤ 971) : IsD (double.nearest t (mg m e / Z) 0) t (mg m e / Z * Z) := by
  rw [← whole_part _ (by omega)]
  have scale : ∀ n : Nat, mg n 0 = n * Z := fun n => rfl
  rcases Int.lt_or_le e 0 with c | c
  · rw [show e.toNat = 0 by omega, Nat.pow_zero, Nat.mul_one]
    have := isD_nearest t (m := m / 2 ^ (-e).toNat) (Nat.lt_of_le_of_lt (Nat.div_le_self _ _) h) 0 0 (by decide) (by decide) (by decide)
    rw [Nat.pow_zero, Nat.mul_one, show (0 : Int) + ((0 : Nat) : Int) = 0 from rfl, scale] at this
    exact this
  · rw [show (-e).toNat = 0 by omega, Nat.pow_zero, Nat.div_one]
    have := isD_nearest t h e.toNat 0 (by omega) (by omega) (by decide)
    rw [show (0 : Int) + ((e.toNat : Nat) : Int) = 0 + ((e.toNat : Nat) : Int) from rfl, ← mg_move _ _ _ (by decide), scale] at this
    exact this
theorem whole_iff (M : Nat) : M / Z * Z = M ↔ M % Z = 0 := by
  have := Nat.div_add_mod M Z
  rw [Nat.mul_comm]
  omega
theorem big_whole {m : Nat} {e : Int} (h : m < 2 ^ 53) (h1 : -1074 ≤ e) (hb : 10000000000000000 * Z < mg m e) : mg m e % Z = 0 := by
  have c : 0 ≤ e := by
    rcases Int.lt_or_le e 0 with c | c
    · exfalso
      have : mg m e ≤ 2 ^ 53 * Z := by
        unfold mg Z
        exact Nat.mul_le_mul (Nat.le_of_lt h) (Nat.pow_le_pow_right (by decide) (by omega))
      have z := Z_pos
      have : 10000000000000000 * Z < 2 ^ 53 * Z := by omega
      have := Nat.lt_of_mul_lt_mul_right this
      omega
    · exact c
  unfold mg Z
  rw [show (e + 1100).toNat = e.toNat + 1100 by omega, Nat.pow_add, ← Nat.mul_assoc]
  exact Nat.mul_mod_left _ _
end Go.Proofs.Ythgnemkfaiejbaa
