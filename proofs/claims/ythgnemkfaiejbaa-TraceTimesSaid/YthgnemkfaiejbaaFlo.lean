/-
  FLOATS that hold whole numbers: their words, sums, order, conversions. (Plain; nothing of the program.)
-/
import Derived.Laws.FloatArith
set_option linter.unusedVariables false
set_option linter.unusedSimpArgs false
namespace Go.Proofs.Ythgnemkfaiejbaa
open Ieee

def Fine (f : Format) : Prop := f.leastPlace ≤ -(f.fractionBits : Int) ∧ (-f.leastPlace).toNat + 2 ≤ 2 ^ f.exponentBits - 1
theorem fine_single : Fine single := by unfold Fine; decide
theorem fine_double : Fine double := by unfold Fine; decide
theorem log2_scaled {m : Nat} (hm : m ≠ 0) (k : Nat) : (m * 2 ^ k).log2 = m.log2 + k := by
  have h0 : m * 2 ^ k ≠ 0 := Nat.mul_ne_zero hm (by have := Nat.two_pow_pos k; omega)
  have a : m.log2 + k ≤ (m * 2 ^ k).log2 := by
    rw [Nat.le_log2 h0, Nat.pow_add]
    exact Nat.mul_le_mul_right _ ((Nat.le_log2 hm).1 (Nat.le_refl _))
  have b : (m * 2 ^ k).log2 < m.log2 + 1 + k := by
    rw [Nat.log2_lt h0, Nat.pow_add]
    exact Nat.mul_lt_mul_of_pos_right ((Nat.log2_lt hm).1 (by omega)) (Nat.two_pow_pos k)
  omega
theorem cut_exact (w : Toward) (neg : Bool) (n d : Nat) : w.cut neg (n * 2 ^ d) d = n := by
  by_cases h : n = 0
  · subst h
    unfold Toward.cut
    simp only [Nat.zero_mul, Nat.zero_div, Nat.zero_mod, Nat.mul_zero]
    have g : 1 ≤ 1 <<< min d (Nat.log2 0 + 2) := by rw [Nat.shiftLeft_eq, Nat.one_mul]; exact Nat.two_pow_pos _
    cases w <;> simp
  · unfold Toward.cut
    rw [log2_scaled h, Nat.min_eq_left (by omega), Nat.shiftLeft_eq, Nat.one_mul]
    have p := Nat.two_pow_pos d
    dsimp only
    rw [Nat.mul_div_cancel _ p, Nat.mul_mod_left]
    cases w <;> simp
    all_goals (try omega)
theorem log2_le {f : Format} {m : Nat} (h : m < 2 ^ (f.fractionBits + 1)) (hm : m ≠ 0) : m.log2 ≤ f.fractionBits := by
  have := (Nat.log2_lt hm).2 h
  omega
/-- the rung of a whole number -/
def rung (f : Format) (m : Nat) : Nat := ((m.log2 : Int) - f.fractionBits - f.leastPlace).toNat * f.binade + m * 2 ^ (f.fractionBits - m.log2)
theorem mag_bd {f : Format} {m : Nat} (h : m < 2 ^ (f.fractionBits + 1)) (hm : m ≠ 0) : f.binade ≤ m * 2 ^ (f.fractionBits - m.log2) ∧ m * 2 ^ (f.fractionBits - m.log2) < 2 * f.binade := by
  have l := log2_le h hm
  have a := (Nat.le_log2 hm).1 (Nat.le_refl m.log2)
  have b := (Nat.log2_lt hm).1 (Nat.lt_succ_self m.log2)
  unfold Format.binade
  have e : 2 ^ m.log2 * 2 ^ (f.fractionBits - m.log2) = 2 ^ f.fractionBits := by rw [← Nat.pow_add]; congr 1; omega
  constructor
  · rw [← e]; exact Nat.mul_le_mul_right _ a
  · rw [← e, ← Nat.mul_assoc, ← Nat.pow_succ']
    exact Nat.mul_lt_mul_of_pos_right b (Nat.two_pow_pos _)
theorem rung_bd {f : Format} (F : Fine f) {m : Nat} (h : m < 2 ^ (f.fractionBits + 1)) (hm : m ≠ 0) : rung f m < f.infRung := by
  have l := log2_le h hm
  have b := mag_bd h hm
  unfold rung Format.infRung
  have e : ((m.log2 : Int) - f.fractionBits - f.leastPlace).toNat + 2 ≤ 2 ^ f.exponentBits - 1 := by have := F.2; have := F.1; omega
  have e2 := Nat.mul_le_mul_right f.binade e
  rw [Nat.add_mul] at e2
  omega
theorem nearest_scaled {f : Format} (F : Fine f) (neg : Bool) {m : Nat} (h : m < 2 ^ (f.fractionBits + 1)) (hm : m ≠ 0) (k : Nat) : f.nearest neg (m * 2 ^ k) (-(k : Int)) = f.word neg (rung f m) := by
  have l := log2_le h hm
  have F1 := F.1
  have h0 : m * 2 ^ k ≠ 0 := Nat.mul_ne_zero hm (by have := Nat.two_pow_pos k; omega)
  unfold Format.nearest
  rw [if_neg h0, log2_scaled hm]
  have el : max (-(k : Int) + ((m.log2 + k : Nat) : Int) - f.fractionBits) f.leastPlace = (m.log2 : Int) - f.fractionBits := by omega
  rw [el]
  have ek : Toward.even.cut neg ((m * 2 ^ k) <<< (-(k : Int) - ((m.log2 : Int) - f.fractionBits)).toNat) ((m.log2 : Int) - f.fractionBits - -(k : Int)).toNat = m * 2 ^ (f.fractionBits - m.log2) := by
    rw [Nat.shiftLeft_eq]
    rcases Nat.lt_or_ge (f.fractionBits - m.log2) k with c | c
    · rw [show (-(k : Int) - ((m.log2 : Int) - f.fractionBits)).toNat = 0 by omega, show ((m.log2 : Int) - f.fractionBits - -(k : Int)).toNat = k - (f.fractionBits - m.log2) by omega]
      rw [Nat.pow_zero, Nat.mul_one]
      have e : m * 2 ^ k = m * 2 ^ (f.fractionBits - m.log2) * 2 ^ (k - (f.fractionBits - m.log2)) := by rw [Nat.mul_assoc, ← Nat.pow_add]; congr 2; omega
      rw [e, cut_exact]
    · rw [show (-(k : Int) - ((m.log2 : Int) - f.fractionBits)).toNat = f.fractionBits - m.log2 - k by omega, show ((m.log2 : Int) - f.fractionBits - -(k : Int)).toNat = 0 by omega]
      have e : m * 2 ^ k * 2 ^ (f.fractionBits - m.log2 - k) = m * 2 ^ (f.fractionBits - m.log2) := by rw [Nat.mul_assoc, ← Nat.pow_add]; congr 2; omega
      rw [e]
      have := cut_exact .even neg (m * 2 ^ (f.fractionBits - m.log2)) 0
      rw [Nat.pow_zero, Nat.mul_one] at this
      exact this
  simp only [ek]
  have rb := rung_bd F h hm
  unfold rung at rb
  rw [Nat.min_eq_left (by omega)]
  rfl
theorem nearest_zero (f : Format) (neg : Bool) (k : Int) : f.nearest neg 0 k = f.word neg 0 := by unfold Format.nearest; rw [if_pos rfl]
theorem nearest_same {f : Format} (F : Fine f) (neg : Bool) {m : Nat} (h : m < 2 ^ (f.fractionBits + 1)) (k : Nat) : f.nearest neg (m * 2 ^ k) (-(k : Int)) = f.nearest neg m 0 := by
  by_cases hm : m = 0
  · subst hm; rw [Nat.zero_mul, nearest_zero, nearest_zero]
  · rw [nearest_scaled F neg h hm]
    have := nearest_scaled F neg h hm 0
    rw [Nat.pow_zero, Nat.mul_one] at this
    exact this.symm
theorem read_word {f : Format} (neg : Bool) {r : Nat} (h : r < f.signWeight) : (f.word neg r / f.signWeight % 2 == 1) = neg ∧ f.word neg r % f.signWeight = r := by
  unfold Format.word
  have p : 0 < f.signWeight := by unfold Format.signWeight; exact Nat.two_pow_pos _
  cases neg
  · simp only [Bool.false_eq_true, if_false]
    rw [Nat.div_eq_of_lt h, Nat.mod_eq_of_lt h]
    exact ⟨rfl, rfl⟩
  · simp only [if_true]
    rw [Nat.add_div_left _ p, Nat.div_eq_of_lt h, Nat.add_mod_left, Nat.mod_eq_of_lt h]
    exact ⟨rfl, rfl⟩
/-- what the word of a whole number stands for -/
theorem read_nearest {f : Format} (F : Fine f) (neg : Bool) {m : Nat} (h : m < 2 ^ (f.fractionBits + 1)) : ∃ j : Nat, f.read (f.nearest neg m 0) = .number neg (m * 2 ^ j) (-(j : Int)) := by
  have F1 := F.1
  have pb : 0 < f.binade := by unfold Format.binade; exact Nat.two_pow_pos _
  have isw := f.infRung_lt
  by_cases hm : m = 0
  · subst hm
    rw [nearest_zero]
    obtain ⟨a, b⟩ := read_word (f := f) neg (r := 0) (by omega)
    refine ⟨(-f.leastPlace).toNat, ?_⟩
    unfold Format.read
    simp only [a, b]
    rw [if_pos pb, Nat.zero_mul, show -(((-f.leastPlace).toNat : Nat) : Int) = f.leastPlace by omega]
  · have e := nearest_scaled F neg h hm 0
    rw [Nat.pow_zero, Nat.mul_one] at e
    rw [show (0 : Int) = -((0 : Nat) : Int) from rfl, e]
    have rb := rung_bd F h hm
    have mb := mag_bd h hm
    have l := log2_le h hm
    obtain ⟨a, b⟩ := read_word (f := f) neg (r := rung f m) (by omega)
    refine ⟨f.fractionBits - m.log2, ?_⟩
    unfold Format.read
    simp only [a, b]
    have r1 : ¬ rung f m < f.binade := by unfold rung; omega
    rw [if_neg r1, if_pos rb]
    have eq : rung f m = (m * 2 ^ (f.fractionBits - m.log2) - f.binade) + f.binade * (((m.log2 : Int) - f.fractionBits - f.leastPlace).toNat + 1) := by
      unfold rung; rw [Nat.mul_add, Nat.mul_one, Nat.mul_comm f.binade]; omega
    have q1 : rung f m % f.binade = m * 2 ^ (f.fractionBits - m.log2) - f.binade := by
      rw [eq, Nat.add_mul_mod_self_left, Nat.mod_eq_of_lt (by omega)]
    have q2 : rung f m / f.binade = ((m.log2 : Int) - f.fractionBits - f.leastPlace).toNat + 1 := by
      rw [eq, Nat.add_mul_div_left _ _ pb, Nat.div_eq_of_lt (by omega), Nat.zero_add]
    rw [q1, q2]
    rw [show f.binade + (m * 2 ^ (f.fractionBits - m.log2) - f.binade) = m * 2 ^ (f.fractionBits - m.log2) by omega]
    congr 1
    omega
/-- a datum that is a whole number -/
def Rep (d : Datum) (n : Int) : Prop := ∃ (s : Bool) (mag j : Nat), d = .number s mag (-(j : Int)) ∧ (if s then -(mag : Int) else (mag : Int)) = n * ((2 ^ j : Nat) : Int)
theorem signed_rep {s : Bool} {mag j : Nat} {n : Int} (h : (if s then -(mag : Int) else (mag : Int)) = n * ((2 ^ j : Nat) : Int)) (up : Nat) : Ieee.signed s mag up = n * ((2 ^ (j + up) : Nat) : Int) := by
  unfold Ieee.signed
  rw [Nat.shiftLeft_eq, Nat.pow_add, Int.natCast_mul, Int.natCast_mul, ← Int.mul_assoc, ← h]
  cases s
  · simp
  · simp [Int.neg_mul]
theorem natAbs_scaled (n : Int) (k : Nat) : (n * ((2 ^ k : Nat) : Int)).natAbs = n.natAbs * 2 ^ k := by rw [Int.natAbs_mul, Int.natAbs_natCast]
theorem scaled_zero {n : Int} {k : Nat} : n * ((2 ^ k : Nat) : Int) = 0 ↔ n = 0 := by
  have := Nat.two_pow_pos k
  constructor
  · intro h; rcases Int.mul_eq_zero.1 h with h | h
    · exact h
    · omega
  · intro h; subst h; simp
theorem scaled_neg {n : Int} {k : Nat} : n * ((2 ^ k : Nat) : Int) < 0 ↔ n < 0 := by
  have := Nat.two_pow_pos k
  constructor
  · intro h
    rcases Int.lt_or_le n 0 with c | c
    · exact c
    · have := Int.mul_nonneg c (show (0 : Int) ≤ ((2 ^ k : Nat) : Int) by omega); omega
  · intro h; exact Int.mul_neg_of_neg_of_pos h (by omega)
/-- a sum of whole numbers that is not -0 -/
theorem sum_rep {s t : Bool} {m n i j : Nat} {a b : Int} (ha : (if s then -(m : Int) else (m : Int)) = a * ((2 ^ i : Nat) : Int)) (hb : (if t then -(n : Int) else (n : Int)) = b * ((2 ^ j : Nat) : Int)) (hz : a + b = 0 → (s && t) = false) :
    Datum.sum (.number s m (-(i : Int))) (.number t n (-(j : Int))) = some (.number (decide (a + b < 0)) ((a + b).natAbs * 2 ^ (max i j)) (-((max i j : Nat) : Int))) := by
  unfold Datum.sum
  have em : min (-(i : Int)) (-(j : Int)) = -((max i j : Nat) : Int) := by omega
  simp only [em]
  have e1 : (-(i : Int) - -((max i j : Nat) : Int)).toNat = max i j - i := by omega
  have e2 : (-(j : Int) - -((max i j : Nat) : Int)).toNat = max i j - j := by omega
  rw [e1, e2, signed_rep ha, signed_rep hb, show i + (max i j - i) = max i j by omega, show j + (max i j - j) = max i j by omega, ← Int.add_mul, natAbs_scaled]
  congr 2
  by_cases h0 : a + b = 0
  · rw [if_pos (scaled_zero.2 h0), hz h0, h0]; rfl
  · rw [if_neg (by rw [scaled_zero]; exact h0)]
    exact decide_eq_decide.2 scaled_neg
theorem order_rep {s t : Bool} {m n i j : Nat} {a b : Int} (ha : (if s then -(m : Int) else (m : Int)) = a * ((2 ^ i : Nat) : Int)) (hb : (if t then -(n : Int) else (n : Int)) = b * ((2 ^ j : Nat) : Int)) :
    Datum.order (.number s m (-(i : Int))) (.number t n (-(j : Int))) = some (compare a b) := by
  unfold Datum.order
  have em : min (-(i : Int)) (-(j : Int)) = -((max i j : Nat) : Int) := by omega
  simp only [em]
  have e1 : (-(i : Int) - -((max i j : Nat) : Int)).toNat = max i j - i := by omega
  have e2 : (-(j : Int) - -((max i j : Nat) : Int)).toNat = max i j - j := by omega
  rw [e1, e2, signed_rep ha, signed_rep hb, show i + (max i j - i) = max i j by omega, show j + (max i j - j) = max i j by omega]
  congr 1
  have p : (0 : Int) < ((2 ^ max i j : Nat) : Int) := by have := Nat.two_pow_pos (max i j); omega
  generalize ((2 ^ max i j : Nat) : Int) = P at *
  rcases Int.lt_trichotomy a b with c | c | c
  · have : a * P < b * P := Int.mul_lt_mul_of_pos_right c p
    rw [Int.compare_eq_lt.2 c, Int.compare_eq_lt.2 this]
  · subst c; rw [Int.compare_eq_eq.2 rfl, Int.compare_eq_eq.2 rfl]
  · have : b * P < a * P := Int.mul_lt_mul_of_pos_right c p
    rw [Int.compare_eq_gt.2 c, Int.compare_eq_gt.2 this]
theorem abs_rep (n : Int) (j : Nat) : (if decide (n < 0) then -((n.natAbs * 2 ^ j : Nat) : Int) else ((n.natAbs * 2 ^ j : Nat) : Int)) = n * ((2 ^ j : Nat) : Int) := by
  rw [Int.natCast_mul]
  by_cases h : n < 0
  · rw [if_pos (by simpa using h), ← Int.neg_mul]; congr 1; omega
  · rw [if_neg (by simpa using h)]; congr 1; omega
theorem neg_rep (n : Int) (j : Nat) : (if !decide (n < 0) then -((n.natAbs * 2 ^ j : Nat) : Int) else ((n.natAbs * 2 ^ j : Nat) : Int)) = (-n) * ((2 ^ j : Nat) : Int) := by
  have := abs_rep n j
  rw [Int.neg_mul]
  cases h : decide (n < 0) <;> simp [h] at this ⊢ <;> omega

/-- the word of a whole number -/
def wd (f : Format) (n : Int) : Nat := f.nearest (decide (n < 0)) n.natAbs 0
theorem read_wd {f : Format} (F : Fine f) {n : Int} (h : n.natAbs < 2 ^ (f.fractionBits + 1)) : ∃ j : Nat, f.read (wd f n) = .number (decide (n < 0)) (n.natAbs * 2 ^ j) (-(j : Int)) := read_nearest F _ h
theorem add_wd {f : Format} (F : Fine f) {a b : Int} (ha : a.natAbs < 2 ^ (f.fractionBits + 1)) (hb : b.natAbs < 2 ^ (f.fractionBits + 1)) (hab : (a + b).natAbs < 2 ^ (f.fractionBits + 1)) : f.add (wd f a) (wd f b) = some (wd f (a + b)) := by
  obtain ⟨i, hi⟩ := read_wd F ha
  obtain ⟨j, hj⟩ := read_wd F hb
  unfold Format.add
  rw [hi, hj, sum_rep (abs_rep a i) (abs_rep b j) (by intro h; by_cases c : a < 0 <;> simp [c] <;> omega)]
  simp only [Option.map_some, Format.write]
  rw [nearest_same F _ hab]
  rfl
theorem sub_wd {f : Format} (F : Fine f) {a b : Int} (ha : a.natAbs < 2 ^ (f.fractionBits + 1)) (hb : b.natAbs < 2 ^ (f.fractionBits + 1)) (hab : (a - b).natAbs < 2 ^ (f.fractionBits + 1)) : f.sub (wd f a) (wd f b) = some (wd f (a - b)) := by
  obtain ⟨i, hi⟩ := read_wd F ha
  obtain ⟨j, hj⟩ := read_wd F hb
  unfold Format.sub
  rw [hi, hj]
  simp only [Datum.opposite]
  rw [sum_rep (abs_rep a i) (neg_rep b j) (by intro h; by_cases c : a < 0 <;> simp [c] <;> omega), show a + -b = a - b by omega]
  simp only [Option.map_some, Format.write]
  rw [nearest_same F _ hab]
  rfl
theorem order_wd {f : Format} (F : Fine f) {a b : Int} (ha : a.natAbs < 2 ^ (f.fractionBits + 1)) (hb : b.natAbs < 2 ^ (f.fractionBits + 1)) : f.order (wd f a) (wd f b) = some (compare a b) := by
  obtain ⟨i, hi⟩ := read_wd F ha
  obtain ⟨j, hj⟩ := read_wd F hb
  unfold Format.order
  rw [hi, hj, order_rep (abs_rep a i) (abs_rep b j)]
theorem toInt_wd {f : Format} (F : Fine f) (w : Toward) {a : Int} (ha : a.natAbs < 2 ^ (f.fractionBits + 1)) : (f.read (wd f a)).toInt w = some a := by
  obtain ⟨i, hi⟩ := read_wd F ha
  rw [hi]
  unfold Datum.toInt Datum.integral
  simp only
  rw [show (-(i : Int)).toNat = 0 by omega, show (- -(i : Int)).toNat = i by omega, Nat.shiftLeft_eq, Nat.pow_zero, Nat.mul_one, cut_exact]
  have := signed_rep (s := decide (a < 0)) (mag := a.natAbs) (j := 0) (n := a) (by have := abs_rep a 0; rw [Nat.pow_zero, Nat.mul_one] at this; rw [Nat.pow_zero]; exact this) 0
  rw [this]; simp
theorem integral_wd {f : Format} (F : Fine f) (w : Toward) {a : Int} (ha : a.natAbs < 2 ^ (f.fractionBits + 1)) : f.write ((f.read (wd f a)).integral w) = wd f a := by
  obtain ⟨i, hi⟩ := read_wd F ha
  rw [hi]
  unfold Datum.integral
  simp only
  rw [show (-(i : Int)).toNat = 0 by omega, show (- -(i : Int)).toNat = i by omega, Nat.shiftLeft_eq, Nat.pow_zero, Nat.mul_one, cut_exact]
  rfl
/-- from one format to another -/
theorem other_wd {f g : Format} (F : Fine f) (G : Fine g) {a : Int} (ha : a.natAbs < 2 ^ (f.fractionBits + 1)) (hg : a.natAbs < 2 ^ (g.fractionBits + 1)) : g.write (f.read (wd f a)) = wd g a := by
  obtain ⟨i, hi⟩ := read_wd F ha
  rw [hi]
  show g.nearest _ _ _ = _
  rw [nearest_same G _ hg]
  rfl
end Go.Proofs.Ythgnemkfaiejbaa
