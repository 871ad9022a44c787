/-
  NO WAY IS FASTER: the legs of a way by any places of the walls, added up.
-/
import Derived.Test.YtpphnnbijmoodaaStraight
import Derived.Test.YtpphnnbijmoodaaSym
import Derived.Test.YtpphnnbijmoodaaWay
set_option linter.unusedVariables false
set_option linter.unusedSimpArgs false
namespace Go.Proofs.Ytpphnnbijmoodaa
open Go.RowKit

/-- the depth of the wall number k: the surface, the back wall, and so on -/
def alt (k : Nat) (T : Int) : Int := if k % 2 = 1 then T else 0
theorem alt_succ (k : Nat) (T : Int) : alt (k + 1) T = if k % 2 = 0 then T else 0 := by
  unfold alt
  by_cases h : k % 2 = 0
  · rw [if_pos (by omega), if_pos h]
  · rw [if_neg (by omega), if_neg h]
theorem lHi_alt (a : Int) (k : Nat) (T : Int) : lHi a (alt (k + 1) T - alt k T) = lHi a T := by
  rw [alt_succ]
  unfold alt
  by_cases h : k % 2 = 0
  · rw [if_pos h, if_neg (by omega), Int.sub_zero]
  · rw [if_neg h, if_pos (by omega), show 0 - T = -T by omega, lHi_neg2]
theorem lHi_last (a : Int) (k : Nat) (T z : Int) : lHi a (z - alt k T) = lHi a (if k % 2 = 1 then T - z else z) := by
  unfold alt
  by_cases h : k % 2 = 1
  · rw [if_pos h, if_pos h, show z - T = -(T - z) by omega, lHi_neg2]
  · rw [if_neg h, if_neg h, Int.sub_zero]
/-- what has been added so far is not less than the straight way of the unfolded plate -/
def Way0 (fx hz V M s : Int) (p : Int) (k : Nat) (T A : Int) : Prop := tup (lHi (s - fx) hz) V + tup (lHi (p - s) ((k : Int) * T)) M ≤ A
theorem way0_start {fx hz V M s T : Int} : Way0 fx hz V M s s 0 T (tup (lHi (s - fx) hz) V) := by
  unfold Way0
  have z1 : lHi 0 0 = 0 := by
    have := lHi_le (x := 0) (z := 0) (m := 0) (by omega) (by omega) (by omega) (by unfold sqm; decide)
    have h2 := len_spec (x := 0) (z := 0) (by omega) (by omega)
    omega
  have z2 : tup 0 M = 0 := by unfold tup cdiv; simp
  rw [Int.sub_self, show ((0 : Nat) : Int) * T = 0 by simp, z1, z2]
  omega
theorem way0_step {fx hz V M s p q T A : Int} {k : Nat} (h : Way0 fx hz V M s p k T A) (hM : 1 ≤ M) (hs : -50000 ≤ s ∧ s ≤ 50000) (hp : -50000 ≤ p ∧ p ≤ 50000) (hq : -50000 ≤ q ∧ q ≤ 50000) (hT : 2 ≤ T ∧ T ≤ 20000) (hk : k ≤ 4) :
    Way0 fx hz V M s q (k + 1) T (A + tup (lHi (q - p) (alt (k + 1) T - alt k T)) M) := by
  unfold Way0 at *
  rw [lHi_alt]
  have b : 0 ≤ (k : Int) * T ∧ (k : Int) * T ≤ 80000 := by
    have := prod_bd (a := (k : Int)) (b := T) (A := 4) (B := 20000) (by omega) (by omega) (by omega) (by omega)
    omega
  have e : ((k + 1 : Nat) : Int) * T = (k : Int) * T + T := by rw [Int.natCast_add, Int.add_mul]; simp
  have l := tup_legs (a := p - s) (b := (k : Int) * T) (c := q - p) (d := T) hM (by omega) (by omega) (by omega) (by omega) (by omega) (by omega)
  rw [e]
  rw [show p - s + (q - p) = q - s by omega] at l
  omega
theorem way0_end {m : Md} {fx fz tx tz s p A : Int} (hm : okM m) (hw : okW m fx fz tx tz) (h : Way0 fx (0 - fz) m.Wedge m.Metal s p m.Skips.toNat m.Thick A) (hs : -50000 ≤ s ∧ s ≤ 50000) (hp : -50000 ≤ p ∧ p ≤ 50000) :
    lsL (crM m fx fz tx tz) ≤ A + tup (lHi (tx - p) (tz - alt m.Skips.toNat m.Thick)) m.Metal := by
  have hx := okC_of hm hw
  have hu := unf_bd hm hw.2.2.2
  have hst := st_bd hm
  unfold Way0 at h
  rw [lHi_last]
  have e0 : ((m.Skips.toNat : Nat) : Int) = m.Skips := by have := hm.2.2.1; omega
  rw [e0] at h
  have g := lsL_le hx (t := s) (by have := hx.1; show -200000 ≤ s - fx ∧ s - fx ≤ 200000; have : (crM m fx fz tx tz).X1 = fx := rfl; omega) (by have := hx.2.1; show -200000 ≤ tx - s ∧ tx - s ≤ 200000; have : (crM m fx fz tx tz).X2 = tx := rfl; omega)
  have b1 := hw.2.1.1
  have b2 := hw.2.2.2
  have b3 := hm.2.2.2
  have b4 := hm.2.1
  have b5 := hm.2.2.1
  have e : tH (crM m fx fz tx tz) s = tup (lHi (s - fx) (0 - fz)) m.Wedge + tup (lHi (tx - s) (unf m tz)) m.Metal := by
    unfold tH crM
    simp only
    rw [show (0 : Int) - fz = -fz by omega]
  have eu : unf m tz = m.Skips * m.Thick + (if m.Skips.toNat % 2 = 1 then m.Thick - tz else tz) := by
    unfold unf
    by_cases h : m.Skips % 2 = 1
    · rw [if_pos h, if_pos (by omega)]
    · rw [if_neg h, if_neg (by omega)]
  rw [e, eu] at g
  have d1 : 1 ≤ (if m.Skips.toNat % 2 = 1 then m.Thick - tz else tz) ∧ (if m.Skips.toNat % 2 = 1 then m.Thick - tz else tz) ≤ 20000 := by split <;> omega
  generalize (if m.Skips.toNat % 2 = 1 then m.Thick - tz else tz) = d at *
  have l := tup_legs (a := p - s) (b := m.Skips * m.Thick) (c := tx - p) (d := d) (v := m.Metal) (by omega) (by omega) (by omega) (by omega) (by omega) (by omega) (by omega)
  rw [show p - s + (tx - p) = tx - s by omega] at l
  omega
end Go.Proofs.Ytpphnnbijmoodaa
