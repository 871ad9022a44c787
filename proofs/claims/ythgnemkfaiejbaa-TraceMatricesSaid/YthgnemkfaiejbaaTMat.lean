/-
  MATRICES told by few samples: few; Made.Matrix.
-/
import Derived.Test.YthgnemkfaiejbaaTFc
import Derived.Test.YthgnemkfaiejbaaTAwake
import Derived.Test.YthgnemkfaiejbaaTReg3
import Derived.Deep.OwnRows
set_option linter.unusedVariables false
set_option linter.unusedSimpArgs false
namespace Go.Proofs.Ythgnemkfaiejbaa
open Go.RowKit

/-- a slice that reads as n pairs -/
def PRow (w : World) (v : Value) (s : Nat → Int × Int) (n : Nat) : Prop := ∃ q c, v = .slice q n c ∧ (n ≤ c ∧ c ≤ maxLen) ∧ (∀ i, i < n → -9223372036854775808 ≤ (s i).1 ∧ (s i).1 ≤ 9223372036854775807) ∧ (n = 0 ∨ ∃ b o, q = some ⟨b, o, none⟩ ∧ b < w.heap.size ∧ ∀ i, i < n → w.cell? ⟨b, o + i * 2, none⟩ = some (.int .i64 (s i).1) ∧ w.cell? ⟨b, o + i * 2 + 1, none⟩ = some (.int .i64 (s i).2))
theorem PRow.below {w w' : World} {v : Value} {s : Nat → Int × Int} {n : Nat} (h : PRow w v s n) (hb : Below w.heap.size w w') : PRow w' v s n := by
  obtain ⟨q, c, rfl, hc, hu, h⟩ := h
  refine ⟨q, c, rfl, hc, hu, ?_⟩
  rcases h with h | ⟨b, o, rfl, hlt, hx⟩
  · exact .inl h
  · exact .inr ⟨b, o, rfl, Nat.lt_of_lt_of_le hlt hb.size, fun i hi => ⟨(hb.cell (p := ⟨b, o + i * 2, none⟩) hlt).trans (hx i hi).1, (hb.cell (p := ⟨b, o + i * 2 + 1, none⟩) hlt).trans (hx i hi).2⟩⟩
theorem modB_full (n b : Int) (w : World) (hb : 1 ≤ b) (lo : -9223372036854775808 ≤ n) (hi : n ≤ 9223372036854775807) (hb2 : b ≤ 4611686018427387903) :
    Calls Try.prog 86 #[.int .i64 n, .int .i64 b] w fun e w' => e = .returned (.int .i64 (n % b)) ∧ w = w' := by
  have hb0 : ¬ b = 0 := by omega
  have h1 := Int.tmod_lt_of_pos n (show 0 < b by omega)
  have h2 := Int.lt_tmod_of_pos n (show 0 < b by omega)
  by_cases h : n.tmod b < 0
  · have e := emod_neg n b hb h
    have e0 : Hid (n.tmod b + b = n % b) := e
    clear e
    go_enter Try.func86, Try.ntmps86
    go_wp2
    go_ret
    exact ⟨ri (e0.out), rfl⟩
  · have e := emod_pos n b hb h
    have e0 : Hid (n.tmod b = n % b) := e
    clear e
    go_enter Try.func86, Try.ntmps86
    go_wp2
    go_ret
    exact ⟨ri (e0.out), rfl⟩
/-- how many samples; what they are when k of those told are laid, and k of the raw ones -/
def mN (E M : Int) : Nat := (max 0 (max (-1) (min 1 M) + if inB E 1 3 = true then E * E * 64 else 0)).toNat
def mS (s : Nat → Int × Int) (N : Nat) : Nat → Nat → Nat
  | 0 => fun _ => wd Ieee.single 0
  | k + 1 => up (mS s N k) ((s k).1 % (N : Int)).toNat (wd Ieee.single (max (-4000) (min 4000 (s k).2)))
def mR (U r : Nat → Nat) (k : Nat) : Nat → Nat := fun i => if i < k then r i else U i
theorem mR_succ (U r : Nat → Nat) (N : Nat) {k : Nat} (h : k < N) : (fC (mR U r k) N).setIfInBounds k (.float .f32 (r k)) = fC (mR U r (k + 1)) N := by
  rw [fC_set _ _ h]
  exact fC_congr fun i _ => by
    unfold up mR
    by_cases c : i = k
    · rw [if_pos c, if_pos (by omega), c]
    · rw [if_neg c]
      by_cases d : i < k
      · rw [if_pos d, if_pos (by omega)]
      · rw [if_neg d, if_neg (by omega)]
theorem mN_bd (E M : Int) : mN E M ≤ 577 := by
  unfold mN inB
  by_cases c : 1 ≤ E ∧ E ≤ 3
  · have h1 : E * E ≤ 3 * 3 := Int.mul_le_mul c.2 c.2 (by omega) (by omega)
    have h2 : 0 ≤ E * E := Int.mul_nonneg (by omega) (by omega)
    simp only [c, and_self, decide_true, if_true]
    omega
  · rw [if_neg (by simpa using c)]
    omega
theorem wd_bd (n : Int) : wd Ieee.single n < 2 ^ 32 := Ieee.single.nearest_lt _ _ _
theorem mS_bd (s : Nat → Int × Int) (N : Nat) : ∀ k i, mS s N k i < 2 ^ 32
  | 0, i => wd_bd 0
  | k + 1, i => by
    show up _ _ _ _ < _
    unfold up
    split
    · exact wd_bd _
    · exact mS_bd s N k i
/-- all of it -/
def mU (E M : Int) (s : Nat → Int × Int) (n : Nat) (r : Nat → Nat) (m : Nat) : Nat → Nat := mR (mS s (mN E M) n) r (min m (mN E M))
theorem mU_bd (E M : Int) (s : Nat → Int × Int) (n : Nat) {r : Nat → Nat} {m : Nat} (hr : ∀ i, i < m → r i < 2 ^ 32) (i : Nat) : mU E M s n r m i < 2 ^ 32 := by
  unfold mU mR
  split
  · exact hr i (by omega)
  · exact mS_bd _ _ _ _
theorem few_any (E M : Int) (q1 q2 : Option Addr) (n c1 m c2 : Nat) (w : World) :
    Calls Try.prog 24 #[.agg #[.int .i64 E, .slice q1 n c1, .slice q2 m c2, .int .i64 M]] w fun e w' => e = .returned (.bool (decide (n ≤ 40 ∧ m ≤ 200))) ∧ Below w.heap.size w w' := by
  by_cases h1 : n ≤ 40
  · have d1 : (n : Int) ≤ 40 := by omega
    by_cases h2 : m ≤ 200
    · have d2 : (m : Int) ≤ 200 := by omega
      rw [decide_eq_true ⟨h1, h2⟩]
      clear h1 h2
      go_enter Try.func24, Try.ntmps24
      go_wp2
      go_ret
      exact ⟨rfl, by (repeat' (first | (with_reducible exact Below.refl _ _) | (with_reducible assumption) | (with_reducible refine Below.alloc ?_ ?_ _) | (with_reducible refine Below.drew ?_) | (with_reducible refine below_drewN ?_ _) | (with_reducible refine Below.setCell ?_ ?_ _) | (with_reducible refine below_step (by with_reducible assumption) ?_ ?_) | (with_reducible exact Below.size (by with_reducible assumption)) | go_size))⟩
    · have d2 : ¬ (m : Int) ≤ 200 := by omega
      rw [decide_eq_false (by omega)]
      clear h1 h2
      go_enter Try.func24, Try.ntmps24
      go_wp2
      go_ret
      exact ⟨rfl, by (repeat' (first | (with_reducible exact Below.refl _ _) | (with_reducible assumption) | (with_reducible refine Below.alloc ?_ ?_ _) | (with_reducible refine Below.drew ?_) | (with_reducible refine below_drewN ?_ _) | (with_reducible refine Below.setCell ?_ ?_ _) | (with_reducible refine below_step (by with_reducible assumption) ?_ ?_) | (with_reducible exact Below.size (by with_reducible assumption)) | go_size))⟩
  · have d1 : ¬ (n : Int) ≤ 40 := by omega
    rw [decide_eq_false (by omega)]
    clear h1
    go_enter Try.func24, Try.ntmps24
    go_wp2
    go_ret
    exact ⟨rfl, by (repeat' (first | (with_reducible exact Below.refl _ _) | (with_reducible assumption) | (with_reducible refine Below.alloc ?_ ?_ _) | (with_reducible refine Below.drew ?_) | (with_reducible refine below_drewN ?_ _) | (with_reducible refine Below.setCell ?_ ?_ _) | (with_reducible refine below_step (by with_reducible assumption) ?_ ?_) | (with_reducible exact Below.size (by with_reducible assumption)) | go_size))⟩
end Go.Proofs.Ythgnemkfaiejbaa
