/-
  TraceLags: the ways put together.
-/
import Derived.Test.YthgnemkfaiejbaaTraceLagsO
import Derived.Test.YthgnemkfaiejbaaTraceTimes
set_option linter.unusedVariables false
set_option linter.unusedSimpArgs false
namespace Go.Proofs.Ythgnemkfaiejbaa
open Go.RowKit

theorem frst3_cases {a b c : Int} : frst [a, b, c] = if a = 0 then if b = 0 then c else b else a := by
  unfold frst
  split
  · unfold frst
    split
    · unfold frst
      split
      · rename_i h; rw [h]; rfl
      · rfl
    · rfl
  · rfl
theorem traceLags_any (w : World) (v0 : Value) (x : Nat → Int) (n : Nat) (hr0 : Hid (IRow w v0 x n)) (v1 : Value) (y : Nat → Int) (m : Nat) (hr1 : Hid (IRow w v1 y m)) (mo : Int) :
    Calls Try.prog 15 #[v0, v1, .int .i64 mo] w fun e w' => e = .returned (.bool true) ∧ Below w.heap.size w w' := by
  by_cases h : n ≤ 64 ∧ m ≤ 64
  · obtain ⟨hn, hm⟩ := h
    have hL : laE (mkT x n) (mkT y m) mo = if tE (mkT x n) 64 = 0 then if tE (mkT y m) 64 = 0 then unl (inB mo 0 32) 2 else tE (mkT y m) 64 else tE (mkT x n) 64 := frst3_cases
    by_cases hE : laE (mkT x n) (mkT y m) mo = 0
    · have h1 : tE (mkT x n) 64 = 0 := by
        by_cases c : tE (mkT x n) 64 = 0
        · exact c
        · rw [hL, if_neg c] at hE; exact hE
      rw [if_pos h1] at hL
      have h2 : tE (mkT y m) 64 = 0 := by
        by_cases c : tE (mkT y m) 64 = 0
        · exact c
        · rw [hL, if_neg c] at hE; exact hE
      rw [if_pos h2] at hL
      rw [hL] at hE
      have hb := of_decide_eq_true (unl_two.1 hE)
      obtain ⟨b, rfl⟩ : ∃ b : Nat, mo = b := ⟨mo.toNat, by omega⟩
      exact traceLags_ok v0 v1 x y n m b w hr0 hr1 hn hm (by omega) (Lib.hid (tE_zero h1)) (Lib.hid (tE_zero h2))
    · have KD := Lib.hid (fun W => lagOf_err (mkT x n) (mkT y m) mo W (mkT_24 x n) (mkT_24 y m) hE)
      have KX := Lib.hid (fun W => checkTraceR_any (mkT x n) W (mkT_24 x n))
      have KY := Lib.hid (fun W => checkTraceR_any (mkT y m) W (mkT_24 y m))
      have b1 : (laE (mkT x n) (mkT y m) mo == 0) = false := by simpa using hE
      have b2 : (laE (mkT x n) (mkT y m) mo != 0) = true := by simpa using hE
      by_cases c1 : tE (mkT x n) 64 = 0
      · rw [if_pos c1] at hL
        by_cases c2 : tE (mkT y m) 64 = 0
        · rw [if_pos c2] at hL
          have hb : inB mo 0 32 = false := by
            cases hh : inB mo 0 32
            · rfl
            · rw [hL, hh] at hE; exact absurd rfl hE
          have h2 : laE (mkT x n) (mkT y m) mo = 2 := by rw [hL, hb]; rfl
          exact traceLags_e3 v0 v1 x y n m mo _ _ _ w hr0 hr1 hn hm c1 c2 h2 hb KD KX KY
        · rw [if_neg c2] at hL
          exact traceLags_e2 v0 v1 x y n m mo _ _ _ w hr0 hr1 hn hm b1 b2 c1 hL.symm KD KX KY
      · rw [if_neg c1] at hL
        exact traceLags_e1 v0 v1 x y n m mo _ _ _ w hr0 hr1 hn hm b1 b2 hL.symm KD KX KY
  · exact traceLags_out v0 v1 x y n m mo w hr0 hr1 h
end Go.Proofs.Ythgnemkfaiejbaa
