/-
  TraceSums: the ways put together.
-/
import Derived.Test.YthgnemkfaiejbaaTraceSumsA
import Derived.Test.YthgnemkfaiejbaaTraceSumsB
import Derived.Test.YthgnemkfaiejbaaTraceSumsC
import Derived.Test.YthgnemkfaiejbaaTraceSumsD
import Derived.Test.YthgnemkfaiejbaaTraceSumsE
set_option linter.unusedVariables false
set_option linter.unusedSimpArgs false
namespace Go.Proofs.Ythgnemkfaiejbaa
open Go.RowKit

theorem frst2_cases {a b : Int} : frst [a, b] = if a = 0 then b else a := by
  unfold frst
  split
  · unfold frst
    split
    · rename_i h; rw [h]; rfl
    · rfl
  · rfl
theorem ldM_iff (x : Nat → Int) : ¬ 2047 < ldM x 64 ↔ ∀ k, k < 64 → (x k).natAbs ≤ 2047 := by
  have := ldM_le x 2047 (by decide) 64
  constructor
  · intro h k hk
    have := this.1 (by omega) k hk
    omega
  · intro h
    have := this.2 fun k hk => by have := h k hk; omega
    omega
theorem traceSums_any (w : World) (v0 : Value) (x : Nat → Int) (n : Nat) (hr0 : Hid (IRow w v0 x n)) (v1 : Value) (y : Nat → Int) (m : Nat) (hr1 : Hid (IRow w v1 y m)) (mo : Int) :
    Calls Try.prog 9 #[v0, v1, .int .i64 mo] w fun e w' => e = .returned (.bool true) ∧ Below w.heap.size w w' := by
  by_cases h : n ≤ 64 ∧ m ≤ 64
  · obtain ⟨hn, hm⟩ := h
    have kx : ∀ W, _ := fun W => checkTraceR_any (mkT x n) W (mkT_24 x n)
    have ky : ∀ W, _ := fun W => checkTraceR_any (mkT y m) W (mkT_24 y m)
    have ha : adE (mkT x n) (mkT y m) = if tE (mkT x n) 64 = 0 then tE (mkT y m) 64 else tE (mkT x n) 64 := frst2_cases
    have hs : sfE (mkT x n) mo = if tE (mkT x n) 64 = 0 then unl (inB mo (-64) 64) 2 else tE (mkT x n) 64 := frst2_cases
    by_cases cx : tE (mkT x n) 64 = 0
    · have hx := Lib.hid (tE_zero cx)
      rw [if_pos cx] at ha hs
      rw [cx] at kx
      by_cases hb : inB mo (-64) 64 = true
      · have hmo : mo.natAbs ≤ 64 := by have := of_decide_eq_true hb; omega
        have KS := Lib.hid (fun W => shifted_ok (mkT x n) mo W hx hmo)
        have KRS := Lib.hid (fun W => shiftedR_any (mkT x n) mo W hx hmo)
        by_cases cy : tE (mkT y m) 64 = 0
        · have hy := Lib.hid (tE_zero cy)
          rw [cy] at ky
          by_cases hL : 2047 < ldM (sumT (mkT x n) (mkT y m)) 64
          · exact traceSums_3a v0 v1 x y n m mo 8 (fun _ => 0) (shT (mkT x n) mo) w hr0 hr1 hn hm hb (Lib.hid fun W => added_large _ _ W hx hy hL) KS (Lib.hid kx) (Lib.hid ky) KRS
              (Lib.hid fun W => addedR_any _ _ _ W hx hy (Lib.hid fun _ => rfl) (Lib.hid fun h => absurd hL ((ldM_iff _).2 h)))
          · exact traceSums_3a v0 v1 x y n m mo 0 (sumT (mkT x n) (mkT y m)) (shT (mkT x n) mo) w hr0 hr1 hn hm hb (Lib.hid fun W => added_ok _ _ W hx hy hL) KS (Lib.hid kx) (Lib.hid ky) KRS
              (Lib.hid fun W => addedR_any _ _ _ W hx hy (Lib.hid fun ⟨k, hk, h⟩ => absurd ((ldM_iff _).1 hL k hk) (by unfold sumT; omega)) (Lib.hid fun _ => rfl))
        · rw [← ha] at ky
          have hne : adE (mkT x n) (mkT y m) ≠ 0 := ha ▸ cy
          exact traceSums_2a v0 v1 x y n m mo (adE (mkT x n) (mkT y m)) (shT (mkT x n) mo) w hr0 hr1 hn hm (by simpa using hne) hb (Lib.hid fun W => added_err _ _ W (mkT_24 x n) (mkT_24 y m) hne) KS (Lib.hid kx) (Lib.hid ky) KRS
      · have hb' : inB mo (-64) 64 = false := by simpa using hb
        have h2 : sfE (mkT x n) mo = 2 := by rw [hs, hb']; rfl
        have ks : ∀ W, _ := fun W => shifted_err (mkT x n) mo W (mkT_24 x n) (by rw [h2]; decide)
        rw [h2] at ks
        have KS := Lib.hid ks
        by_cases cy : tE (mkT y m) 64 = 0
        · have hy := Lib.hid (tE_zero cy)
          rw [cy] at ky
          by_cases hL : 2047 < ldM (sumT (mkT x n) (mkT y m)) 64
          · exact traceSums_3b v0 v1 x y n m mo 8 (fun _ => 0) w hr0 hr1 hn hm hb' (Lib.hid fun W => added_large _ _ W hx hy hL) KS (Lib.hid kx) (Lib.hid ky)
              (Lib.hid fun W => addedR_any _ _ _ W hx hy (Lib.hid fun _ => rfl) (Lib.hid fun h => absurd hL ((ldM_iff _).2 h)))
          · exact traceSums_3b v0 v1 x y n m mo 0 (sumT (mkT x n) (mkT y m)) w hr0 hr1 hn hm hb' (Lib.hid fun W => added_ok _ _ W hx hy hL) KS (Lib.hid kx) (Lib.hid ky)
              (Lib.hid fun W => addedR_any _ _ _ W hx hy (Lib.hid fun ⟨k, hk, h⟩ => absurd ((ldM_iff _).1 hL k hk) (by unfold sumT; omega)) (Lib.hid fun _ => rfl))
        · rw [← ha] at ky
          have hne : adE (mkT x n) (mkT y m) ≠ 0 := ha ▸ cy
          exact traceSums_2b v0 v1 x y n m mo (adE (mkT x n) (mkT y m)) w hr0 hr1 hn hm (by simpa using hne) hb' (Lib.hid fun W => added_err _ _ W (mkT_24 x n) (mkT_24 y m) hne) KS (Lib.hid kx) (Lib.hid ky)
    · rw [if_neg cx] at ha hs
      have hne : adE (mkT x n) (mkT y m) ≠ 0 := ha ▸ cx
      have hns : sfE (mkT x n) mo ≠ 0 := hs ▸ cx
      have ka : ∀ W, _ := fun W => added_err _ _ W (mkT_24 x n) (mkT_24 y m) hne
      have ks : ∀ W, _ := fun W => shifted_err (mkT x n) mo W (mkT_24 x n) hns
      rw [ha] at ka
      rw [hs] at ks
      exact traceSums_1 v0 v1 x y n m mo (tE (mkT x n) 64) (tE (mkT y m) 64) w hr0 hr1 hn hm (by simpa using cx) (Lib.hid ka) (Lib.hid ks) (Lib.hid kx) (Lib.hid ky)
  · exact traceSums_out v0 v1 x y n m mo w hr0 hr1 h
end Go.Proofs.Ythgnemkfaiejbaa
