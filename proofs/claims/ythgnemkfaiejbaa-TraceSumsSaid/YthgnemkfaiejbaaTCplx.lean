/-
  COMPLEX SAMPLES: sums, and equal ones.
-/
import Derived.Test.YthgnemkfaiejbaaTMade
import Derived.Test.YthgnemkfaiejbaaTAdded
import Derived.Test.YthgnemkfaiejbaaTShift
import Derived.Test.YthgnemkfaiejbaaTQuar
import Derived.Laws.ComplexArith
set_option linter.unusedVariables false
set_option linter.unusedSimpArgs false
namespace Go.Proofs.Ythgnemkfaiejbaa
open Go.RowKit

theorem run_cadd {a b c d : Int} (ha : a.natAbs ≤ 10000) (hb : b.natAbs ≤ 10000) (hc : c.natAbs ≤ 10000) (hd : d.natAbs ≤ 10000) (w : World) : (binOp .add 91 (c64 a b) (c64 c d)).run Try.prog w = .ok (c64 (a + c) (b + d)) w :=
  run_complex_sum w .add (.inl rfl) _ .f32 _ _ _ _ _ _ (by
    have e1 : floatBits .add .f32 (wd Ieee.single a) (wd Ieee.single c) = some (wd Ieee.single (a + c)) := add_wd fine_single (by show _ < 16777216; omega) (by show _ < 16777216; omega) (by show _ < 16777216; omega)
    have e2 : floatBits .add .f32 (wd Ieee.single b) (wd Ieee.single d) = some (wd Ieee.single (b + d)) := add_wd fine_single (by show _ < 16777216; omega) (by show _ < 16777216; omega) (by show _ < 16777216; omega)
    unfold cSumBits
    rw [e1, e2]; rfl)
theorem run_cneq {a b : Int} (ha : a.natAbs ≤ 20000) (hb : b.natAbs ≤ 20000) (w : World) : (binOp .neq 91 (c64 a b) (c64 a b)).run Try.prog w = .ok (.bool false) w := by
  have e1 := same_order (n := a) (by omega)
  have e2 := same_order (n := b) (by omega)
  unfold c64
  generalize wd Ieee.single a = x at *
  generalize wd Ieee.single b = y at *
  simp [binOp, Op.complexOp, Op.Complex.cmp, Op.floatCmp, go_sem, e1, e2]
theorem anP_sum (x y : Nat → Int) (n : Nat) : anP (sumT x y) n = anP x n + anP y n := by unfold anP sumT; omega
theorem anQ_sum (x y : Nat → Int) (n : Nat) : anQ (sumT x y) n = anQ x n + anQ y n := by unfold anQ sumT; omega
theorem shT_at (x : Nat → Int) (m : Nat) {k : Nat} (h : m ≤ k) (hk : k < 64) : shT x (m : Int) k = x (k - m) := by
  unfold shT
  rw [if_pos (by unfold inB; exact decide_eq_true (by omega)), show ((k : Int) - (m : Int)).toNat = k - m by omega]
theorem anP_sh (x : Nat → Int) (m n : Nat) (h : m ≤ n) (hn : n < 61) : anP (shT x (m : Int)) n = anP x (n - m) := by
  unfold anP
  rw [shT_at x m h (by omega), shT_at x m (by omega) (by omega), show n + 2 - m = n - m + 2 by omega]
theorem anQ_sh (x : Nat → Int) (m n : Nat) (h : m ≤ n) (hn : n < 61) : anQ (shT x (m : Int)) n = anQ x (n - m) := by
  unfold anQ
  rw [shT_at x m (by omega) (by omega), shT_at x m (by omega) (by omega), show n + 1 - m = n - m + 1 by omega, show n + 3 - m = n - m + 3 by omega]
theorem an_bd {x : Nat → Int} (hx : ∀ k, k < 64 → (x k).natAbs ≤ 2047) {n : Nat} (h : n < 61) : (anP x n).natAbs ≤ 4094 ∧ (anQ x n).natAbs ≤ 4094 := (anS_bd hx h).1
end Go.Proofs.Ythgnemkfaiejbaa
