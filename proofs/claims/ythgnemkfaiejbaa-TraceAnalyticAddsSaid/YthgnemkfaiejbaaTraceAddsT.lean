/-
  TraceAnalyticAdds: the ways put together.
-/
import Derived.Test.YthgnemkfaiejbaaTraceAdds
set_option linter.unusedVariables false
set_option linter.unusedSimpArgs false
namespace Go.Proofs.Ythgnemkfaiejbaa
open Go.RowKit

theorem adE_parts {x y : Nat → Int} (h : adE x y = 0) : tE x 64 = 0 ∧ tE y 64 = 0 := frst2_eq0 h
theorem traceAdds_any (w : World) (v0 : Value) (x : Nat → Int) (n : Nat) (hr0 : Hid (IRow w v0 x n)) (v1 : Value) (y : Nat → Int) (m : Nat) (hr1 : Hid (IRow w v1 y m)) (by' : Int) :
    Calls Try.prog 12 #[v0, v1, .int .i64 by'] w fun e w' => e = .returned (.bool true) ∧ Below w.heap.size w w' := by
  by_cases h : n ≤ 64 ∧ m ≤ 64 ∧ inB by' 0 60 = true
  · obtain ⟨hn, hm, hb⟩ := h
    by_cases hE : adE (mkT x n) (mkT y m) = 0
    · obtain ⟨h1, h2⟩ := adE_parts hE
      have hx := Lib.hid (tE_zero h1)
      have hy := Lib.hid (tE_zero h2)
      by_cases hL : 2047 < ldM (sumT (mkT x n) (mkT y m)) 64
      · exact traceAdds_err v0 v1 x y n m by' 8 (tC fun _ => 0) w hr0 hr1 hn hm hb (by decide) (Lib.hid (tC_size _)) (Lib.hid (tC_one _)) (Lib.hid fun W => added_large (mkT x n) (mkT y m) W hx hy hL)
      · obtain ⟨b, rfl⟩ : ∃ b : Nat, by' = b := by
          have := of_decide_eq_true hb
          exact ⟨by'.toNat, by omega⟩
        have := of_decide_eq_true hb
        refine traceAdds_ok v0 v1 x y n m b w hr0 hr1 hn hm (by omega) hx hy (Lib.hid fun k hk => ?_) hL
        have := (ldM_le (sumT (mkT x n) (mkT y m)) 2047 (by decide) 64).1 (by omega) k hk
        omega
    · exact traceAdds_err v0 v1 x y n m by' (adE (mkT x n) (mkT y m)) (tC fun _ => 0) w hr0 hr1 hn hm hb (by simpa using hE) (Lib.hid (tC_size _)) (Lib.hid (tC_one _)) (Lib.hid fun W => added_err (mkT x n) (mkT y m) W (mkT_24 x n) (mkT_24 y m) hE)
  · exact traceAdds_out v0 v1 x y n m by' w hr0 hr1 h
end Go.Proofs.Ythgnemkfaiejbaa
