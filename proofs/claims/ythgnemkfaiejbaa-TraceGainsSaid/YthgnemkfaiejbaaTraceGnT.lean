/-
  TraceGains: the ways put together.
-/
import Derived.Test.YthgnemkfaiejbaaTraceGnA
import Derived.Test.YthgnemkfaiejbaaTraceGnB
import Derived.Test.YthgnemkfaiejbaaTraceGnC
set_option linter.unusedVariables false
set_option linter.unusedSimpArgs false
namespace Go.Proofs.Ythgnemkfaiejbaa
open Go.RowKit

theorem frst_2 {a b : Int} : frst [a, b] = if a = 0 then b else a := by
  unfold frst
  split
  · unfold frst
    split
    · rename_i h; rw [h]; rfl
    · rfl
  · rfl
theorem gnE_one : gnE 1 1 = 0 := by
  have h : gcdR 1 1 = 1 := by
    rw [gcdR_step 1 1 (by decide), Int.tmod_one, gcdR_zero]; rfl
  unfold gnE lowB
  rw [h]
  rfl
theorem gC_one {n : Int} (hn : n.natAbs ≤ 2047) : gW n 1 1 = n ∧ gC n 1 1 = n := by
  have e : gW n 1 1 = n := by unfold gW; omega
  refine ⟨e, ?_⟩
  unfold gC
  rw [e]
  omega
theorem gK_one {x : Nat → Int} (hx : ∀ k, k < 64 → (x k).natAbs ≤ 2047) : ∀ k, k ≤ 64 → gK x 1 1 k = 0
  | 0, _ => rfl
  | k + 1, h => by
    have := gC_one (hx k (by omega))
    show gK x 1 1 k + _ = 0
    rw [gK_one hx k (by omega), if_pos (by rw [this.1, this.2])]
    rfl
theorem gained_one (x : Nat → Int) (w : World) (hx : Hid (∀ k, k < 64 → (x k).natAbs ≤ 2047)) :
    Calls Try.prog 56 #[.agg (tC x), .agg #[.int .i64 1, .int .i64 1]] w fun e w' => e = .returned (.tuple #[.agg (tC x), .int .i64 0, .int .i64 0]) ∧ Below w.heap.size w w' := by
  have h := gained_ok x 1 1 w hx (by unfold in64; omega) (by unfold in64; omega) gnE_one
  rw [gK_one hx.out 64 (Nat.le_refl _), show tC (fun k => gC (x k) 1 1) = tC x from tC_congr fun i hi => (gC_one (hx.out i hi)).2] at h
  exact h
theorem traceGains_any (w : World) (v0 : Value) (x : Nat → Int) (n : Nat) (hr0 : Hid (IRow w v0 x n)) (f t : Int) (hR : in64 f ∧ in64 t) :
    Calls Try.prog 10 #[v0, .agg #[.int .i64 f, .int .i64 t]] w fun e w' => e = .returned (.bool true) ∧ Below w.heap.size w w' := by
  by_cases hn : n ≤ 64
  · have kx : ∀ W, _ := fun W => checkTraceR_any (mkT x n) W (mkT_24 x n)
    by_cases cx : tE (mkT x n) 64 = 0
    · have hx := Lib.hid (tE_zero cx)
      rw [cx] at kx
      have he : gdE (mkT x n) f t = gnE f t := by unfold gdE; rw [frst_2, if_pos cx]
      have kg : ∀ W, _ := fun W => gainErrR_any f t W hR.1 hR.2
      by_cases cg : gnE f t = 0
      · rw [cg] at kg
        obtain ⟨b1, b2, -⟩ := gnE_ok cg
        exact traceGn_ok v0 x n f t _ _ w hr0 hn (Lib.hid fun W => gained_ok (mkT x n) f t W hx hR.1 hR.2 cg) (Lib.hid fun W => gained_one (mkT x n) W hx) (Lib.hid kx) (Lib.hid kg) (Lib.hid fun W => gainedR_any (mkT x n) f t W hx b1 b2)
      · have ke : ∀ W, _ := fun W => gained_err (mkT x n) f t W (mkT_24 x n) hR.1 hR.2 (by rw [he]; exact cg)
        rw [he] at ke
        exact traceGn_gain v0 x n f t _ w hr0 hn (by simpa using cg) (Lib.hid ke) (Lib.hid fun W => gained_one (mkT x n) W hx) (Lib.hid kx) (Lib.hid kg)
    · have he : ∀ a b, gdE (mkT x n) a b = tE (mkT x n) 64 := fun a b => by unfold gdE; rw [frst_2, if_neg cx]
      have ke : ∀ W, _ := fun W => gained_err (mkT x n) f t W (mkT_24 x n) hR.1 hR.2 (by rw [he]; exact cx)
      have ko : ∀ W, _ := fun W => gained_err (mkT x n) 1 1 W (mkT_24 x n) (by unfold in64; omega) (by unfold in64; omega) (by rw [he]; exact cx)
      rw [he] at ke ko
      exact traceGn_err v0 x n f t _ w hr0 hn (by simpa using cx) (Lib.hid ke) (Lib.hid ko) (Lib.hid kx)
  · exact traceGn_out v0 x n f t w hr0 hn
end Go.Proofs.Ythgnemkfaiejbaa
