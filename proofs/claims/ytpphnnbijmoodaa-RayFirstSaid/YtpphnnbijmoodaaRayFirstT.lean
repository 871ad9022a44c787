/-
  FIRST: RayFirst returns true, for every list of modes.
-/
import Derived.Test.YtpphnnbijmoodaaRayFirstV
import Derived.Test.YtpphnnbijmoodaaEchoS
import Derived.Test.YtpphnnbijmoodaaSym
set_option linter.unusedVariables false
set_option linter.unusedSimpArgs false
namespace Go.Proofs.Ytpphnnbijmoodaa
open Go.RowKit

theorem mrow_open {W : World} {q : Option Addr} {n : Nat} (h : 0 < n → ∃ g o, q = some ⟨g, o, none⟩ ∧ g < W.heap.size ∧ ∃ f : Nat → List Int, ∀ i, i < n → (f i).length = 4 ∧ (∀ m ∈ f i, (Lit.int .i64 m).wf = true) ∧ ∀ j, j < 4 → W.cell? ⟨g, o + (i * 4 + j), none⟩ = ((f i).map (Value.int .i64))[j]?) : ∃ M : Nat → Md, MRow W q n M := by
  rcases Nat.eq_zero_or_pos n with h0 | h0
  · exact ⟨fun _ => ⟨0, 0, 0, 0⟩, fun h => absurd h0 (by omega)⟩
  · obtain ⟨g, o, hq, hg, f, hf⟩ := h h0
    refine ⟨fun k => ⟨(f k)[0]?.getD 0, (f k)[1]?.getD 0, (f k)[2]?.getD 0, (f k)[3]?.getD 0⟩, fun _ => ⟨g, o, hq, hg, fun k hk => ?_⟩⟩
    obtain ⟨hl, _, hc⟩ := hf k hk
    obtain ⟨a, b, c, d, e⟩ : ∃ a b c d, f k = [a, b, c, d] := by
      match f k, hl with
      | [a, b, c, d], _ => exact ⟨a, b, c, d, rfl⟩
    rw [e] at hc
    have c0 := hc 0 (by omega)
    have c1 := hc 1 (by omega)
    have c2 := hc 2 (by omega)
    have c3 := hc 3 (by omega)
    simp only [e]
    rw [Nat.add_assoc, Nat.add_assoc, Nat.add_assoc]
    exact ⟨c0, c1, c2, c3⟩
theorem gE_parts (m : Md) (fx fz tx tz : Int) : gE m fx fz tx tz = if mE m = 0 then wE m fx fz tx tz else mE m := by
  unfold gE
  by_cases h : mE m = 0
  · rw [if_pos h, h]
    by_cases h2 : wE m fx fz tx tz = 0 <;> simp [frst, h2]
  · rw [if_neg h]; simp [frst, h]
theorem rayFirst_any (M : Nat → Md) (p : Option Addr) (N cap : Nat) (fx fz tx tz : Int) (w : World) (hc : N ≤ cap ∧ cap ≤ maxLen) (hrow : MRow w p N M) (hp : p = none → N = 0 ∧ cap = 0) :
    Calls Try.prog 13 #[.slice p N cap, .agg #[.int .i64 fx, .int .i64 fz], .agg #[.int .i64 tx, .int .i64 tz]] w fun e w' => e = .returned (.bool true) ∧ Below w.heap.size w w' := by
  rcases Nat.lt_or_ge 10 N with h10 | h10
  · exact rayFirst_many p N cap fx fz tx tz w hc h10
  · by_cases hl : lE8 (N : Int) 8 = 0
    · have hN : 1 ≤ N ∧ N ≤ 8 := by
        unfold lE8 at hl
        rw [frst_zero] at hl
        simp only [List.mem_cons, List.not_mem_nil, or_false, forall_eq_or_imp, forall_eq, unl_zero (show (10 : Int) ≠ 0 by decide), unl_zero (show (8 : Int) ≠ 0 by decide), decide_eq_true_eq] at hl
        omega
      obtain ⟨a, rfl⟩ : ∃ a, p = some a := by
        cases p with
        | none => have := hp rfl; omega
        | some a => exact ⟨a, rfl⟩
      have KA : ∀ W p' cap', MRow W p' N M → N ≤ cap' → cap' ≤ maxLen → Calls Try.prog 61 #[.slice p' N cap', .agg #[.int .i64 fx, .int .i64 fz], .agg #[.int .i64 tx, .int .i64 tz]] W (FPost W (fun k => lsL (crM (M k) fx fz tx tz)) (fun k => lsH (crM (M k) fx fz tx tz)) (fun k => gE (M k) fx fz tx tz) N) :=
        fun W p' cap' h h1 h2 => mayBeFirst_walk M _ _ _ p' N cap' fx fz tx tz W ⟨h1, h2⟩ hN h
          (Lib.hid fun k _ hg W => LeastTime_ok (M k) fx fz tx tz W (gE_zero.1 hg).1 (gE_zero.1 hg).2)
          (Lib.hid fun k _ hg W => LeastTime_err (M k) fx fz tx tz W hg)
      have KB : ∀ W, MRow W (some a) N M → Calls Try.prog 62 #[.slice (some a) N cap, .agg #[.int .i64 fx, .int .i64 fz], .agg #[.int .i64 tx, .int .i64 tz]] W (FPost W (fun k => lsL (crM (M k) fx fz tx tz)) (fun k => lsH (crM (M k) fx fz tx tz)) (fun k => gE (M k) fx fz tx tz) N) :=
        fun W h => rmayBeFirst_walk M _ _ _ (fun k => mE (M k)) (fun k => wE (M k) fx fz tx tz) (some a) N cap fx fz tx tz W hc hN h
          (Lib.hid fun k => gE_parts (M k) fx fz tx tz)
          (Lib.hid fun k _ W => rcheckMode_any (M k) W)
          (Lib.hid fun k _ hm W => rwayErr_any (M k) fx fz tx tz W (mE_zero.1 hm))
          (Lib.hid fun k _ hg W => rleastTime_any (M k) fx fz tx tz W (gE_zero.1 hg).1 (gE_zero.1 hg).2)
      by_cases he : eF (fun k => gE (M k) fx fz tx tz) N = 0
      · refine rayFirst_okS M a N cap fx fz tx tz (selI (fun k => lsL (crM (M k) fx fz tx tz)) (mnF (fun k => lsH (crM (M k) fx fz tx tz)) N) N) ?_ w hc h10 hrow (Lib.hid fun W p' cap' h h1 h2 => (KA W p' cap' h h1 h2).mono fun e w' hf => ?_) (Lib.hid fun W h => (KB W h).mono fun e w' hf => ?_)
        · constructor
          · obtain ⟨k, hk, e⟩ := mnF_is (fun k => lsH (crM (M k) fx fz tx tz)) N (by omega)
            have g := gE_zero.1 (eF_zero he k hk)
            exact selI_pos hk (by rw [e]; exact ls_le (okC_of g.1 g.2))
          · exact Nat.le_trans (selI_len _ _ _) (by omega)
        · rcases hf with ⟨_, h⟩ | ⟨h, _⟩
          · exact h
          · exact absurd he h
        · rcases hf with ⟨_, h⟩ | ⟨h, _⟩
          · exact h
          · exact absurd he h
      · refine rayFirst_errS M a N cap fx fz tx tz (eF (fun k => gE (M k) fx fz tx tz) N) w hc h10 hrow he (Lib.hid fun W p' cap' h h1 h2 => (KA W p' cap' h h1 h2).mono fun e w' hf => ?_) (Lib.hid fun W h => (KB W h).mono fun e w' hf => ?_)
        · rcases hf with ⟨h, _⟩ | ⟨_, h⟩
          · exact absurd h he
          · exact h
        · rcases hf with ⟨h, _⟩ | ⟨_, h⟩
          · exact absurd h he
          · exact h
    · cases p with
      | none =>
        obtain ⟨rfl, rfl⟩ := hp rfl
        exact rayFirst_errN M fx fz tx tz (lE8 ((0 : Nat) : Int) 8) w hl (Lib.hid fun W p' cap' h h1 h2 => mayBeFirst_len p' 0 cap' fx fz tx tz W ⟨h1, h2⟩ hl) (Lib.hid fun W h => rmayBeFirst_len none 0 0 fx fz tx tz W ⟨Nat.le_refl _, by unfold maxLen; omega⟩ hl)
      | some a =>
        exact rayFirst_errS M a N cap fx fz tx tz (lE8 (N : Int) 8) w hc h10 hrow hl (Lib.hid fun W p' cap' h h1 h2 => mayBeFirst_len p' N cap' fx fz tx tz W ⟨h1, h2⟩ hl) (Lib.hid fun W h => rmayBeFirst_len (some a) N cap fx fz tx tz W hc hl)
end Go.Proofs.Ytpphnnbijmoodaa
