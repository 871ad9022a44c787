/-
  ARGUMENTS OPENED: slices of integers.
-/
import Derived.Test.YthgnemkfaiejbaaFr
import Derived.Test.YthgnemkfaiejbaaTRow
set_option linter.unusedVariables false
set_option maxRecDepth 100000
set_option linter.unusedSimpArgs false
namespace Go.Proofs.Ythgnemkfaiejbaa
open Go.ChangeShapes Go.WideShapes Go.ChangeAt Go.RowKit Go.Joins Go.Deep

section
variable {H : Type} {enc : TypeId × Value → H} {w : World} {base : Nat} {spare : Nat → Bool} {held : Bool}
theorem irow_open {r : Reach} {b0 : Nat} {t : TypeId} {v : Value} {d : DataW H} {p : List MemPlace} (ht : Try.prog.underlying t = some (.slice 3))
    (hv : Value.okWide Try.prog w r b0 t v) (h : DataW.Trod enc Try.prog w base spare held t v d p) : ∃ (x : Nat → Int) (n : Nat), IRow w v x n ∧ n ≤ maxLen ∧ ∀ k, k < n → -9223372036854775808 ≤ x k ∧ x k ≤ 9223372036854775807 := by
  obtain ⟨q, n, c, rfl, hl, hm, hq, hx⟩ := open_slice_flat ht iInt (by rw [cellsInt]; decide) hv h
  rw [cellsInt] at hx
  rcases Nat.eq_zero_or_pos n with h0 | h0
  · subst h0
    exact ⟨fun _ => 0, 0, ⟨q, c, rfl, ⟨hl, hm⟩, .inl rfl⟩, Nat.zero_le _, fun k hk => absurd hk (Nat.not_lt_zero _)⟩
  · obtain ⟨g, o, rfl, hg, f, hf⟩ := hx h0
    have hone : ∀ i, i < n → ∃ a, f i = [a] := fun i hi => by
      have := (hf i hi).1
      match hh : f i, this with
      | [a], _ => exact ⟨a, rfl⟩
    refine ⟨fun k => (f k)[0]?.getD 0, n, ⟨some ⟨g, o, none⟩, c, rfl, ⟨hl, hm⟩, .inr ⟨g, o, rfl, hg, fun i hi => ?_⟩⟩, Nat.le_trans hl hm, fun k hk => ?_⟩
    · obtain ⟨a, ha⟩ := hone i hi
      have := (hf i hi).2.2 0 (by decide)
      rw [ha] at this
      rw [show o + (i * 1 + 0) = o + i by omega] at this
      rw [this]
      show _ = some (Value.int .i64 ((f i)[0]?.getD 0))
      rw [ha]; rfl
    · obtain ⟨a, ha⟩ := hone k hk
      have := wf_in ((hf k hk).2.1 a (by rw [ha]; simp))
      show -9223372036854775808 ≤ (f k)[0]?.getD 0 ∧ (f k)[0]?.getD 0 ≤ 9223372036854775807
      rw [ha]
      exact this
end
end Go.Proofs.Ythgnemkfaiejbaa
