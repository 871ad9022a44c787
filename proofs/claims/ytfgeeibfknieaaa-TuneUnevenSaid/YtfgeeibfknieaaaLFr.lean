/-
  ARGUMENTS OPENED: slices of integers, as lists.
-/
import Derived.Test.YtfgeeibfknieaaaFr
import Derived.Test.YtfgeeibfknieaaaAgL
set_option linter.unusedVariables false
set_option maxRecDepth 100000
set_option linter.unusedSimpArgs false
namespace Go.Proofs.Ytfgeeibfknieaaa
open Go.ChangeShapes Go.WideShapes Go.ChangeAt Go.RowKit Go.Joins Go.Deep

/-- a slice that reads as n integers -/
def IRow (w : World) (v : Value) (x : Nat → Int) (n : Nat) : Prop := ∃ q c, v = .slice q n c ∧ (n ≤ c ∧ c ≤ maxLen) ∧ (n = 0 ∨ ∃ b o, q = some ⟨b, o, none⟩ ∧ b < w.heap.size ∧ ∀ i, i < n → w.cell? ⟨b, o + i, none⟩ = some (.int .i64 (x i)))
/-- as a list -/
theorem IRow.list {w : World} {v : Value} {x : Nat → Int} {n : Nat} (h : IRow w v x n) : ∃ (q : Option Addr) (c : Nat) (u : List Int), v = .slice q u.length c ∧ u.length = n ∧ u.length ≤ maxLen ∧ (u = [] ∨ ∃ b o, q = some ⟨b, o, none⟩ ∧ 0 < u.length ∧ (Ag.Cel.vue b o (Ag.iv u)).holds w) := by
  obtain ⟨q, c, rfl, ⟨h1, h2⟩, h3⟩ := h
  have hlen : ((List.range n).map x).length = n := by simp
  refine ⟨q, c, (List.range n).map x, by rw [hlen], hlen, by rw [hlen]; omega, ?_⟩
  rcases Nat.eq_zero_or_pos n with h0 | h0
  · subst h0; exact .inl rfl
  · rcases h3 with h3 | ⟨b, o, rfl, hb, hx⟩
    · omega
    · refine .inr ⟨b, o, rfl, by rw [hlen]; exact h0, hb, fun j u hu => ?_⟩
      unfold Ag.iv at hu
      rw [List.map_map, List.getElem?_map] at hu
      obtain ⟨i, hi, rfl⟩ := Option.map_eq_some_iff.1 hu
      have hj := (List.getElem?_eq_some_iff.1 hi)
      obtain ⟨hj1, hj2⟩ := hj
      have : i = j := by rw [← hj2]; simp
      subst this
      exact hx _ (by simpa using hj1)
section
variable {H : Type} {enc : TypeId × Value → H} {w : World} {base : Nat} {spare : Nat → Bool} {held : Bool}
theorem irow_open {r : Reach} {b0 : Nat} {t : TypeId} {v : Value} {d : DataW H} {p : List MemPlace} (ht : Try.prog.underlying t = some (.slice 3))
    (hv : Value.okWide Try.prog w r b0 t v) (h : DataW.Trod enc Try.prog w base spare held t v d p) : ∃ (x : Nat → Int) (n : Nat), IRow w v x n ∧ n ≤ maxLen ∧ ∀ k, k < n → -9223372036854775808 ≤ x k ∧ x k ≤ 9223372036854775807 := by
  obtain ⟨q, n, c, rfl, hl, hm, hq, hx⟩ := open_slice_flat ht iInt (by rw [cellsInt]; decide) hv h
  rw [cellsInt] at hx
  rcases Nat.eq_zero_or_pos n with h0 | h0
  · subst h0
    exact ⟨fun _ => 0, 0, ⟨q, c, rfl, ⟨hl, hm⟩, .inl rfl⟩, Nat.zero_le _, fun k hk => absurd hk (Nat.not_lt_zero _)⟩
  · obtain ⟨g, o, rfl, hg, f, hf⟩ := hx h0
    have hone : ∀ i, i < n → ∃ a, f i = [a] := fun i hi => by
      have := (hf i hi).1
      match hh : f i, this with
      | [a], _ => exact ⟨a, rfl⟩
    refine ⟨fun k => (f k)[0]?.getD 0, n, ⟨some ⟨g, o, none⟩, c, rfl, ⟨hl, hm⟩, .inr ⟨g, o, rfl, hg, fun i hi => ?_⟩⟩, Nat.le_trans hl hm, fun k hk => ?_⟩
    · obtain ⟨a, ha⟩ := hone i hi
      have := (hf i hi).2.2 0 (by decide)
      rw [ha] at this
      rw [show o + (i * 1 + 0) = o + i by omega] at this
      rw [this]
      show _ = some (Value.int .i64 ((f i)[0]?.getD 0))
      rw [ha]; rfl
    · obtain ⟨a, ha⟩ := hone k hk
      have := wf_in ((hf k hk).2.1 a (by rw [ha]; simp))
      show -9223372036854775808 ≤ (f k)[0]?.getD 0 ∧ (f k)[0]?.getD 0 ≤ 9223372036854775807
      rw [ha]
      exact this
end
end Go.Proofs.Ytfgeeibfknieaaa
