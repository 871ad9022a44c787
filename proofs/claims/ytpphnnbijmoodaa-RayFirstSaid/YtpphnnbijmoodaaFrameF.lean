/-
  ARGUMENTS OPENED: slices of structs of whole numbers.
-/
import Derived.Test.YtpphnnbijmoodaaFrameE
import Derived.Deep.Slices
set_option linter.unusedVariables false
set_option linter.unusedSimpArgs false
namespace Go.Proofs.Ytpphnnbijmoodaa
open Go.ChangeShapes Go.WideShapes Go.ChangeAt Go.RowKit Go.Joins Go.Deep
section
variable {H : Type} {enc : TypeId × Value → H} {P : Program} {w : World} {base : Nat} {spare : Nat → Bool} {held : Bool}
theorem cell_spot {w : World} {a : Addr} {v : Value} (h : w.cell? a = some v) : a.spot = none ∧ a.block < w.heap.size := by
  unfold World.cell? at h
  split at h
  · rename_i hb
    refine ⟨?_, (Array.getElem?_eq_some_iff.1 hb).1⟩
    cases hs : a.spot with
    | none => rfl
    | some s => rw [hs] at h; simp at h
  · cases h
/-- a slice of elements that lie in whole numbers only, at every element -/
theorem open_slice_flat {r : Reach} {b0 : Nat} {t e : TypeId} {v : Value} {d : DataW H} {p : List MemPlace} (ht : P.underlying t = some (.slice e)) (hI : IntsT H enc P w base spare held e) (hpos : 0 < P.cellsOf e)
    (hv : Value.okWide P w r b0 t v) (h : DataW.Trod enc P w base spare held t v d p) :
    ∃ (q : Option Addr) (len cap : Nat), v = .slice q len cap ∧ len ≤ cap ∧ cap ≤ maxLen ∧ (q = none → len = 0 ∧ cap = 0) ∧
      (0 < len → ∃ g o, q = some ⟨g, o, none⟩ ∧ g < w.heap.size ∧ ∃ f : Nat → List Int, ∀ i, i < len → (f i).length = P.cellsOf e ∧ (∀ n ∈ f i, (Lit.int .i64 n).wf = true) ∧ ∀ j, j < P.cellsOf e → w.cell? ⟨g, o + (i * P.cellsOf e + j), none⟩ = ((f i).map (Value.int .i64))[j]?) := by
  obtain ⟨q, len, cap, rfl⟩ := okWide_slice ht hv
  obtain ⟨fuel, hf⟩ := h
  rcases open_slice ht hf with ⟨hcs, _⟩ | ⟨a, len', cap', m, n, D, Pl, hcs, hb, hl, hm, hmm, _, hx⟩
  · simp [Value.cells] at hcs
    obtain ⟨rfl, rfl, rfl⟩ := hcs
    exact ⟨none, 0, 0, rfl, Nat.le_refl _, by unfold maxLen; omega, fun _ => ⟨rfl, rfl⟩, fun h => absurd h (Nat.lt_irrefl _)⟩
  · simp [Value.cells] at hcs
    obtain ⟨rfl, rfl, rfl⟩ := hcs
    have hlm : len ≤ m := by rw [hmm]; split <;> omega
    refine ⟨_, _, _, rfl, hl, hm, (fun h => by cases h), fun h0 => ?_⟩
    have hex : ∀ i, i < m → ∃ l : List Int, l.length = P.cellsOf e ∧ (∀ n ∈ l, (Lit.int .i64 n).wf = true) ∧ ∀ j, j < P.cellsOf e → w.cell? (a.add (i * P.cellsOf e + j)) = (l.map (Value.int .i64))[j]? := by
      intro i hi
      obtain ⟨cs', hc, ht'⟩ := hx i hi
      obtain ⟨_, hcl, hat⟩ := World.cells?_some hc
      obtain ⟨l, hl', hw⟩ := ints_list (hI _ _ _ ht')
      subst hl'
      refine ⟨l, by simpa using hcl, hw, fun j hj => ?_⟩
      have := hat j hj
      rw [Go.Deep.add_add] at this
      exact this
    have hch : ∃ f : Nat → List Int, ∀ i, i < m → (f i).length = P.cellsOf e ∧ (∀ n ∈ f i, (Lit.int .i64 n).wf = true) ∧ ∀ j, j < P.cellsOf e → w.cell? (a.add (i * P.cellsOf e + j)) = ((f i).map (Value.int .i64))[j]? := by
      refine ⟨fun i => if hi : i < m then Classical.choose (hex i hi) else [], fun i hi => ?_⟩
      simp only [hi, dif_pos]
      exact Classical.choose_spec (hex i hi)
    obtain ⟨f, hf'⟩ := hch
    have c0 := (hf' 0 (by omega)).2.2 0 hpos
    have l0 := (hf' 0 (by omega)).1
    rw [List.getElem?_map, List.getElem?_eq_getElem (by omega)] at c0
    simp only [Option.map_some] at c0
    have sp := cell_spot c0
    obtain ⟨blk, off, spt⟩ := a
    have s1 : spt = none := by simpa [Addr.add] using sp.1
    subst s1
    refine ⟨blk, off, rfl, by simpa [Addr.add] using sp.2, f, fun i hi => ?_⟩
    have := hf' i (by omega)
    refine ⟨this.1, this.2.1, fun j hj => ?_⟩
    have h2 := this.2.2 j hj
    rw [Addr.add_lit] at h2
    exact h2
end
theorem cMode4 : Try.prog.cellsOf 54 = 4 := by kernel_rfl
end Go.Proofs.Ytpphnnbijmoodaa
