/-
  ARGUMENTS OPENED: slices of whatever elements; slices of singles.
-/
import Derived.Test.YthgnemkfaiejbaaTFr
import Derived.Test.YthgnemkfaiejbaaTFc
import Derived.Laws.Cover2
set_option linter.unusedVariables false
set_option maxRecDepth 100000
set_option linter.unusedSimpArgs false
namespace Go.Proofs.Ythgnemkfaiejbaa
open Go.ChangeShapes Go.WideShapes Go.ChangeAt Go.RowKit Go.Joins Go.Deep

section
variable {H : Type} {enc : TypeId × Value → H} {P : Program} {w : World} {base : Nat} {spare : Nat → Bool} {held : Bool}
/-- what the cells of an element are, wherever it stands -/
def OpensT (H : Type) (enc : TypeId × Value → H) (P : Program) (w : World) (base : Nat) (spare : Nat → Bool) (held : Bool) (e : TypeId) (Q : List Value → Prop) : Prop :=
  ∀ (fuel : Nat) (cs : List Value) (x : DataW H × List MemPlace), DataW.trod enc P w base spare held fuel e cs = some x → Q cs
/-- a slice, opened -/
def RowOf (w : World) (v : Value) (k : Nat) (Q : List Value → Prop) : Prop :=
  ∃ (q : Option Addr) (len cap : Nat), v = .slice q len cap ∧ (len ≤ cap ∧ cap ≤ maxLen) ∧
    (len = 0 ∨ ∃ g o, q = some ⟨g, o, none⟩ ∧ g < w.heap.size ∧ ∃ f : Nat → List Value, ∀ i, i < len → (f i).length = k ∧ Q (f i) ∧ ∀ j, j < k → w.cell? ⟨g, o + (i * k + j), none⟩ = (f i)[j]?)
theorem open_row {t e : TypeId} {v : Value} {fuel : Nat} {x : DataW H × List MemPlace} {Q : List Value → Prop} (ht : P.underlying t = some (.slice e)) (hQ : OpensT H enc P w base spare held e Q) (hpos : 0 < P.cellsOf e)
    (hf : DataW.trod enc P w base spare held fuel t [v] = some x) : RowOf w v (P.cellsOf e) Q := by
  rcases DataW.trod_slice ht hf with ⟨hcs, _⟩ | ⟨a, len, cap, elems, rest, n, _, hcs, _, hb, hl, hm, hlen, hx, _, _⟩
  · simp only [List.cons.injEq, and_true] at hcs
    subst hcs
    exact ⟨none, 0, 0, rfl, ⟨Nat.le_refl _, Nat.zero_le _⟩, .inl rfl⟩
  · simp only [List.cons.injEq, and_true] at hcs
    subst hcs
    refine ⟨_, _, _, rfl, ⟨hl, hm⟩, ?_⟩
    rcases Nat.eq_zero_or_pos len with h0 | h0
    · exact .inl h0
    · have hex : ∀ i, i < len → ∃ l : List Value, l.length = P.cellsOf e ∧ Q l ∧ ∀ j, j < P.cellsOf e → w.cell? (a.add (i * P.cellsOf e + j)) = l[j]? := by
        intro i hi
        have h1 := hx i hi
        have h2 : elems[i]? = some (elems[i]'(by omega)) := by simp
        rw [h2, Option.bind_eq_some_iff] at h1
        obtain ⟨cs', hc, ht'⟩ := h1
        obtain ⟨_, hcl, hat⟩ := World.cells?_some hc
        refine ⟨cs', hcl, hQ _ _ _ ht', fun j hj => ?_⟩
        have := hat j hj
        rw [Go.Deep.add_add] at this
        exact this
      have hch : ∃ f : Nat → List Value, ∀ i, i < len → (f i).length = P.cellsOf e ∧ Q (f i) ∧ ∀ j, j < P.cellsOf e → w.cell? (a.add (i * P.cellsOf e + j)) = (f i)[j]? := by
        refine ⟨fun i => if hi : i < len then Classical.choose (hex i hi) else [], fun i hi => ?_⟩
        simp only [hi, dif_pos]
        exact Classical.choose_spec (hex i hi)
      obtain ⟨f, hf'⟩ := hch
      have c0 := (hf' 0 h0).2.2 0 hpos
      have l0 := (hf' 0 h0).1
      rw [List.getElem?_eq_getElem (by omega)] at c0
      have sp := cell_spot c0
      obtain ⟨blk, off, spt⟩ := a
      have s1 : spt = none := by simpa [Addr.add] using sp.1
      subst s1
      refine .inr ⟨blk, off, rfl, by simpa [Addr.add] using sp.2, f, fun i hi => ?_⟩
      have := hf' i hi
      refine ⟨this.1, this.2.1, fun j hj => ?_⟩
      have h2 := this.2.2 j hj
      rw [Addr.add_lit] at h2
      exact h2
theorem opens_float {e : TypeId} {k : FloatKind} (he : P.underlying e = some (.float k)) : OpensT H enc P w base spare held e fun cs => ∃ b, cs = [.float k b] ∧ (Lit.float k b).wf = true := by
  intro fuel cs x h
  cases fuel with
  | zero => simp [DataW.trod] at h
  | succ n =>
    unfold DataW.trod at h
    rw [he] at h
    split at h <;> simp_all
theorem opens_int {e : TypeId} {k : IntKind} (he : P.underlying e = some (.int k)) : OpensT H enc P w base spare held e fun cs => ∃ n, cs = [.int k n] ∧ (Lit.int k n).wf = true := by
  intro fuel cs x h
  cases fuel with
  | zero => simp [DataW.trod] at h
  | succ n =>
    unfold DataW.trod at h
    rw [he] at h
    split at h <;> simp_all
end
section
variable {H : Type} {enc : TypeId × Value → H} {w : World} {base : Nat} {spare : Nat → Bool} {held : Bool}
theorem cellsF32 : Try.prog.cellsOf 24 = 1 := by kernel_rfl
theorem frow_of {v : Value} (h : RowOf w v 1 fun cs => ∃ b, cs = [.float .f32 b] ∧ (Lit.float .f32 b).wf = true) : ∃ (u : Nat → Nat) (n : Nat), FRow w v u n := by
  obtain ⟨q, n, c, rfl, hc, h⟩ := h
  rcases h with h0 | ⟨g, o, rfl, hg, f, hf⟩
  · subst h0
    exact ⟨fun _ => 0, 0, q, c, rfl, hc, fun i hi => absurd hi (Nat.not_lt_zero _), .inl rfl⟩
  · have hone : ∀ i, i < n → ∃ b, f i = [.float .f32 b] ∧ b < 2 ^ 32 := fun i hi => by
      obtain ⟨b, e, hw⟩ := (hf i hi).2.1
      refine ⟨b, e, ?_⟩
      simpa [Lit.wf] using hw
    refine ⟨fun i => if hi : i < n then Classical.choose (hone i hi) else 0, n, _, c, rfl, hc, fun i hi => ?_, .inr ⟨g, o, rfl, hg, fun i hi => ?_⟩⟩
    · simp only [hi, dif_pos]
      exact (Classical.choose_spec (hone i hi)).2
    · simp only [hi, dif_pos]
      have e := (Classical.choose_spec (hone i hi)).1
      have h2 := (hf i hi).2.2 0 (by decide)
      rw [show o + (i * 1 + 0) = o + i by omega, e] at h2
      exact h2
theorem frow_open {r : Reach} {b0 : Nat} {v : Value} {d : DataW H} {p : List MemPlace} (hv : Value.okWide Try.prog w r b0 22 v) (h : DataW.Trod enc Try.prog w base spare held 22 v d p) : ∃ (u : Nat → Nat) (n : Nat), FRow w v u n := by
  obtain ⟨q, len, cap, rfl⟩ := okWide_slice Try.underlying22 hv
  obtain ⟨fuel, hf⟩ := h
  have := open_row Try.underlying22 (opens_float Try.underlying24) (by rw [cellsF32]; decide) (show DataW.trod enc Try.prog w base spare held fuel 22 [Value.slice q len cap] = _ from hf)
  rw [cellsF32] at this
  exact frow_of this
end
end Go.Proofs.Ythgnemkfaiejbaa
