/-
  REGIONS: an operation that is not wanted may be taken first; and a region by what holds at each set of operations done (an invariant), whatever the order.
-/
import Derived.Test.YthgnemkfaiejbaaTScal
import Derived.Lib.Hide
import Derived.Deep.RegionHeld3
set_option linter.unusedVariables false
set_option linter.unusedSimpArgs false
namespace Go.Proofs.Ythgnemkfaiejbaa
open Go.RowKit

theorem wpAnyH_skip {P : Program} {ops : Array Oper} {Q : Exit → Act → World → Prop} {md : Region.Mode} {S : World → Prop} {i : Nat} {oi : Oper} {fuel : Nat} {listed : Array Bool} {a : Act} {w : World} (hi : ops[i]? = some oi)
    (hs : Region.noSelect ops = true) (hf : Region.free md ops listed i = true) (hr : (Region.ready md ops listed).contains i = true)
    (hQ : ∀ c a w, Q (.panic c) (a.put oi.dst undef) w → Q (.panic c) a w) (hw : Region.wanted oi (yielded ops a.tmps) = false) (hS : S w)
    (h : wpAnyH P md ops Q S fuel (listed.setIfInBounds i true) (a.put oi.dst undef) w) : wpAnyH P md ops Q S (fuel + 1) listed a w :=
  wpAnyH_take hi hs hf hr hQ (.inr ⟨hw, rfl⟩) hS h

theorem wpAnyH_pure {P : Program} {ops : Array Oper} {Q : Exit → Act → World → Prop} {md : Region.Mode} {S : World → Prop} {i : Nat} {oi : Oper} {v : Value} {fuel : Nat} {listed : Array Bool} {a : Act} {w : World} (hi : ops[i]? = some oi)
    (hs : Region.noSelect ops = true) (hf : Region.free md ops listed i = true) (hr : (Region.ready md ops listed).contains i = true)
    (hQ : ∀ c a w, Q (.panic c) (a.put oi.dst v) w → Q (.panic c) a w) (hw : Region.wanted oi (yielded ops a.tmps) = true) (hS : S w) (hy : ∀ w, S w → (execOp a.eval oi).run P w = .ok (.value v) w)
    (h : wpAnyH P md ops Q S fuel (listed.setIfInBounds i true) (a.put oi.dst v) w) : wpAnyH P md ops Q S (fuel + 1) listed a w :=
  wpAnyH_take hi hs hf hr hQ (.inl ⟨hw, hy⟩) hS h

/-- what has not been done -/
def undone (l : Array Bool) : Nat := l.toList.count false
theorem undone_zero {md : Region.Mode} {ops : Array Oper} {l : Array Bool} (h : undone l = 0) : Region.ready md ops l = [] := by
  rw [List.eq_nil_iff_forall_not_mem]
  intro i hi
  have h1 := (mem_ready.1 hi).1
  have : false ∈ l.toList := by
    rcases Nat.lt_or_ge i l.size with h2 | h2
    · simp [h2] at h1
      rw [← h1]; simp
    · simp [Array.getElem?_eq_none h2] at h1
  exact absurd h (Nat.pos_iff_ne_zero.1 (List.count_pos_iff.2 this))
theorem undone_set {md : Region.Mode} {ops : Array Oper} {l : Array Bool} {i : Nat} (h : i ∈ Region.ready md ops l) : undone (l.setIfInBounds i true) + 1 = undone l := by
  have h1 := (mem_ready.1 h).1
  have h2 : i < l.size := by
    rcases Nat.lt_or_ge i l.size with h2 | h2
    · exact h2
    · simp [Array.getElem?_eq_none h2] at h1
  have h3 : l.toList[i]'(by simpa using h2) = false := by simpa [h2] using h1
  have hp : 0 < l.toList.count false := List.count_pos_iff.2 (by rw [← h3]; exact List.getElem_mem _)
  unfold undone
  rw [Array.toList_setIfInBounds, List.count_set (by simpa using h2), h3]
  simp only [beq_self_eq_true, if_true, show (true == false) = false from rfl, Bool.false_eq_true, if_false, Nat.add_zero]
  omega

theorem wpAnyH_inv {P : Program} {ops : Array Oper} {Q : Exit → Act → World → Prop} {md : Region.Mode} {S : World → Prop} {I : Array Bool → Act → World → Prop} (hS : ∀ l a w, I l a w → S w)
    (hs : ∀ l a w i, I l a w → i ∈ Region.ready md ops l → wpOp P ops Q i (fun a' w' => I (l.setIfInBounds i true) a' w') a w)
    (he : ∀ l a w, I l a w → Region.ready md ops l = [] → Q .normal a w) :
    ∀ (fuel : Nat) (l : Array Bool) (a : Act) (w : World), undone l ≤ fuel → I l a w → wpAnyH P md ops Q S fuel l a w
  | 0, l, a, w, hf, hI => ⟨undone_zero (by omega), he l a w hI (undone_zero (by omega))⟩
  | fuel + 1, l, a, w, hf, hI => ⟨he l a w hI, fun i hi => wpOp_mono (fun a' w' h => ⟨hS _ _ _ h, wpAnyH_inv hS hs he fuel _ a' w' (by have := undone_set hi; omega) h⟩) (hs l a w i hI hi)⟩

/-- A region by its states: at each state that I knows either every operation that may come up leads to a state that I knows, or the rest is shown there. -/
theorem wpAnyH_dag {P : Program} {ops : Array Oper} {Q : Exit → Act → World → Prop} {md : Region.Mode} {S : World → Prop} {I : Act → Array Bool → Array Bool → Act → World → Prop} {a0 : Act} {l0 : Array Bool} (hS : ∀ l a w, I a0 l0 l a w → S w)
    (hs : ∀ l a w, I a0 l0 l a w → (∃ rs, Region.ready md ops l = rs ∧ rs ≠ [] ∧ ∀ i ∈ rs, wpOp P ops Q i (fun a' w' => I a0 l0 (l.setIfInBounds i true) a' w') a w) ∨ wpAnyH P md ops Q S (undone l) l a w) :
    ∀ (fuel : Nat) (l : Array Bool) (a : Act) (w : World), undone l = fuel → I a0 l0 l a w → wpAnyH P md ops Q S fuel l a w := by
  intro fuel
  induction fuel with
  | zero =>
    intro l a w hf hI
    rcases hs l a w hI with ⟨rs, h, hne, h2⟩ | h
    · exact absurd (h.symm.trans (undone_zero hf)) hne
    · exact hf ▸ h
  | succ fuel ih =>
    intro l a w hf hI
    rcases hs l a w hI with ⟨rs, h, hne, h2⟩ | h
    · subst h
      exact ⟨fun h0 => absurd h0 hne, fun i hi => wpOp_mono (fun a' w' h3 => ⟨hS _ _ _ h3, ih _ a' w' (by have := undone_set hi; omega) h3⟩) (h2 i hi)⟩
    · exact hf ▸ h
theorem wpAnyH_dag0 {P : Program} {ops : Array Oper} {Q : Exit → Act → World → Prop} {md : Region.Mode} {S : World → Prop} (I : Act → Array Bool → Array Bool → Act → World → Prop) {a0 : Act} {l0 : Array Bool} {fuel : Nat} {w : World} (hf : undone l0 = fuel) (hi : I a0 l0 l0 a0 w) (hS : ∀ l a w, I a0 l0 l a w → S w)
    (hs : ∀ l a w, I a0 l0 l a w → (∃ rs, Region.ready md ops l = rs ∧ rs ≠ [] ∧ ∀ i ∈ rs, wpOp P ops Q i (fun a' w' => I a0 l0 (l.setIfInBounds i true) a' w') a w) ∨ wpAnyH P md ops Q S (undone l) l a w) : wpAnyH P md ops Q S fuel l0 a0 w :=
  wpAnyH_dag hS hs fuel l0 a0 w hf hi
theorem wpAnyH_fuel {P : Program} {ops : Array Oper} {Q : Exit → Act → World → Prop} {md : Region.Mode} {S : World → Prop} {l : Array Bool} {a : Act} {w : World} {f : Nat} (k : Nat) (h : f = k) (hh : wpAnyH P md ops Q S k l a w) : wpAnyH P md ops Q S f l a w := h ▸ hh
theorem wpAnyH_fin {P : Program} {ops : Array Oper} {Q : Exit → Act → World → Prop} {md : Region.Mode} {S T : World → Prop} {l : Array Bool} {a : Act} {w : World} {f : Nat} (hr : Region.ready md ops l = []) (hT : T w) (h : ∀ W, T W → Q .normal a W) : wpAnyH P md ops Q S f l a w :=
  wpAnyH_done hr (h w hT) f
theorem all_nil {p : Nat → Prop} : ∀ i ∈ ([] : List Nat), p i := fun _ h => by cases h
theorem all_cons {p : Nat → Prop} {j : Nat} {l : List Nat} (h : p j) (hl : ∀ i ∈ l, p i) : ∀ i ∈ j :: l, p i := fun i hi => by
  rcases List.mem_cons.1 hi with rfl | hi
  · exact h
  · exact hl i hi
end Go.Proofs.Ythgnemkfaiejbaa
