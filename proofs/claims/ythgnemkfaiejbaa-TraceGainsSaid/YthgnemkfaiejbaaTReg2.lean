/-
  REGIONS BY THEIR STATES, where pure operations come up behind calls: these are taken at once.
-/
import Derived.Test.YthgnemkfaiejbaaTReg
set_option linter.unusedVariables false
set_option linter.unusedSimpArgs false
namespace Go.Proofs.Ythgnemkfaiejbaa
open Go.RowKit

/-- as wpAnyH_dag: at each state that I knows every operation that may come up leads to a state that I knows, or it suffices to show a later state that I knows, or the rest is shown there. -/
theorem wpAnyH_dagC {P : Program} {ops : Array Oper} {Q : Exit → Act → World → Prop} {md : Region.Mode} {S : World → Prop} {I : Act → Array Bool → Array Bool → Act → World → Prop} {a0 : Act} {l0 : Array Bool} (hS : ∀ l a w, I a0 l0 l a w → S w)
    (hs : ∀ l a w, I a0 l0 l a w → (∃ rs, Region.ready md ops l = rs ∧ rs ≠ [] ∧ ∀ i ∈ rs, wpOp P ops Q i (fun a' w' => I a0 l0 (l.setIfInBounds i true) a' w') a w) ∨ (∃ l' a', undone l' < undone l ∧ I a0 l0 l' a' w ∧ (wpAnyH P md ops Q S (undone l') l' a' w → wpAnyH P md ops Q S (undone l) l a w)) ∨ wpAnyH P md ops Q S (undone l) l a w) :
    ∀ (fuel : Nat) (l : Array Bool) (a : Act) (w : World), undone l = fuel → I a0 l0 l a w → wpAnyH P md ops Q S fuel l a w := by
  intro fuel
  induction fuel using Nat.strongRecOn with
  | _ fuel ih =>
    intro l a w hf hI
    rcases hs l a w hI with ⟨rs, h, hne, h2⟩ | ⟨l', a', hl, hI', h⟩ | h
    · subst h
      cases fuel with
      | zero => exact absurd (undone_zero hf) hne
      | succ fuel => exact ⟨fun h0 => absurd h0 hne, fun i hi => wpOp_mono (fun a' w' h3 => ⟨hS _ _ _ h3, ih fuel (Nat.lt_succ_self _) _ a' w' (by have := undone_set hi; omega) h3⟩) (h2 i hi)⟩
    · exact hf ▸ h (ih _ (hf ▸ hl) l' a' w rfl hI')
    · exact hf ▸ h
theorem wpAnyH_dagC0 {P : Program} {ops : Array Oper} {Q : Exit → Act → World → Prop} {md : Region.Mode} {S : World → Prop} (I : Act → Array Bool → Array Bool → Act → World → Prop) {a0 : Act} {l0 : Array Bool} {fuel : Nat} {w : World} (hf : undone l0 = fuel) (hi : I a0 l0 l0 a0 w) (hS : ∀ l a w, I a0 l0 l a w → S w)
    (hs : ∀ l a w, I a0 l0 l a w → (∃ rs, Region.ready md ops l = rs ∧ rs ≠ [] ∧ ∀ i ∈ rs, wpOp P ops Q i (fun a' w' => I a0 l0 (l.setIfInBounds i true) a' w') a w) ∨ (∃ l' a', undone l' < undone l ∧ I a0 l0 l' a' w ∧ (wpAnyH P md ops Q S (undone l') l' a' w → wpAnyH P md ops Q S (undone l) l a w)) ∨ wpAnyH P md ops Q S (undone l) l a w) : wpAnyH P md ops Q S fuel l0 a0 w :=
  wpAnyH_dagC hS hs fuel l0 a0 w hf hi
end Go.Proofs.Ythgnemkfaiejbaa
