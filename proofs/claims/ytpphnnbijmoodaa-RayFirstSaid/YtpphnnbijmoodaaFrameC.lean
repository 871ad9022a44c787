/-
  ARGUMENTS OPENED: whatever lies in integers only (structs and arrays of them, one in another).
-/
import Derived.Test.YtpphnnbijmoodaaFrameB
set_option linter.unusedVariables false
set_option linter.unusedSimpArgs false
namespace Go.Proofs.Ytpphnnbijmoodaa
open Go.ChangeShapes Go.WideShapes Go.ChangeAt Go.RowKit Go.Joins Go.Deep

section
variable {H : Type} {enc : TypeId × Value → H} {P : Program} {w : World} {base : Nat} {spare : Nat → Bool} {held : Bool}
def IsI (c : Value) : Prop := ∃ n, c = .int .i64 n ∧ (Lit.int .i64 n).wf = true
/-- what is read at this type lies in integers only -/
def IntsT (H : Type) (enc : TypeId × Value → H) (P : Program) (w : World) (base : Nat) (spare : Nat → Bool) (held : Bool) (t : TypeId) : Prop :=
  ∀ fuel cs x, DataW.trod enc P w base spare held fuel t cs = some x → ∀ c ∈ cs, IsI c
theorem intsT_int {t : TypeId} (h : P.underlying t = some (.int .i64)) : IntsT H enc P w base spare held t := by
  intro fuel cs x hx c hc
  obtain ⟨n, rfl, _, hw⟩ := DataW.trod_int h hx
  simp only [List.mem_cons, List.not_mem_nil, or_false] at hc
  exact ⟨n, hc, hw⟩
theorem intsT_struct {t : TypeId} {fs : Array Field} (h : P.underlying t = some (.struct fs)) (hc : ((List.range (P.cellsOf t)).all fun j => fs.any fun f => decide (f.offset ≤ j) && decide (j < f.offset + P.cellsOf f.type)) = true)
    (hf : ∀ f ∈ fs, IntsT H enc P w base spare held f.type) : IntsT H enc P w base spare held t := by
  intro fuel cs x hx c hcs
  obtain ⟨xs, n, _, _, hl, hxl, hg⟩ := DataW.trod_struct h hx
  obtain ⟨j, hj, rfl⟩ := List.getElem_of_mem hcs
  have h1 := List.all_eq_true.1 hc j (List.mem_range.2 (by omega))
  obtain ⟨i, hi, h2⟩ := Array.any_eq_true.1 h1
  simp only [Bool.and_eq_true, decide_eq_true_eq] at h2
  have g := hg i fs[i] (by simp [hi])
  have hx2 : xs[i]? = some (xs[i]'(by omega)) := by simp
  rw [hx2] at g
  refine hf fs[i] (Array.getElem_mem hi) n _ _ g _ ?_
  rw [List.mem_take_iff_getElem]
  exact ⟨j - fs[i].offset, by simp; omega, by simp [Nat.add_sub_cancel' h2.1]⟩
theorem intsT_array {t e : TypeId} {n : Nat} (h : P.underlying t = some (.array n e)) (hc : ((List.range (P.cellsOf t)).all fun j => (List.range n).any fun i => decide (i * P.cellsOf e ≤ j) && decide (j < i * P.cellsOf e + P.cellsOf e)) = true)
    (he : IntsT H enc P w base spare held e) : IntsT H enc P w base spare held t := by
  intro fuel cs x hx c hcs
  obtain ⟨xs, m, _, _, hl, hxl, hg⟩ := DataW.trod_array h hx
  obtain ⟨j, hj, rfl⟩ := List.getElem_of_mem hcs
  have h1 := List.all_eq_true.1 hc j (List.mem_range.2 (by omega))
  obtain ⟨i, hi, h2⟩ := List.any_eq_true.1 h1
  rw [List.mem_range] at hi
  simp only [Bool.and_eq_true, decide_eq_true_eq] at h2
  have g := hg i hi
  have hx2 : xs[i]? = some (xs[i]'(by omega)) := by simp
  rw [hx2] at g
  refine he m _ _ g _ ?_
  rw [List.mem_take_iff_getElem]
  exact ⟨j - i * P.cellsOf e, by simp; omega, by simp [Nat.add_sub_cancel' h2.1]⟩
theorem ints_list : ∀ {cs : List Value}, (∀ c ∈ cs, IsI c) → ∃ l : List Int, cs = l.map (Value.int .i64) ∧ ∀ n ∈ l, (Lit.int .i64 n).wf = true
  | [], _ => ⟨[], rfl, fun _ h => by cases h⟩
  | c :: cs, h => by
    obtain ⟨n, rfl, hw⟩ := h c (List.mem_cons_self ..)
    obtain ⟨l, rfl, hl⟩ := ints_list (cs := cs) fun c hc => h c (List.mem_cons_of_mem _ hc)
    exact ⟨n :: l, rfl, fun m hm => (List.mem_cons.1 hm).elim (fun e => e ▸ hw) (hl m)⟩
theorem okWide_agg {r : Reach} {b0 : Nat} {t : TypeId} {v : Value} (hs : (∃ fs, P.underlying t = some (.struct fs)) ∨ ∃ n e, P.underlying t = some (.array n e)) (hv : Value.okWide P w r b0 t v) : ∃ cs, v = .agg cs ∧ cs.size = P.cellsOf t := by
  rcases hs with ⟨fs, hs⟩ | ⟨n, e, hs⟩
  · exact okWide_struct hs hv
  · exact okWide_arr hs hv
theorem open_flat {r : Reach} {b0 : Nat} {t : TypeId} {v : Value} {d : DataW H} {p : List MemPlace} (hs : (∃ fs, P.underlying t = some (.struct fs)) ∨ ∃ n e, P.underlying t = some (.array n e)) (hI : IntsT H enc P w base spare held t)
    (hv : Value.okWide P w r b0 t v) (h : DataW.Trod enc P w base spare held t v d p) :
    ∃ l : List Int, v = .agg ⟨l.map (Value.int .i64)⟩ ∧ l.length = P.cellsOf t ∧ ∀ n ∈ l, (Lit.int .i64 n).wf = true := by
  obtain ⟨cs, rfl, hsz⟩ := okWide_agg hs hv
  obtain ⟨fuel, hf⟩ := h
  obtain ⟨l, hl, hw⟩ := ints_list (hI fuel _ _ hf)
  have e : cs.toList = l.map (Value.int .i64) := hl
  refine ⟨l, by rw [← e], ?_, hw⟩
  have := congrArg List.length e
  simp at this
  omega
end
theorem list7 {l : List Int} (h : l.length = 7) : ∃ a b c d e f g, l = [a, b, c, d, e, f, g] := by
  match l, h with
  | [a, b, c, d, e, f, g], _ => exact ⟨a, b, c, d, e, f, g, rfl⟩
theorem list14 {l : List Int} (h : l.length = 14) : ∃ a b c d e f g i j k m n o p, l = [a, b, c, d, e, f, g, i, j, k, m, n, o, p] := by
  match l, h with
  | [a, b, c, d, e, f, g, i, j, k, m, n, o, p], _ => exact ⟨a, b, c, d, e, f, g, i, j, k, m, n, o, p, rfl⟩
section
variable {H : Type} {enc : TypeId × Value → H} {w : World} {base : Nat} {spare : Nat → Bool} {held : Bool}
theorem fields_cons {p : Field → Prop} {f : Field} {l : List Field} (h : p f) (hl : ∀ g ∈ (⟨l⟩ : Array Field), p g) : ∀ g ∈ (⟨f :: l⟩ : Array Field), p g := by
  intro g hg
  rw [List.mem_toArray, List.mem_cons] at hg
  rcases hg with rfl | hg
  · exact h
  · exact hl g (List.mem_toArray.2 hg)
theorem fields_nil {p : Field → Prop} : ∀ g ∈ (⟨[]⟩ : Array Field), p g := fun g hg => by simp at hg
theorem iInt : IntsT H enc Try.prog w base spare held 3 := intsT_int Try.underlying3
theorem iSpot : IntsT H enc Try.prog w base spare held 23 := intsT_struct Try.underlying23 (by kernel_rfl) (fields_cons iInt (fields_cons iInt fields_nil))
theorem iMode : IntsT H enc Try.prog w base spare held 54 := intsT_struct Try.underlying54 (by kernel_rfl) (fields_cons iInt (fields_cons iInt (fields_cons iInt (fields_cons iInt fields_nil))))
theorem iTurn : IntsT H enc Try.prog w base spare held 77 := intsT_struct Try.underlying77 (by kernel_rfl) (fields_cons iSpot (fields_cons iSpot (fields_cons iInt (fields_cons iInt (fields_cons iInt fields_nil)))))
theorem iEcho : IntsT H enc Try.prog w base spare held 83 := intsT_struct Try.underlying83 (by kernel_rfl) (fields_cons iMode (fields_cons iMode (fields_cons iSpot (fields_cons iSpot (fields_cons iSpot fields_nil)))))
theorem cTurn : Try.prog.cellsOf 77 = 7 := by kernel_rfl
theorem cEcho : Try.prog.cellsOf 83 = 14 := by kernel_rfl
end
end Go.Proofs.Ytpphnnbijmoodaa
