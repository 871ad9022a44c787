/-
  ARGUMENTS OPENED: structs whose fields are of one cell each; Made of chapter 3.
-/
import Derived.Test.YthgnemkfaiejbaaTOpen
import Derived.Test.YthgnemkfaiejbaaTMat
set_option linter.unusedVariables false
set_option maxRecDepth 100000
set_option linter.unusedSimpArgs false
namespace Go.Proofs.Ythgnemkfaiejbaa
open Go.ChangeShapes Go.WideShapes Go.ChangeAt Go.RowKit Go.Joins Go.Deep

section
variable {H : Type} {enc : TypeId × Value → H} {P : Program} {w : World} {base : Nat} {spare : Nat → Bool} {held : Bool}
/-- the cells of a struct of one-cell fields: each of its own type -/
theorem trod_ones {t : TypeId} {fs : Array Field} {l : List Value} {fuel : Nat} {x : DataW H × List MemPlace} (hs : P.underlying t = some (.struct fs)) (hone : oneCellFields P fs = true) (hl : l.length = fs.size)
    (hf : DataW.trod enc P w base spare held fuel t l = some x) : ∀ (j : Nat) (f : Field), fs[j]? = some f → ∃ (v : Value) (n : Nat) (y : DataW H × List MemPlace), l[j]? = some v ∧ DataW.trod enc P w base spare held n f.type [v] = some y := by
  obtain ⟨xs, n, _, hx, _, hlen, hg⟩ := DataW.trod_struct hs hf
  intro j f hfj
  have hj : j < fs.size := by
    rcases Nat.lt_or_ge j fs.size with h | h
    · exact h
    · rw [Array.getElem?_eq_none h] at hfj; cases hfj
  obtain ⟨o, k⟩ := hone_of hone j f hfj
  have g := hg j f hfj
  rw [o, k] at g
  have hy : xs[j]? = some (xs[j]'(by omega)) := by simp
  rw [hy] at g
  have h1 : j < l.length := by omega
  have e1 : (l.drop j).take 1 = [l[j]] := by
    rw [List.drop_eq_getElem_cons h1]; rfl
  rw [e1] at g
  exact ⟨l[j], n, _, List.getElem?_eq_getElem h1, g⟩
theorem opens_ints {e : TypeId} (hI : IntsT H enc P w base spare held e) : OpensT H enc P w base spare held e fun cs => ∃ l : List Int, cs = l.map (Value.int .i64) ∧ ∀ n ∈ l, (Lit.int .i64 n).wf = true :=
  fun fuel cs x h => ints_list (hI fuel cs x h)
end
section
variable {H : Type} {enc : TypeId × Value → H} {w : World} {base : Nat} {spare : Nat → Bool} {held : Bool}
theorem cellsArr2' : Try.prog.cellsOf 36 = 2 := by kernel_rfl
theorem iArr2 : IntsT H enc Try.prog w base spare held 36 := intsT_array Try.underlying36 (by kernel_rfl) (intsT_int Try.underlying3)
theorem prow_of {v : Value} (h : RowOf w v 2 fun cs => ∃ l : List Int, cs = l.map (Value.int .i64) ∧ ∀ n ∈ l, (Lit.int .i64 n).wf = true) : ∃ (s : Nat → Int × Int) (n : Nat), PRow w v s n := by
  obtain ⟨q, n, c, rfl, hc, h⟩ := h
  rcases h with h0 | ⟨g, o, rfl, hg, f, hf⟩
  · subst h0
    exact ⟨fun _ => (0, 0), 0, q, c, rfl, hc, fun i hi => absurd hi (Nat.not_lt_zero _), .inl rfl⟩
  · have htwo : ∀ i, i < n → ∃ p : Int × Int, f i = [.int .i64 p.1, .int .i64 p.2] ∧ -9223372036854775808 ≤ p.1 ∧ p.1 ≤ 9223372036854775807 := fun i hi => by
      obtain ⟨h1, ⟨l, e, hw⟩, _⟩ := hf i hi
      rw [e, List.length_map] at h1
      obtain ⟨a, b, rfl⟩ := list2 h1
      exact ⟨(a, b), e, wf_in (hw a (by simp))⟩
    refine ⟨fun i => if hi : i < n then Classical.choose (htwo i hi) else (0, 0), n, _, c, rfl, hc, fun i hi => ?_, .inr ⟨g, o, rfl, hg, fun i hi => ?_⟩⟩
    · simp only [hi, dif_pos]
      exact (Classical.choose_spec (htwo i hi)).2
    · simp only [hi, dif_pos]
      have e := (Classical.choose_spec (htwo i hi)).1
      have h2 := (hf i hi).2.2
      refine ⟨?_, ?_⟩
      · have := h2 0 (by decide)
        rw [show o + (i * 2 + 0) = o + i * 2 by omega, e] at this
        exact this
      · have := h2 1 (by decide)
        rw [show o + (i * 2 + 1) = o + i * 2 + 1 by omega, e] at this
        exact this
theorem cellsMade : Try.prog.cellsOf 35 = 4 := by kernel_rfl
/-- a Made, in its cells -/
theorem made_cells {l : List Value} {fuel : Nat} {x : DataW H × List MemPlace} (hl : l.length = 4) (hf : DataW.trod enc Try.prog w base spare held fuel 35 l = some x) :
    ∃ (E : Int) (vS vR : Value) (M : Int) (s : Nat → Int × Int) (n : Nat) (r : Nat → Nat) (m : Nat), l = [.int .i64 E, vS, vR, .int .i64 M] ∧ (-9223372036854775808 ≤ E ∧ E ≤ 9223372036854775807) ∧ (-9223372036854775808 ≤ M ∧ M ≤ 9223372036854775807) ∧ PRow w vS s n ∧ FRow w vR r m := by
  have T := trod_ones Try.underlying35 (by kernel_rfl) hl hf
  obtain ⟨v0, n0, y0, e0, t0⟩ := T 0 _ rfl
  obtain ⟨v1, n1, y1, e1, t1⟩ := T 1 _ rfl
  obtain ⟨v2, n2, y2, e2, t2⟩ := T 2 _ rfl
  obtain ⟨v3, n3, y3, e3, t3⟩ := T 3 _ rfl
  obtain ⟨E, hE, wE⟩ := opens_int (k := .i64) Try.underlying3 _ _ _ t0
  obtain ⟨M, hM, wM⟩ := opens_int (k := .i64) Try.underlying3 _ _ _ t3
  simp only [List.cons.injEq, and_true] at hE hM
  have hS := open_row Try.underlying33 (opens_ints iArr2) (by rw [cellsArr2']; decide) t1
  rw [cellsArr2'] at hS
  obtain ⟨s, n, hS⟩ := prow_of hS
  have hR := open_row Try.underlying22 (opens_float Try.underlying24) (by rw [cellsF32]; decide) t2
  rw [cellsF32] at hR
  obtain ⟨r, m, hR⟩ := frow_of hR
  refine ⟨E, v1, v2, M, s, n, r, m, ?_, wf_in wE, wf_in wM, hS, hR⟩
  match l, hl with
  | [a, b, c, d], _ =>
    simp only [List.getElem?_cons_zero, List.getElem?_cons_succ, Option.some.injEq] at e0 e1 e2 e3
    rw [e0, e1, e2, e3, hE, hM]
theorem made_open {r : Reach} {b0 : Nat} {v : Value} {d : DataW H} {p : List MemPlace} (hv : Value.okWide Try.prog w r b0 35 v) (h : DataW.Trod enc Try.prog w base spare held 35 v d p) :
    ∃ (E : Int) (vS vR : Value) (M : Int) (s : Nat → Int × Int) (n : Nat) (r : Nat → Nat) (m : Nat), v = .agg #[.int .i64 E, vS, vR, .int .i64 M] ∧ (-9223372036854775808 ≤ E ∧ E ≤ 9223372036854775807) ∧ (-9223372036854775808 ≤ M ∧ M ≤ 9223372036854775807) ∧ PRow w vS s n ∧ FRow w vR r m := by
  obtain ⟨cs, rfl, hsz⟩ := okWide_struct Try.underlying35 hv
  obtain ⟨fuel, hf⟩ := h
  rw [cellsMade] at hsz
  obtain ⟨E, vS, vR, M, s, n, r, m, hl, h2, h3, h4, h5⟩ := made_cells (by simpa using hsz) (show DataW.trod enc Try.prog w base spare held fuel 35 cs.toList = _ from hf)
  refine ⟨E, vS, vR, M, s, n, r, m, ?_, h2, h3, h4, h5⟩
  congr 1
  exact Array.toList_inj.1 hl
end
end Go.Proofs.Ythgnemkfaiejbaa
