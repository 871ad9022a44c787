/-
  ARGUMENTS OPENED: an array of integers by value.
-/
import Derived.Test.YtpphnnbijmoodaaFrame
set_option linter.unusedVariables false
set_option linter.unusedSimpArgs false
namespace Go.Proofs.Ytpphnnbijmoodaa
open Go.ChangeShapes Go.WideShapes Go.ChangeAt Go.RowKit Go.Joins Go.Deep

section
variable {H : Type} {enc : TypeId × Value → H} {P : Program} {w : World} {base : Nat} {spare : Nat → Bool} {held : Bool}
theorem okWide_arr {r : Reach} {b0 : Nat} {t e : TypeId} {n : Nat} {v : Value} (ht : P.underlying t = some (.array n e)) (h : Value.okWide P w r b0 t v) : ∃ cs, v = .agg cs ∧ cs.size = P.cellsOf t := by
  simp only [Value.okWide, ht] at h
  obtain ⟨cs, h1, h2, _⟩ := h
  exact ⟨cs, h1, h2⟩
theorem array_ints {r : Reach} {b0 : Nat} {t e : TypeId} {n : Nat} {v : Value} {d : DataW H} {p : List MemPlace} (hs : P.underlying t = some (.array n e)) (he : P.underlying e = some (.int .i64)) (hce : P.cellsOf e = 1) (hC : P.cellsOf t = n)
    (hv : Value.okWide P w r b0 t v) (h : DataW.Trod enc P w base spare held t v d p) :
    ∃ l : List Int, v = .agg ⟨l.map (Value.int .i64)⟩ ∧ l.length = n := by
  obtain ⟨cs, rfl, hsz⟩ := okWide_arr hs hv
  obtain ⟨l⟩ := cs
  have hsz : l.length = P.cellsOf t := hsz
  obtain ⟨fuel, hf⟩ := h
  obtain ⟨xs, m, _, hx, _, hlen, hg⟩ := DataW.trod_array hs hf
  refine ⟨l.map numIn, ?_, by simp; omega⟩
  congr 2
  apply List.ext_getElem
  · simp
  · intro j h1 h2
    have hj : j < n := by omega
    have g := hg j hj
    rw [hce] at g
    have hy : xs[j]? = some (xs[j]'(by omega)) := by simp
    rw [hy] at g
    simp only [Value.cells, Nat.mul_one] at g
    have e1 : (l.drop j).take 1 = [l[j]] := by
      rw [List.drop_eq_getElem_cons h1]; rfl
    rw [e1] at g
    obtain ⟨m, hm, _, _⟩ := DataW.trod_int he g
    simp only [List.cons.injEq, and_true] at hm
    simp [hm, numIn]
end
theorem cellsArr2 : Try.prog.cellsOf 96 = 2 := by kernel_rfl
theorem cellsInt : Try.prog.cellsOf 3 = 1 := by kernel_rfl
end Go.Proofs.Ytpphnnbijmoodaa
