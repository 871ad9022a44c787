/-
  ARGUMENTS OPENED: a struct of integers by value, whatever the number of its fields.
-/
import Derived.Test.YtpphnnbijmoodaaRows
import Derived.ProofKit
import Derived.OpenShut
import Derived.ShutString
import Derived.ChangeOld
import Derived.Below
import Derived.Lib.SmallJoins
set_option linter.unusedVariables false
set_option linter.unusedSimpArgs false
namespace Go.Proofs.Ytpphnnbijmoodaa
open Go.ChangeShapes Go.WideShapes Go.ChangeAt Go.RowKit Go.Joins Go.Deep

theorem own : ownKnob Try.prog.godebug = none := by kernel_rfl
theorem laidOut : laidOutB Try.prog = true := by kernel_rfl

section
variable {H : Type} {enc : TypeId × Value → H} {P : Program} {w : World} {base : Nat} {spare : Nat → Bool} {held : Bool}
/-- the number in a cell -/
def numIn : Value → Int
  | .int _ n => n
  | _ => 0
theorem struct_ints {r : Reach} {b0 : Nat} {t e : TypeId} {fs : Array Field} {v : Value} {d : DataW H} {p : List MemPlace} (hs : P.underlying t = some (.struct fs)) (hone : oneCellFields P fs = true) (hint : fs.all (fun f => f.type == e) = true) (he : P.underlying e = some (.int .i64)) (hC : P.cellsOf t = fs.size)
    (hv : Value.okWide P w r b0 t v) (h : DataW.Trod enc P w base spare held t v d p) :
    ∃ l : List Int, v = .agg ⟨l.map (Value.int .i64)⟩ ∧ l.length = fs.size := by
  obtain ⟨cs, rfl, hsz⟩ := okWide_struct hs hv
  obtain ⟨l⟩ := cs
  have hsz : l.length = P.cellsOf t := hsz
  obtain ⟨fuel, hf⟩ := h
  obtain ⟨xs, n, _, hx, _, hlen, hg⟩ := DataW.trod_struct hs hf
  refine ⟨l.map numIn, ?_, by simp; omega⟩
  congr 2
  apply List.ext_getElem
  · simp
  · intro j h1 h2
    have hj : j < fs.size := by omega
    have hfj : fs[j]? = some fs[j] := by simp [hj]
    obtain ⟨o, k⟩ := hone_of hone j fs[j] hfj
    have g := hg j fs[j] hfj
    rw [o, k] at g
    have ht : fs[j].type = e := by
      have := (Array.all_eq_true.1 hint) j hj
      simpa using this
    have hy : xs[j]? = some (xs[j]'(by omega)) := by simp
    rw [hy, ht] at g
    simp only [Value.cells] at g
    have e1 : (l.drop j).take 1 = [l[j]] := by
      rw [List.drop_eq_getElem_cons h1]; rfl
    rw [e1] at g
    obtain ⟨m, hm, _, _⟩ := DataW.trod_int he g
    simp only [List.cons.injEq, and_true] at hm
    simp [hm, numIn]
end
theorem list2 {l : List Int} (h : l.length = 2) : ∃ a b, l = [a, b] := by
  match l, h with
  | [a, b], _ => exact ⟨a, b, rfl⟩
theorem list4 {l : List Int} (h : l.length = 4) : ∃ a b c d, l = [a, b, c, d] := by
  match l, h with
  | [a, b, c, d], _ => exact ⟨a, b, c, d, rfl⟩
theorem list6 {l : List Int} (h : l.length = 6) : ∃ a b c d e f, l = [a, b, c, d, e, f] := by
  match l, h with
  | [a, b, c, d, e, f], _ => exact ⟨a, b, c, d, e, f, rfl⟩
theorem cellsCross : Try.prog.cellsOf 37 = 6 := by kernel_rfl
theorem cellsMode : Try.prog.cellsOf 54 = 4 := by kernel_rfl
theorem cellsSpot : Try.prog.cellsOf 23 = 2 := by kernel_rfl
theorem cellsFrac : Try.prog.cellsOf 98 = 2 := by kernel_rfl
end Go.Proofs.Ytpphnnbijmoodaa
