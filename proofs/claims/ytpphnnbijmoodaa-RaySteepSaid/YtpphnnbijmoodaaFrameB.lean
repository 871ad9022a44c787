/-
  ARGUMENTS OPENED, with their ranges: structs and arrays of integers by value.
-/
import Derived.Test.YtpphnnbijmoodaaFrameA
set_option linter.unusedVariables false
set_option linter.unusedSimpArgs false
namespace Go.Proofs.Ytpphnnbijmoodaa
open Go.ChangeShapes Go.WideShapes Go.ChangeAt Go.RowKit Go.Joins Go.Deep

theorem wf_in {n : Int} (h : (Lit.int .i64 n).wf = true) : -9223372036854775808 ≤ n ∧ n ≤ 9223372036854775807 := by
  have h2 : (decide (IntKind.min .i64 ≤ n) && decide (n ≤ IntKind.max .i64)) = true := h
  rw [Bool.and_eq_true] at h2
  exact ⟨of_decide_eq_true h2.1, of_decide_eq_true h2.2⟩
section
variable {H : Type} {enc : TypeId × Value → H} {P : Program} {w : World} {base : Nat} {spare : Nat → Bool} {held : Bool}
theorem struct_intsW {r : Reach} {b0 : Nat} {t e : TypeId} {fs : Array Field} {v : Value} {d : DataW H} {p : List MemPlace} (hs : P.underlying t = some (.struct fs)) (hone : oneCellFields P fs = true) (hint : fs.all (fun f => f.type == e) = true) (he : P.underlying e = some (.int .i64)) (hC : P.cellsOf t = fs.size)
    (hv : Value.okWide P w r b0 t v) (h : DataW.Trod enc P w base spare held t v d p) :
    ∃ l : List Int, v = .agg ⟨l.map (Value.int .i64)⟩ ∧ l.length = fs.size ∧ ∀ n ∈ l, (Lit.int .i64 n).wf = true := by
  obtain ⟨l, rfl, hl⟩ := struct_ints hs hone hint he hC hv h
  refine ⟨l, rfl, hl, ?_⟩
  obtain ⟨fuel, hf⟩ := h
  obtain ⟨xs, n, _, hx, _, hlen, hg⟩ := DataW.trod_struct hs hf
  intro z hz
  obtain ⟨j, hj, rfl⟩ := List.getElem_of_mem hz
  have hj2 : j < fs.size := by omega
  have hfj : fs[j]? = some fs[j] := by simp [hj2]
  obtain ⟨o, k⟩ := hone_of hone j fs[j] hfj
  have g := hg j fs[j] hfj
  rw [o, k] at g
  have ht : fs[j].type = e := by
    have := (Array.all_eq_true.1 hint) j hj2
    simpa using this
  have hy : xs[j]? = some (xs[j]'(by omega)) := by simp
  rw [hy, ht] at g
  simp only [Value.cells] at g
  have e1 : ((l.map (Value.int .i64)).drop j).take 1 = [.int .i64 l[j]] := by
    rw [List.drop_eq_getElem_cons (by simpa using hj)]; simp
  rw [e1] at g
  obtain ⟨m, hm, _, hw⟩ := DataW.trod_int he g
  simp only [List.cons.injEq, and_true, Value.int.injEq, true_and] at hm
  rw [hm]; exact hw
theorem array_intsW {r : Reach} {b0 : Nat} {t e : TypeId} {n : Nat} {v : Value} {d : DataW H} {p : List MemPlace} (hs : P.underlying t = some (.array n e)) (he : P.underlying e = some (.int .i64)) (hce : P.cellsOf e = 1) (hC : P.cellsOf t = n)
    (hv : Value.okWide P w r b0 t v) (h : DataW.Trod enc P w base spare held t v d p) :
    ∃ l : List Int, v = .agg ⟨l.map (Value.int .i64)⟩ ∧ l.length = n ∧ ∀ n ∈ l, (Lit.int .i64 n).wf = true := by
  obtain ⟨l, rfl, hl⟩ := array_ints hs he hce hC hv h
  refine ⟨l, rfl, hl, ?_⟩
  obtain ⟨fuel, hf⟩ := h
  obtain ⟨xs, m, _, hx, _, hlen, hg⟩ := DataW.trod_array hs hf
  intro z hz
  obtain ⟨j, hj, rfl⟩ := List.getElem_of_mem hz
  have g := hg j (by omega)
  rw [hce] at g
  have hy : xs[j]? = some (xs[j]'(by omega)) := by simp
  rw [hy] at g
  simp only [Value.cells, Nat.mul_one] at g
  have e1 : ((l.map (Value.int .i64)).drop j).take 1 = [.int .i64 l[j]] := by
    rw [List.drop_eq_getElem_cons (by simpa using hj)]; simp
  rw [e1] at g
  obtain ⟨m, hm, _, hw⟩ := DataW.trod_int he g
  simp only [List.cons.injEq, and_true, Value.int.injEq, true_and] at hm
  rw [hm]; exact hw
end
theorem list3 {l : List Int} (h : l.length = 3) : ∃ a b c, l = [a, b, c] := by
  match l, h with
  | [a, b, c], _ => exact ⟨a, b, c, rfl⟩
theorem list8 {l : List Int} (h : l.length = 8) : ∃ a b c d e f g i, l = [a, b, c, d, e, f, g, i] := by
  match l, h with
  | [a, b, c, d, e, f, g, i], _ => exact ⟨a, b, c, d, e, f, g, i, rfl⟩
end Go.Proofs.Ytpphnnbijmoodaa
