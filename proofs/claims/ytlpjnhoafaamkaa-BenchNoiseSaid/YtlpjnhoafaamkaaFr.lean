/-
  ARGUMENTS OPENED, whatever their types: structs and arrays of integers by value, slices of such.
-/
import Derived.Test.YtlpjnhoafaamkaaRows
import Derived.ProofKit
import Derived.OpenShut
import Derived.ShutString
import Derived.ChangeOld
import Derived.Below
import Derived.Lib.SmallJoins
import Derived.Deep.Slices
set_option linter.unusedVariables false
set_option linter.unusedSimpArgs false
namespace Go.Proofs.Ytlpjnhoafaamkaa
open Go.ChangeShapes Go.WideShapes Go.ChangeAt Go.RowKit Go.Joins Go.Deep

theorem own : ownKnob Try.prog.godebug = none := by kernel_rfl
theorem laidOut : laidOutB Try.prog = true := by kernel_rfl

section
variable {H : Type} {enc : TypeId × Value → H} {P : Program} {w : World} {base : Nat} {spare : Nat → Bool} {held : Bool}
/-- the number in a cell -/
def numIn : Value → Int
  | .int _ n => n
  | _ => 0
theorem struct_ints {r : Reach} {b0 : Nat} {t e : TypeId} {fs : Array Field} {v : Value} {d : DataW H} {p : List MemPlace} (hs : P.underlying t = some (.struct fs)) (hone : oneCellFields P fs = true) (hint : fs.all (fun f => f.type == e) = true) (he : P.underlying e = some (.int .i64)) (hC : P.cellsOf t = fs.size)
    (hv : Value.okWide P w r b0 t v) (h : DataW.Trod enc P w base spare held t v d p) :
    ∃ l : List Int, v = .agg ⟨l.map (Value.int .i64)⟩ ∧ l.length = fs.size := by
  obtain ⟨cs, rfl, hsz⟩ := okWide_struct hs hv
  obtain ⟨l⟩ := cs
  have hsz : l.length = P.cellsOf t := hsz
  obtain ⟨fuel, hf⟩ := h
  obtain ⟨xs, n, _, hx, _, hlen, hg⟩ := DataW.trod_struct hs hf
  refine ⟨l.map numIn, ?_, by simp; omega⟩
  congr 2
  apply List.ext_getElem
  · simp
  · intro j h1 h2
    have hj : j < fs.size := by omega
    have hfj : fs[j]? = some fs[j] := by simp [hj]
    obtain ⟨o, k⟩ := hone_of hone j fs[j] hfj
    have g := hg j fs[j] hfj
    rw [o, k] at g
    have ht : fs[j].type = e := by
      have := (Array.all_eq_true.1 hint) j hj
      simpa using this
    have hy : xs[j]? = some (xs[j]'(by omega)) := by simp
    rw [hy, ht] at g
    simp only [Value.cells] at g
    have e1 : (l.drop j).take 1 = [l[j]] := by
      rw [List.drop_eq_getElem_cons h1]; rfl
    rw [e1] at g
    obtain ⟨m, hm, _, _⟩ := DataW.trod_int he g
    simp only [List.cons.injEq, and_true] at hm
    simp [hm, numIn]
end
theorem list2 {l : List Int} (h : l.length = 2) : ∃ a b, l = [a, b] := by
  match l, h with
  | [a, b], _ => exact ⟨a, b, rfl⟩
theorem list4 {l : List Int} (h : l.length = 4) : ∃ a b c d, l = [a, b, c, d] := by
  match l, h with
  | [a, b, c, d], _ => exact ⟨a, b, c, d, rfl⟩
theorem list6 {l : List Int} (h : l.length = 6) : ∃ a b c d e f, l = [a, b, c, d, e, f] := by
  match l, h with
  | [a, b, c, d, e, f], _ => exact ⟨a, b, c, d, e, f, rfl⟩

section
variable {H : Type} {enc : TypeId × Value → H} {P : Program} {w : World} {base : Nat} {spare : Nat → Bool} {held : Bool}
theorem okWide_arr {r : Reach} {b0 : Nat} {t e : TypeId} {n : Nat} {v : Value} (ht : P.underlying t = some (.array n e)) (h : Value.okWide P w r b0 t v) : ∃ cs, v = .agg cs ∧ cs.size = P.cellsOf t := by
  simp only [Value.okWide, ht] at h
  obtain ⟨cs, h1, h2, _⟩ := h
  exact ⟨cs, h1, h2⟩
theorem array_ints {r : Reach} {b0 : Nat} {t e : TypeId} {n : Nat} {v : Value} {d : DataW H} {p : List MemPlace} (hs : P.underlying t = some (.array n e)) (he : P.underlying e = some (.int .i64)) (hce : P.cellsOf e = 1) (hC : P.cellsOf t = n)
    (hv : Value.okWide P w r b0 t v) (h : DataW.Trod enc P w base spare held t v d p) :
    ∃ l : List Int, v = .agg ⟨l.map (Value.int .i64)⟩ ∧ l.length = n := by
  obtain ⟨cs, rfl, hsz⟩ := okWide_arr hs hv
  obtain ⟨l⟩ := cs
  have hsz : l.length = P.cellsOf t := hsz
  obtain ⟨fuel, hf⟩ := h
  obtain ⟨xs, m, _, hx, _, hlen, hg⟩ := DataW.trod_array hs hf
  refine ⟨l.map numIn, ?_, by simp; omega⟩
  congr 2
  apply List.ext_getElem
  · simp
  · intro j h1 h2
    have hj : j < n := by omega
    have g := hg j hj
    rw [hce] at g
    have hy : xs[j]? = some (xs[j]'(by omega)) := by simp
    rw [hy] at g
    simp only [Value.cells, Nat.mul_one] at g
    have e1 : (l.drop j).take 1 = [l[j]] := by
      rw [List.drop_eq_getElem_cons h1]; rfl
    rw [e1] at g
    obtain ⟨m, hm, _, _⟩ := DataW.trod_int he g
    simp only [List.cons.injEq, and_true] at hm
    simp [hm, numIn]
end
theorem cellsInt : Try.prog.cellsOf 3 = 1 := by kernel_rfl

theorem wf_in {n : Int} (h : (Lit.int .i64 n).wf = true) : -9223372036854775808 ≤ n ∧ n ≤ 9223372036854775807 := by
  have h2 : (decide (IntKind.min .i64 ≤ n) && decide (n ≤ IntKind.max .i64)) = true := h
  rw [Bool.and_eq_true] at h2
  exact ⟨of_decide_eq_true h2.1, of_decide_eq_true h2.2⟩
section
variable {H : Type} {enc : TypeId × Value → H} {P : Program} {w : World} {base : Nat} {spare : Nat → Bool} {held : Bool}
theorem struct_intsW {r : Reach} {b0 : Nat} {t e : TypeId} {fs : Array Field} {v : Value} {d : DataW H} {p : List MemPlace} (hs : P.underlying t = some (.struct fs)) (hone : oneCellFields P fs = true) (hint : fs.all (fun f => f.type == e) = true) (he : P.underlying e = some (.int .i64)) (hC : P.cellsOf t = fs.size)
    (hv : Value.okWide P w r b0 t v) (h : DataW.Trod enc P w base spare held t v d p) :
    ∃ l : List Int, v = .agg ⟨l.map (Value.int .i64)⟩ ∧ l.length = fs.size ∧ ∀ n ∈ l, (Lit.int .i64 n).wf = true := by
  obtain ⟨l, rfl, hl⟩ := struct_ints hs hone hint he hC hv h
  refine ⟨l, rfl, hl, ?_⟩
  obtain ⟨fuel, hf⟩ := h
  obtain ⟨xs, n, _, hx, _, hlen, hg⟩ := DataW.trod_struct hs hf
  intro z hz
  obtain ⟨j, hj, rfl⟩ := List.getElem_of_mem hz
  have hj2 : j < fs.size := by omega
  have hfj : fs[j]? = some fs[j] := by simp [hj2]
  obtain ⟨o, k⟩ := hone_of hone j fs[j] hfj
  have g := hg j fs[j] hfj
  rw [o, k] at g
  have ht : fs[j].type = e := by
    have := (Array.all_eq_true.1 hint) j hj2
    simpa using this
  have hy : xs[j]? = some (xs[j]'(by omega)) := by simp
  rw [hy, ht] at g
  simp only [Value.cells] at g
  have e1 : ((l.map (Value.int .i64)).drop j).take 1 = [.int .i64 l[j]] := by
    rw [List.drop_eq_getElem_cons (by simpa using hj)]; simp
  rw [e1] at g
  obtain ⟨m, hm, _, hw⟩ := DataW.trod_int he g
  simp only [List.cons.injEq, and_true, Value.int.injEq, true_and] at hm
  rw [hm]; exact hw
theorem array_intsW {r : Reach} {b0 : Nat} {t e : TypeId} {n : Nat} {v : Value} {d : DataW H} {p : List MemPlace} (hs : P.underlying t = some (.array n e)) (he : P.underlying e = some (.int .i64)) (hce : P.cellsOf e = 1) (hC : P.cellsOf t = n)
    (hv : Value.okWide P w r b0 t v) (h : DataW.Trod enc P w base spare held t v d p) :
    ∃ l : List Int, v = .agg ⟨l.map (Value.int .i64)⟩ ∧ l.length = n ∧ ∀ n ∈ l, (Lit.int .i64 n).wf = true := by
  obtain ⟨l, rfl, hl⟩ := array_ints hs he hce hC hv h
  refine ⟨l, rfl, hl, ?_⟩
  obtain ⟨fuel, hf⟩ := h
  obtain ⟨xs, m, _, hx, _, hlen, hg⟩ := DataW.trod_array hs hf
  intro z hz
  obtain ⟨j, hj, rfl⟩ := List.getElem_of_mem hz
  have g := hg j (by omega)
  rw [hce] at g
  have hy : xs[j]? = some (xs[j]'(by omega)) := by simp
  rw [hy] at g
  simp only [Value.cells, Nat.mul_one] at g
  have e1 : ((l.map (Value.int .i64)).drop j).take 1 = [.int .i64 l[j]] := by
    rw [List.drop_eq_getElem_cons (by simpa using hj)]; simp
  rw [e1] at g
  obtain ⟨m, hm, _, hw⟩ := DataW.trod_int he g
  simp only [List.cons.injEq, and_true, Value.int.injEq, true_and] at hm
  rw [hm]; exact hw
end
theorem list3 {l : List Int} (h : l.length = 3) : ∃ a b c, l = [a, b, c] := by
  match l, h with
  | [a, b, c], _ => exact ⟨a, b, c, rfl⟩
theorem list8 {l : List Int} (h : l.length = 8) : ∃ a b c d e f g i, l = [a, b, c, d, e, f, g, i] := by
  match l, h with
  | [a, b, c, d, e, f, g, i], _ => exact ⟨a, b, c, d, e, f, g, i, rfl⟩

section
variable {H : Type} {enc : TypeId × Value → H} {P : Program} {w : World} {base : Nat} {spare : Nat → Bool} {held : Bool}
def IsI (c : Value) : Prop := ∃ n, c = .int .i64 n ∧ (Lit.int .i64 n).wf = true
/-- what is read at this type lies in integers only -/
def IntsT (H : Type) (enc : TypeId × Value → H) (P : Program) (w : World) (base : Nat) (spare : Nat → Bool) (held : Bool) (t : TypeId) : Prop :=
  ∀ fuel cs x, DataW.trod enc P w base spare held fuel t cs = some x → ∀ c ∈ cs, IsI c
theorem intsT_int {t : TypeId} (h : P.underlying t = some (.int .i64)) : IntsT H enc P w base spare held t := by
  intro fuel cs x hx c hc
  obtain ⟨n, rfl, _, hw⟩ := DataW.trod_int h hx
  simp only [List.mem_cons, List.not_mem_nil, or_false] at hc
  exact ⟨n, hc, hw⟩
theorem intsT_struct {t : TypeId} {fs : Array Field} (h : P.underlying t = some (.struct fs)) (hc : ((List.range (P.cellsOf t)).all fun j => fs.any fun f => decide (f.offset ≤ j) && decide (j < f.offset + P.cellsOf f.type)) = true)
    (hf : ∀ f ∈ fs, IntsT H enc P w base spare held f.type) : IntsT H enc P w base spare held t := by
  intro fuel cs x hx c hcs
  obtain ⟨xs, n, _, _, hl, hxl, hg⟩ := DataW.trod_struct h hx
  obtain ⟨j, hj, rfl⟩ := List.getElem_of_mem hcs
  have h1 := List.all_eq_true.1 hc j (List.mem_range.2 (by omega))
  obtain ⟨i, hi, h2⟩ := Array.any_eq_true.1 h1
  simp only [Bool.and_eq_true, decide_eq_true_eq] at h2
  have g := hg i fs[i] (by simp [hi])
  have hx2 : xs[i]? = some (xs[i]'(by omega)) := by simp
  rw [hx2] at g
  refine hf fs[i] (Array.getElem_mem hi) n _ _ g _ ?_
  rw [List.mem_take_iff_getElem]
  exact ⟨j - fs[i].offset, by simp; omega, by simp [Nat.add_sub_cancel' h2.1]⟩
theorem intsT_array {t e : TypeId} {n : Nat} (h : P.underlying t = some (.array n e)) (hc : ((List.range (P.cellsOf t)).all fun j => (List.range n).any fun i => decide (i * P.cellsOf e ≤ j) && decide (j < i * P.cellsOf e + P.cellsOf e)) = true)
    (he : IntsT H enc P w base spare held e) : IntsT H enc P w base spare held t := by
  intro fuel cs x hx c hcs
  obtain ⟨xs, m, _, _, hl, hxl, hg⟩ := DataW.trod_array h hx
  obtain ⟨j, hj, rfl⟩ := List.getElem_of_mem hcs
  have h1 := List.all_eq_true.1 hc j (List.mem_range.2 (by omega))
  obtain ⟨i, hi, h2⟩ := List.any_eq_true.1 h1
  rw [List.mem_range] at hi
  simp only [Bool.and_eq_true, decide_eq_true_eq] at h2
  have g := hg i hi
  have hx2 : xs[i]? = some (xs[i]'(by omega)) := by simp
  rw [hx2] at g
  refine he m _ _ g _ ?_
  rw [List.mem_take_iff_getElem]
  exact ⟨j - i * P.cellsOf e, by simp; omega, by simp [Nat.add_sub_cancel' h2.1]⟩
theorem ints_list : ∀ {cs : List Value}, (∀ c ∈ cs, IsI c) → ∃ l : List Int, cs = l.map (Value.int .i64) ∧ ∀ n ∈ l, (Lit.int .i64 n).wf = true
  | [], _ => ⟨[], rfl, fun _ h => by cases h⟩
  | c :: cs, h => by
    obtain ⟨n, rfl, hw⟩ := h c (List.mem_cons_self ..)
    obtain ⟨l, rfl, hl⟩ := ints_list (cs := cs) fun c hc => h c (List.mem_cons_of_mem _ hc)
    exact ⟨n :: l, rfl, fun m hm => (List.mem_cons.1 hm).elim (fun e => e ▸ hw) (hl m)⟩
theorem okWide_agg {r : Reach} {b0 : Nat} {t : TypeId} {v : Value} (hs : (∃ fs, P.underlying t = some (.struct fs)) ∨ ∃ n e, P.underlying t = some (.array n e)) (hv : Value.okWide P w r b0 t v) : ∃ cs, v = .agg cs ∧ cs.size = P.cellsOf t := by
  rcases hs with ⟨fs, hs⟩ | ⟨n, e, hs⟩
  · exact okWide_struct hs hv
  · exact okWide_arr hs hv
theorem open_flat {r : Reach} {b0 : Nat} {t : TypeId} {v : Value} {d : DataW H} {p : List MemPlace} (hs : (∃ fs, P.underlying t = some (.struct fs)) ∨ ∃ n e, P.underlying t = some (.array n e)) (hI : IntsT H enc P w base spare held t)
    (hv : Value.okWide P w r b0 t v) (h : DataW.Trod enc P w base spare held t v d p) :
    ∃ l : List Int, v = .agg ⟨l.map (Value.int .i64)⟩ ∧ l.length = P.cellsOf t ∧ ∀ n ∈ l, (Lit.int .i64 n).wf = true := by
  obtain ⟨cs, rfl, hsz⟩ := okWide_agg hs hv
  obtain ⟨fuel, hf⟩ := h
  obtain ⟨l, hl, hw⟩ := ints_list (hI fuel _ _ hf)
  have e : cs.toList = l.map (Value.int .i64) := hl
  refine ⟨l, by rw [← e], ?_, hw⟩
  have := congrArg List.length e
  simp at this
  omega
end
theorem list7 {l : List Int} (h : l.length = 7) : ∃ a b c d e f g, l = [a, b, c, d, e, f, g] := by
  match l, h with
  | [a, b, c, d, e, f, g], _ => exact ⟨a, b, c, d, e, f, g, rfl⟩
theorem list14 {l : List Int} (h : l.length = 14) : ∃ a b c d e f g i j k m n o p, l = [a, b, c, d, e, f, g, i, j, k, m, n, o, p] := by
  match l, h with
  | [a, b, c, d, e, f, g, i, j, k, m, n, o, p], _ => exact ⟨a, b, c, d, e, f, g, i, j, k, m, n, o, p, rfl⟩
section
variable {H : Type} {enc : TypeId × Value → H} {w : World} {base : Nat} {spare : Nat → Bool} {held : Bool}
theorem fields_cons {p : Field → Prop} {f : Field} {l : List Field} (h : p f) (hl : ∀ g ∈ (⟨l⟩ : Array Field), p g) : ∀ g ∈ (⟨f :: l⟩ : Array Field), p g := by
  intro g hg
  rw [List.mem_toArray, List.mem_cons] at hg
  rcases hg with rfl | hg
  · exact h
  · exact hl g (List.mem_toArray.2 hg)
theorem fields_nil {p : Field → Prop} : ∀ g ∈ (⟨[]⟩ : Array Field), p g := fun g hg => by simp at hg
theorem iInt : IntsT H enc Try.prog w base spare held 3 := intsT_int Try.underlying3
end
section
variable {H : Type} {enc : TypeId × Value → H} {P : Program} {w : World} {base : Nat} {spare : Nat → Bool} {held : Bool}
theorem cell_spot {w : World} {a : Addr} {v : Value} (h : w.cell? a = some v) : a.spot = none ∧ a.block < w.heap.size := by
  unfold World.cell? at h
  split at h
  · rename_i hb
    refine ⟨?_, (Array.getElem?_eq_some_iff.1 hb).1⟩
    cases hs : a.spot with
    | none => rfl
    | some s => rw [hs] at h; simp at h
  · cases h
/-- a slice of elements that lie in whole numbers only, at every element -/
theorem open_slice_flat {r : Reach} {b0 : Nat} {t e : TypeId} {v : Value} {d : DataW H} {p : List MemPlace} (ht : P.underlying t = some (.slice e)) (hI : IntsT H enc P w base spare held e) (hpos : 0 < P.cellsOf e)
    (hv : Value.okWide P w r b0 t v) (h : DataW.Trod enc P w base spare held t v d p) :
    ∃ (q : Option Addr) (len cap : Nat), v = .slice q len cap ∧ len ≤ cap ∧ cap ≤ maxLen ∧ (q = none → len = 0 ∧ cap = 0) ∧
      (0 < len → ∃ g o, q = some ⟨g, o, none⟩ ∧ g < w.heap.size ∧ ∃ f : Nat → List Int, ∀ i, i < len → (f i).length = P.cellsOf e ∧ (∀ n ∈ f i, (Lit.int .i64 n).wf = true) ∧ ∀ j, j < P.cellsOf e → w.cell? ⟨g, o + (i * P.cellsOf e + j), none⟩ = ((f i).map (Value.int .i64))[j]?) := by
  obtain ⟨q, len, cap, rfl⟩ := okWide_slice ht hv
  obtain ⟨fuel, hf⟩ := h
  rcases open_slice ht hf with ⟨hcs, _⟩ | ⟨a, len', cap', m, n, D, Pl, hcs, hb, hl, hm, hmm, _, hx⟩
  · simp [Value.cells] at hcs
    obtain ⟨rfl, rfl, rfl⟩ := hcs
    exact ⟨none, 0, 0, rfl, Nat.le_refl _, by unfold maxLen; omega, fun _ => ⟨rfl, rfl⟩, fun h => absurd h (Nat.lt_irrefl _)⟩
  · simp [Value.cells] at hcs
    obtain ⟨rfl, rfl, rfl⟩ := hcs
    have hlm : len ≤ m := by rw [hmm]; split <;> omega
    refine ⟨_, _, _, rfl, hl, hm, (fun h => by cases h), fun h0 => ?_⟩
    have hex : ∀ i, i < m → ∃ l : List Int, l.length = P.cellsOf e ∧ (∀ n ∈ l, (Lit.int .i64 n).wf = true) ∧ ∀ j, j < P.cellsOf e → w.cell? (a.add (i * P.cellsOf e + j)) = (l.map (Value.int .i64))[j]? := by
      intro i hi
      obtain ⟨cs', hc, ht'⟩ := hx i hi
      obtain ⟨_, hcl, hat⟩ := World.cells?_some hc
      obtain ⟨l, hl', hw⟩ := ints_list (hI _ _ _ ht')
      subst hl'
      refine ⟨l, by simpa using hcl, hw, fun j hj => ?_⟩
      have := hat j hj
      rw [Go.Deep.add_add] at this
      exact this
    have hch : ∃ f : Nat → List Int, ∀ i, i < m → (f i).length = P.cellsOf e ∧ (∀ n ∈ f i, (Lit.int .i64 n).wf = true) ∧ ∀ j, j < P.cellsOf e → w.cell? (a.add (i * P.cellsOf e + j)) = ((f i).map (Value.int .i64))[j]? := by
      refine ⟨fun i => if hi : i < m then Classical.choose (hex i hi) else [], fun i hi => ?_⟩
      simp only [hi, dif_pos]
      exact Classical.choose_spec (hex i hi)
    obtain ⟨f, hf'⟩ := hch
    have c0 := (hf' 0 (by omega)).2.2 0 hpos
    have l0 := (hf' 0 (by omega)).1
    rw [List.getElem?_map, List.getElem?_eq_getElem (by omega)] at c0
    simp only [Option.map_some] at c0
    have sp := cell_spot c0
    obtain ⟨blk, off, spt⟩ := a
    have s1 : spt = none := by simpa [Addr.add] using sp.1
    subst s1
    refine ⟨blk, off, rfl, by simpa [Addr.add] using sp.2, f, fun i hi => ?_⟩
    have := hf' i (by omega)
    refine ⟨this.1, this.2.1, fun j hj => ?_⟩
    have h2 := this.2.2 j hj
    rw [Addr.add_lit] at h2
    exact h2
end
theorem PmapsRowed : mapsRowed Try.prog = true := by kernel_rfl
theorem PpStops : (Try.prog.stops == []) = true := by kernel_rfl
theorem PpKnobs : (Try.prog.stopKnobs == []) = true := by kernel_rfl
theorem PpHeard : Try.prog.stopsHeard = true := by kernel_rfl
theorem PpEnter : Try.prog.mayEnter = true := by kernel_rfl
theorem joined_mk {P : Program} {f : FuncId} {fn : Func} {s : ChangeSpec} {c : OpenClaim} (h1 : c.wf (OpenSpec.ofChange s) = true) (h2 : laidOutB P = true) (h3 : mapsRowed P = true) (h4 : fn.params.all (P.readableRec ·) = true) (h5 : namedTie P c.named s.vars = true) (h6 : (c.stops == []) = true) (h7 : (P.stops == []) = true) (h8 : (c.knobs == []) = true) (h9 : (P.stopKnobs == []) = true)
    (h10 : (c.inPlace == P.inPlace f) = true) (h11 : (c.unfollowed == P.unfollowed f) = true) (h12 : (c.recurses == P.recurses f) = true) (h13 : (c.named == P.varsNamed f) = true) (h14 : (c.maps == (fn.params.toList ++ s.plain.varTypes P).any (P.mapsRec ·)) = true) (h15 : (c.ifaces == (fn.params.toList ++ s.plain.varTypes P).any (P.ifacesRec ·)) = true) (h16 : (c.mapsOut == P.mapsAmong fn.resultTypes.toList) = true)
    (h17 : (c.loops == (fn.params.toList ++ s.plain.varTypes P).any (P.loopsFrom ·)) = true) (h18 : (c.wideKeys == (fn.params.toList ++ s.plain.varTypes P ++ fn.resultTypes.toList).any (P.wideKeysFrom ·)) = true) (h19 : s.vars.all (P.varReadable ·) = true) (h20 : fn.resultTypes.all (fun t => P.readableRec t && decide (t < P.types.size)) = true) (h21 : (c.ifacesOut == fn.resultTypes.toList.any (P.ifacesRec ·)) = true)
    (h22 : (c.loopsOut == fn.resultTypes.toList.any (P.loopsFrom ·)) = true) (h23 : (c.plainKeys == P.plainKeys) = true) (h24 : c.shortTexts.isNone = true) (h25 : P.stopsHeard = true) (h26 : P.mayEnter = true) (h27 : (c.lifted == P.liftsFinal) = true) (h28 : (P.make == some c.make) = true) (h29 : (c.kinds == (if c.domain.isEmpty then [] else fn.params.toList.map fun t => match P.underlying t with | some (.int k) => some k | _ => none)) = true) (h30 : (c.pinned == c.pinnedBy) = true)
    (h31 : (c.veiled == (fn.params.toList ++ s.plain.varTypes P ++ fn.resultTypes.toList).any (P.veiledRec ·)) = true) (h32 : c.veiledFits P fn.params.toList (fn.params.toList ++ s.plain.varTypes P ++ fn.resultTypes.toList) = true) : joinedFacts P f fn s c = true := by
  simp only [joinedFacts, Bool.and_eq_true]
  exact ⟨⟨⟨⟨⟨⟨⟨⟨⟨⟨⟨⟨⟨⟨⟨⟨⟨⟨⟨⟨⟨⟨⟨⟨⟨⟨⟨⟨⟨⟨⟨h1, h2⟩, h3⟩, h4⟩, h5⟩, h6⟩, h7⟩, h8⟩, h9⟩, h10⟩, h11⟩, h12⟩, h13⟩, h14⟩, h15⟩, h16⟩, h17⟩, h18⟩, h19⟩, h20⟩, h21⟩, h22⟩, h23⟩, h24⟩, h25⟩, h26⟩, h27⟩, h28⟩, h29⟩, h30⟩, h31⟩, h32⟩
end Go.Proofs.Ytlpjnhoafaamkaa
