/-
  LISTS OF INTEGERS as cells, and words for loops.
-/
import Derived.Test.YtlpjnhoafaamkaaAgW
set_option linter.unusedVariables false
set_option linter.unusedSimpArgs false
namespace Go.Proofs.Ytlpjnhoafaamkaa
open Go Go.RowKit
namespace Ag
def iv (l : List Int) : List Value := l.map (.int .i64)
theorem iv_get {l : List Int} {k : Nat} (h : k < l.length) : (iv l)[k]? = some (.int .i64 (l.getD k 0)) := by
  unfold iv
  rw [List.getElem?_map, List.getElem?_eq_getElem h, List.getD_eq_getElem?_getD, List.getElem?_eq_getElem h]
  rfl
theorem iv_len (l : List Int) : (iv l).length = l.length := by simp [iv]
theorem iv_snoc (l : List Int) (a : Int) : iv (l ++ [a]) = iv l ++ [.int .i64 a] := by simp [iv]
theorem iv_one (l : List Int) : ∀ u ∈ iv l, u.oneCell' = true := by
  intro u hu
  unfold iv at hu
  obtain ⟨a, _, rfl⟩ := List.mem_map.1 hu
  rfl
theorem len_snoc (l : List Int) (a : Int) : (l ++ [a]).length = l.length + 1 := by simp
structure Ix where
  k : Nat
  a : Option Addr
  c : Nat
theorem weak_rfl {σ σ' : St} (h : σ = σ') : Weak σ σ' := fun _ _ _ s => h ▸ s
theorem weak_trans {σ σ' σ'' : St} (h : Weak σ σ') (k : Weak σ' σ'') : Weak σ σ'' := fun w a w' s => k w a w' (h w a w' s)
/-- the first n from k on whose number isn't 0 -/
def fi (E : Nat → Int) : Nat → Nat → Int × Int
  | 0, _ => (0, 0)
  | m + 1, k => if (E k != 0) = true then ((k : Int), E k) else fi E m (k + 1)
theorem row_at {W : World} {a : Option Addr} {n cap size : Nat} {xs : List Value} {T : TypeId} {o : Bool} (h : (Cel.row a n cap size xs T o).holds W) (hn : 0 < n) : ∃ g, a = some ⟨g, 0, none⟩ := by
  rcases h.2 with ⟨_, h2⟩ | ⟨g, cap', cur, h1, _⟩
  · omega
  · cases h1; exact ⟨g, rfl⟩
theorem sem_quo {P : Program} {t : TypeId} {x y : Operand} {a b : Int} (h : b ≠ 0) : SemOb P (do eqGuard .quo t x y (.int .i64 a) (.int .i64 b); binOp .quo t (.int .i64 a) (.int .i64 b)) (.int .i64 (IntKind.i64.wrap (Int.tdiv a b))) := by
  intro w
  simp [eqGuard, binOp, Op.intDiv, h, Sem.run_bind]
theorem sem_rem {P : Program} {t : TypeId} {x y : Operand} {a b : Int} (h : b ≠ 0) : SemOb P (do eqGuard .rem t x y (.int .i64 a) (.int .i64 b); binOp .rem t (.int .i64 a) (.int .i64 b)) (.int .i64 (Int.tmod a b)) := by
  intro w
  simp [eqGuard, binOp, Op.intDiv, h, Sem.run_bind]
theorem row_vue {W : World} {g n cap size : Nat} {xs ys : List Value} {T : TypeId} {o : Bool} (h : (Cel.row (some ⟨g, 0, none⟩) n cap size xs T o).holds W) (hp : ∀ (j : Nat) (u : Value), ys[j]? = some u → xs[j]? = some u) : (Cel.vue g 0 ys).holds W :=
  ⟨Cel.lt h rfl, fun j u hu => by rw [Nat.zero_add]; exact Cel.view_cell rfl h (hp j u hu)⟩
theorem iv_pre (f : List Int) (y : Int) (j : Nat) (u : Value) (h : (iv f)[j]? = some u) : (iv (f ++ [y]))[j]? = some u := by
  rw [iv_snoc, List.getElem?_append_left (List.getElem?_eq_some_iff.1 h).1]; exact h
/-- a part of a row from its beginning on -/
theorem sem_first {P : Program} {t el : TypeId} {g n cap m : Nat} {s : Nat} (hu : P.underlying t = some (.slice el)) (hs : (P.info? el).map (·.size) = some s) (h : m ≤ cap) (hc : cap ≤ maxLen) : SemOb P (Instr.sliceAt t (.slice (some ⟨g, 0, none⟩) n cap) none (some (.int .i64 ((m : Nat) : Int))) none) (.slice (some ⟨g, 0, none⟩) m cap) := by
  intro w
  unfold maxLen at hc
  have h2 : ((0 : Int) ≤ ((m : Nat) : Int) ∧ ((m : Nat) : Int) ≤ ((cap : Nat) : Int)) := ⟨by omega, by omega⟩
  simp [Instr.sliceAt, Instr.slice, Instr.sliceBounds, Instr.sliceBound, asIntOf, run_underlying hu, run_sizeOf hs, Sem.run_bind, h2, h, Addr.add]
end Ag
end Go.Proofs.Ytlpjnhoafaamkaa
