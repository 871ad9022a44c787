/-
  LISTS OF INTEGERS as cells, and words for loops.
-/
import Derived.Test.YtfgeeibfknieaaaAgW
set_option linter.unusedVariables false
set_option linter.unusedSimpArgs false
namespace Go.Proofs.Ytfgeeibfknieaaa
open Go Go.RowKit
namespace Ag
def iv (l : List Int) : List Value := l.map (.int .i64)
theorem iv_get {l : List Int} {k : Nat} (h : k < l.length) : (iv l)[k]? = some (.int .i64 (l.getD k 0)) := by
  unfold iv
  rw [List.getElem?_map, List.getElem?_eq_getElem h, List.getD_eq_getElem?_getD, List.getElem?_eq_getElem h]
  rfl
theorem iv_len (l : List Int) : (iv l).length = l.length := by simp [iv]
theorem iv_snoc (l : List Int) (a : Int) : iv (l ++ [a]) = iv l ++ [.int .i64 a] := by simp [iv]
theorem iv_one (l : List Int) : ∀ u ∈ iv l, u.oneCell' = true := by
  intro u hu
  unfold iv at hu
  obtain ⟨a, _, rfl⟩ := List.mem_map.1 hu
  rfl
theorem len_snoc (l : List Int) (a : Int) : (l ++ [a]).length = l.length + 1 := by simp
structure Ix where
  k : Nat
  a : Option Addr
  c : Nat
theorem weak_rfl {σ σ' : St} (h : σ = σ') : Weak σ σ' := fun _ _ _ s => h ▸ s
theorem weak_trans {σ σ' σ'' : St} (h : Weak σ σ') (k : Weak σ' σ'') : Weak σ σ'' := fun w a w' s => k w a w' (h w a w' s)
/-- the first n from k on whose number isn't 0 -/
def fi (E : Nat → Int) : Nat → Nat → Int × Int
  | 0, _ => (0, 0)
  | m + 1, k => if (E k != 0) = true then ((k : Int), E k) else fi E m (k + 1)
theorem row_at {W : World} {a : Option Addr} {n cap size : Nat} {xs : List Value} {T : TypeId} {o : Bool} (h : (Cel.row a n cap size xs T o).holds W) (hn : 0 < n) : ∃ g, a = some ⟨g, 0, none⟩ := by
  rcases h.2 with ⟨_, h2⟩ | ⟨g, cap', cur, h1, _⟩
  · omega
  · cases h1; exact ⟨g, rfl⟩
end Ag
end Go.Proofs.Ytfgeeibfknieaaa
