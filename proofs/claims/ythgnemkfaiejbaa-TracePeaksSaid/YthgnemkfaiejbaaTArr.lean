/-
  ARRAYS by value, whatever their cells: a whole array loaded, stored, made; its cells one by one. (Plain laws, over any program.)
-/
import Derived.Test.YthgnemkfaiejbaaProg
import Derived.WalkKit
import Derived.WalkSpells
import Derived.WalkLawsBesides
import Derived.Handy
import Derived.Deep.WholeRow
import Derived.Lib.Hide
import Derived.Below
set_option linter.unusedVariables false
set_option linter.unusedSimpArgs false
namespace Go.Proofs.Ythgnemkfaiejbaa
open Go.RowKit

section
variable {P : Program} {w : World} {o : Oper} {a : Act} {K : Act → World → Prop} {Q : Exit → Act → World → Prop} {ops : Array Oper} {rest : List Oper}
theorem wp_load_row (t et : TypeId) (p : Operand) (g : Nat) (c : Array Value) (fr : Nat × Nat) (d : TypeDesc) (ho : o.op = .load t p) (hp : a.eval p = .pointer (some ⟨g, 0, none⟩)) (hu : P.underlying t = some d) (hd : (match d with | .struct _ | .array _ _ => true | _ => false) = true)
    (hi : (P.info? t).map (·.size) = some c.size) (hg : w.heap[g]? = some (.cells c et fr)) (h : K (a.put o.dst (.agg c)) w) : o.wp P a w K Q := by
  have hl : (Instr.loadAt t (.pointer (some ⟨g, 0, none⟩))).run P w = .ok (.agg c) w := by
    simp only [Instr.loadAt, Instr.sureAddr, Sem.run_bind, Sem.run_pure, Result.andThen]
    exact run_loadVar_row w g et t c fr d hg hu hd hi
  unfold Oper.wp execOp
  simp only [ho, hp, Sem.run_bind, Sem.run_pure, Result.andThen, hl]
  exact h
theorem exec_load_row (t et : TypeId) (p : Operand) (g : Nat) (c : Array Value) (fr : Nat × Nat) (d : TypeDesc) (ho : o.op = .load t p) (hp : a.eval p = .pointer (some ⟨g, 0, none⟩)) (hu : P.underlying t = some d) (hd : (match d with | .struct _ | .array _ _ => true | _ => false) = true)
    (hi : (P.info? t).map (·.size) = some c.size) (hg : w.heap[g]? = some (.cells c et fr)) : (execOp a.eval o).run P w = .ok (.value (.agg c)) w := by
  have hl : (Instr.loadAt t (.pointer (some ⟨g, 0, none⟩))).run P w = .ok (.agg c) w := by
    simp only [Instr.loadAt, Instr.sureAddr, Sem.run_bind, Sem.run_pure, Result.andThen]
    exact run_loadVar_row w g et t c fr d hg hu hd hi
  unfold execOp
  simp only [ho, hp, Sem.run_bind, Sem.run_pure, Result.andThen, hl]
theorem exec_load_arr (t : TypeId) {et n e : Nat} {p : Operand} {g : Nat} {c : Array Value} {fr : Nat × Nat} (ho : o.op = .load t p) (hp : a.eval p = .pointer (some ⟨g, 0, none⟩)) (hu : P.underlying t = some (.array n e))
    (hi : (P.info? t).map (·.size) = some c.size) (hg : w.heap[g]? = some (.cells c et fr)) : (execOp a.eval o).run P w = .ok (.value (.agg c)) w :=
  exec_load_row t et p g c fr _ ho hp hu rfl hi hg
theorem wp_store_row (t et : TypeId) (p v : Operand) (g : Nat) (old c : Array Value) (ho : o.op = .store t p v) (hp : a.eval p = .pointer (some ⟨g, 0, none⟩)) (hv : a.eval v = .agg c)
    (hi : (P.info? t).map (·.size) = some c.size) (hs : old.size = c.size) (h1 : c.all (·.oneCell') = true) (hg : w.heap[g]? = some (.cells old et (0, 0))) (h : K (a.put o.dst undef) (w.setRow g c)) : o.wp P a w K Q := by
  have hl : (Instr.storeAt t (.pointer (some ⟨g, 0, none⟩)) (.agg c)).run P w = .ok () (w.setRow g c) := by
    simp only [Instr.storeAt, Instr.sureAddr, Sem.run_bind, Sem.run_pure, Result.andThen]
    exact run_storeVar_row w g et t old c hg hi hs h1
  unfold Oper.wp execOp
  simp only [ho, hp, hv, Sem.run_bind, Sem.run_pure, Result.andThen, hl]
  exact h
theorem wp_alloc_row (t : TypeId) (c : Array Value) (ho : o.op = .alloc t) (hz : (zeroValue t).run P w = .ok (.agg c) w) (h : K (a.put o.dst (.pointer (some ⟨w.heap.size, 0, none⟩))) (w.alloc (.cells c t))) : o.wp P a w K Q := by
  unfold Oper.wp execOp
  simp only [ho, Instr.alloc, Sem.run_bind, Sem.run_pure, Result.andThen, hz, newVar, Value.cells]
  go_simp
  exact h
theorem wpl_load (hgd : o.guard = none) (t et : TypeId) (p : Operand) (g : Nat) (c : Array Value) (fr : Nat × Nat) (d : TypeDesc) (ho : o.op = .load t p) (hp : a.eval p = .pointer (some ⟨g, 0, none⟩)) (hu : P.underlying t = some d) (hd : (match d with | .struct _ | .array _ _ => true | _ => false) = true)
    (hi : (P.info? t).map (·.size) = some c.size) (hg : w.heap[g]? = some (.cells c et fr)) (h : wpList P ops Q rest (a.put o.dst (.agg c)) w) : wpList P ops Q (o :: rest) a w :=
  wpList_plain hgd fun K hK => wp_load_row t et p g c fr d ho hp hu hd hi hg (hK _ _ h)
theorem wpl_store (hgd : o.guard = none) (t et : TypeId) (p v : Operand) (g : Nat) (old c : Array Value) (ho : o.op = .store t p v) (hp : a.eval p = .pointer (some ⟨g, 0, none⟩)) (hv : a.eval v = .agg c)
    (hi : (P.info? t).map (·.size) = some c.size) (hs : old.size = c.size) (h1 : c.all (·.oneCell') = true) (hg : w.heap[g]? = some (.cells old et (0, 0))) (h : wpList P ops Q rest (a.put o.dst undef) (w.setRow g c)) : wpList P ops Q (o :: rest) a w :=
  wpList_plain hgd fun K hK => wp_store_row t et p v g old c ho hp hv hi hs h1 hg (hK _ _ h)
theorem wpl_alloc (hgd : o.guard = none) (t : TypeId) (c : Array Value) (ho : o.op = .alloc t) (hz : (zeroValue t).run P w = .ok (.agg c) w) (h : wpList P ops Q rest (a.put o.dst (.pointer (some ⟨w.heap.size, 0, none⟩))) (w.alloc (.cells c t))) : wpList P ops Q (o :: rest) a w :=
  wpList_plain hgd fun K hK => wp_alloc_row t c ho hz (hK _ _ h)
end
@[go_sem] theorem run_store_float {P : Program} {w : World} {a : Addr} {m : Mode} (k : FloatKind) (b : Nat) : (store a (.float k b) m).run P w = stored P w a (.float k b) m := run_store P w a _ m rfl
@[go_sem] theorem run_store_complex {P : Program} {w : World} {a : Addr} {m : Mode} (k : FloatKind) (b c : Nat) : (store a (.complex k b c) m).run P w = stored P w a (.complex k b c) m := run_store P w a _ m rfl
theorem results_cell1 {P : Program} {w : World} {fn : Func} {p : Tmp} {ty : TypeId} (h : fn.results = #[.cell p ty]) (tmps : Array Value) :
    (results fn tmps).run P w = ((asAddr (tmps.getD p undef)).run P w).andThen fun a w₁ => (loadVar ty a).run P w₁ := by
  simp only [results, h]
  simp [Sem.run_bind, Result.andThen]
theorem heap_alloc_at {w : World} {o : Obj} {n : Nat} (h : w.heap.size = n) : (w.alloc o).heap[n]? = some o := by subst h; exact heap_alloc_last w o
theorem block_below {B : Nat} {w w' : World} (h : Below B w w') {g : Nat} {b : Obj} (hg : g < B) (hb : w.heap[g]? = some b) : w'.heap[g]? = some b := (h.block g hg).trans hb
theorem infoTrace : (Try.prog.info? 26).map (·.size) = some 64 := by kernel_rfl

end Go.Proofs.Ythgnemkfaiejbaa
