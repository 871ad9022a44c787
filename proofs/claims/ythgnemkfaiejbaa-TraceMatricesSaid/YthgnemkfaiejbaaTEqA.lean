/-
  WHOLE ARRAYS COMPARED: what is the same, cell by cell, is equal; and whole arrays under guards.
-/
import Derived.Test.YthgnemkfaiejbaaTEnv
import Derived.Test.YthgnemkfaiejbaaTAdd
import Derived.Test.YthgnemkfaiejbaaTraceLagsO
import Derived.ChangeKeysEq
set_option linter.unusedVariables false
set_option linter.unusedSimpArgs false
namespace Go.Proofs.Ythgnemkfaiejbaa
open Go.RowKit

section
variable {P : Program}
theorem run_part_cell {w : World} {e : TypeId} {d : TypeDesc} (hu : P.underlying e = some d) (hd : (match d with | .struct _ | .array _ _ => true | _ => false) = false) {xs : Array Value} {off : Nat} {v : Value} (hx : xs[off]? = some v) : (part e xs off).run P w = .ok v w := by
  cases d <;> first | (simp at hd; done) | simp [part, isAgg, run_underlying hu, hx]
theorem eqItems_true {w : World} {dd : Nat} {e : TypeId} {d : TypeDesc} (hu : P.underlying e = some d) (hd : (match d with | .struct _ | .array _ _ => true | _ => false) = false) (xs ys : Array Value) : ∀ (is : List Nat),
    (∀ i ∈ is, ∃ a b, xs[i * 1]? = some a ∧ ys[i * 1]? = some b ∧ (Op.equalIn dd e a b).run P w = .ok true w) → (Op.eqItems dd e 1 xs ys is).run P w = .ok true w
  | [], _ => by simp [Op.eqItems]
  | i :: is, h => by
    obtain ⟨a, b, h1, h2, h3⟩ := h i (by simp)
    have ih := eqItems_true hu hd xs ys is (fun j hj => h j (by simp [hj]))
    simp only [Op.eqItems, Sem.run_bind, run_part_cell hu hd h1, run_part_cell hu hd h2, h3, Result.andThen_ok]
    simpa using ih
theorem eql_arr {w : World} {t e n : Nat} {i : TypeInfo} {d : TypeDesc} (ht : P.underlying t = some (.array n e)) (hi : P.info? e = some i) (hc : P.cellsOf e = 1) (hu : P.underlying e = some d) (hd : (match d with | .struct _ | .array _ _ => true | _ => false) = false) (xs ys : Array Value)
    (h : ∀ k, k < n → ∃ a b, xs[k]? = some a ∧ ys[k]? = some b ∧ (Op.equalIn 9999 e a b).run P w = .ok true w) : (binOp .eql t (.agg xs) (.agg ys)).run P w = .ok (.bool true) w := by
  rw [run_eql_struct, show (10000 : Nat) = 9999 + 1 from rfl, run_equalIn_array w 9999 xs ys ht hi, hc, eqItems_true hu hd xs ys _ (fun k hk => by rw [Nat.mul_one]; exact h k (by simpa using hk))]
  rfl
end
set_option maxRecDepth 100000 in
set_option maxHeartbeats 2000000 in
theorem eql_sq (s : Nat → Int) (w : World) : (binOp .eql 95 (.agg (sC s)) (.agg (sC s))).run Try.prog w = .ok (.bool true) w := by
  obtain ⟨i, hi⟩ : ∃ i, Try.prog.info? 3 = some i := Option.isSome_iff_exists.1 (by kernel_rfl)
  refine eql_arr Try.underlying95 hi (by kernel_rfl) Try.underlying3 rfl _ _ (fun k hk => ⟨_, _, sC_get s hk, sC_get s hk, ?_⟩)
  rw [show (9999 : Nat) = 9998 + 1 from rfl, run_equalIn_int w 9998 _ _ _ _ _ Try.underlying3]
  simp
theorem eqI_cpx (w : World) : (Op.equalIn 9999 91 (.complex .f32 0 0) (.complex .f32 0 0)).run Try.prog w = .ok true w := by kernel_rfl
set_option maxRecDepth 100000 in
set_option maxHeartbeats 2000000 in
theorem eql_ana0 (w : World) : (binOp .eql 92 (.agg (aC (fun _ => 0) fun _ => 0)) (.agg (aC (fun _ => 0) fun _ => 0))).run Try.prog w = .ok (.bool true) w := by
  obtain ⟨i, hi⟩ : ∃ i, Try.prog.info? 91 = some i := Option.isSome_iff_exists.1 (by kernel_rfl)
  have hz : c64 0 0 = .complex .f32 0 0 := by unfold c64; rw [show wd Ieee.single 0 = 0 by decide +kernel]
  refine eql_arr Try.underlying92 hi (by kernel_rfl) Try.underlying91 rfl _ _ (fun k hk => ⟨_, _, aC_get _ _ hk, aC_get _ _ hk, ?_⟩)
  rw [hz]
  exact eqI_cpx w
section
variable {P : Program} {w : World} {o : Oper} {a : Act} {Q : Exit → Act → World → Prop} {ops : Array Oper} {rest : List Oper}
theorem wpl_build0g (hw : Region.wanted o (yielded ops a.tmps) = true) (t : TypeId) {n e : Nat} (z : Array Value) {sz : Nat} (ho : o.op = .build t #[]) (hz : (zeroValue t).run P w = .ok (.agg z) w) (hu : P.underlying t = some (.array n e)) (hs : (P.info? e).map (·.size) = some sz)
    (h : wpList P ops Q rest (a.put o.dst (.agg z)) w) : wpList P ops Q (o :: rest) a w :=
  wpList_step fun K hK => by
    rw [if_pos hw]
    unfold Oper.wp execOp
    obtain ⟨i, hi⟩ : ∃ i, P.info? e = some i := by
      cases hh : P.info? e with
      | none => rw [hh] at hs; cases hs
      | some i => exact ⟨i, rfl⟩
    simp only [ho, Instr.build, Sem.run_bind, Sem.run_pure, Result.andThen, hz, run_underlying hu, sizeOf, typeInfo, hi, Value.cells, Array.map_empty, Instr.fill]
    simp [go_sem, hi, sizeOf, typeInfo, Instr.fill]
    exact hK _ _ h
theorem wpl_eqg (hw : Region.wanted o (yielded ops a.tmps) = true) (t u : TypeId) (p q : Operand) (xs ys : Array Value) (b : Bool) (ho : o.op = .binOp .eql t p q u) (hp : a.eval p = .agg xs) (hq : a.eval q = .agg ys) (hg : P.eqGuardType P.depth t = false)
    (he : (binOp .eql t (.agg xs) (.agg ys)).run P w = .ok (.bool b) w) (h : wpList P ops Q rest (a.put o.dst (.bool b)) w) : wpList P ops Q (o :: rest) a w :=
  wpList_step fun K hK => by
    rw [if_pos hw]
    unfold Oper.wp execOp
    simp only [ho, hp, hq, Sem.run_bind, Sem.run_pure, Result.andThen, run_eqGuard_agg w _ _ _ _ _ _ hg, he]
    exact hK _ _ h
theorem exec_eql (t u : TypeId) (p q : Operand) (xs ys : Array Value) (b : Bool) (ho : o.op = .binOp .eql t p q u) (hp : a.eval p = .agg xs) (hq : a.eval q = .agg ys) (hg : P.eqGuardType P.depth t = false)
    (he : (binOp .eql t (.agg xs) (.agg ys)).run P w = .ok (.bool b) w) : (execOp a.eval o).run P w = .ok (.value (.bool b)) w := by
  unfold execOp
  simp only [ho, hp, hq, Sem.run_bind, Sem.run_pure, Result.andThen, run_eqGuard_agg w _ _ _ _ _ _ hg, he]
end
end Go.Proofs.Ythgnemkfaiejbaa
