/-
  EQUALITY of structs of integers, whatever their numbers.
-/
import Derived.Test.YtlpjnhoafaamkaaAgO
import Derived.Laws.StructEq
set_option linter.unusedVariables false
set_option linter.unusedSimpArgs false
namespace Go.Proofs.Ytlpjnhoafaamkaa
open Go Go.RowKit
namespace Ag

/-- fields that are integers, one cell each, one behind the other -/
def intFs (P : Program) : Nat → List Field → Bool
  | _, [] => true
  | k, f :: fs => f.name != "_" && f.offset == k && (match P.underlying f.type with | some (.int .i64) => true | _ => false) && intFs P (k + 1) fs
theorem run_part_int {P : Program} {t : TypeId} (h : P.underlying t = some (.int .i64)) {cs : Array Value} {k : Nat} {v : Value} (hv : cs[k]? = some v) (w : World) : (part t cs k).run P w = .ok v w := by
  have hagg : (isAgg t).run P w = .ok false w := by
    unfold isAgg
    rw [Sem.run_bind, run_underlying h w]
    rfl
  simp [part, Sem.run_bind, hagg, hv]
theorem run_eqFields_ints {P : Program} (d : Nat) (xs ys : List Int) : ∀ (fs : List Field) (k : Nat), intFs P k fs = true → k + fs.length = xs.length → ys.length = xs.length → ∀ w, (Op.eqFields (d + 1) (xs.map (Value.int .i64)).toArray (ys.map (Value.int .i64)).toArray fs).run P w = .ok (xs.drop k == ys.drop k) w
  | [], k, _, hl, hy, w => by
    simp only [List.length_nil, Nat.add_zero] at hl
    rw [List.drop_of_length_le (by omega), List.drop_of_length_le (by omega)]
    rfl
  | f :: fs, k, h, hl, hy, w => by
    simp only [intFs, Bool.and_eq_true, bne_iff_ne, ne_eq, beq_iff_eq] at h
    obtain ⟨⟨⟨h1, h2⟩, h3⟩, h4⟩ := h
    simp only [List.length_cons] at hl
    have hu : P.underlying f.type = some (.int .i64) := by
      split at h3
      · assumption
      · cases h3
    have hx : k < xs.length := by omega
    have hyk : k < ys.length := by omega
    have ih := run_eqFields_ints d xs ys fs (k + 1) h4 (by omega) hy w
    have p1 := run_part_int hu (cs := (xs.map (Value.int .i64)).toArray) (k := f.offset) (v := .int .i64 xs[k]) (by simp [h2, hx]) w
    have p2 := run_part_int hu (cs := (ys.map (Value.int .i64)).toArray) (k := f.offset) (v := .int .i64 ys[k]) (by simp [h2, hyk]) w
    simp only [Op.eqFields, ne_eq, h1, not_false_eq_true, if_true, Sem.run_bind, p1, p2, Result.andThen_ok, run_equalIn_int w d f.type .i64 .i64 _ _ hu, Sem.run_ite, Sem.run_pure]
    rw [List.drop_eq_getElem_cons hx, List.drop_eq_getElem_cons hyk]
    by_cases he : xs[k] = ys[k]
    · have hb : (xs[k] == ys[k]) = true := by simpa using he
      rw [hb]
      simp only [Bool.not_true, Bool.false_eq_true, if_false]
      rw [ih]
      simp only [List.cons_beq_cons, hb, Bool.true_and]
    · have hb : (xs[k] == ys[k]) = false := by simpa using he
      rw [hb]
      simp only [Bool.not_false, if_true]
      simp only [List.cons_beq_cons, hb, Bool.false_and]
theorem eq_ints {P : Program} {t : TypeId} {x y : Operand} (xs ys : List Int) (hS : P.underlying t = some (.struct (P.fieldsOf t))) (hp : P.stoodInHeld t = false) (hm : P.eqGuardType P.depth t = false) (hf : intFs P 0 (P.fieldsOf t).toList = true) (hx : (P.fieldsOf t).toList.length = xs.length) (hy : ys.length = xs.length) :
    SemOb P (do eqGuard .eql t x y (.agg (xs.map (Value.int .i64)).toArray) (.agg (ys.map (Value.int .i64)).toArray); binOp .eql t (.agg (xs.map (Value.int .i64)).toArray) (.agg (ys.map (Value.int .i64)).toArray)) (.bool (xs == ys)) := by
  intro w
  rw [Sem.run_bind, run_eqGuard_agg w _ _ _ _ _ _ hm, Result.andThen_ok, run_eql_struct, show (10000 : Nat) = 9999 + 1 from rfl, run_equalIn_agg w 9999 t _ _ hS hp, show (9999 : Nat) = 9998 + 1 from rfl, run_eqFields_ints 9998 xs ys _ 0 hf (by omega) hy w]
  rfl
theorem neq_ints {P : Program} {t : TypeId} {x y : Operand} (xs ys : List Int) (hS : P.underlying t = some (.struct (P.fieldsOf t))) (hp : P.stoodInHeld t = false) (hm : P.eqGuardType P.depth t = false) (hf : intFs P 0 (P.fieldsOf t).toList = true) (hx : (P.fieldsOf t).toList.length = xs.length) (hy : ys.length = xs.length) :
    SemOb P (do eqGuard .neq t x y (.agg (xs.map (Value.int .i64)).toArray) (.agg (ys.map (Value.int .i64)).toArray); binOp .neq t (.agg (xs.map (Value.int .i64)).toArray) (.agg (ys.map (Value.int .i64)).toArray)) (.bool (!(xs == ys))) := by
  intro w
  rw [Sem.run_bind, run_eqGuard_agg w _ _ _ _ _ _ hm, Result.andThen_ok, run_neq_struct, show (10000 : Nat) = 9999 + 1 from rfl, run_equalIn_agg w 9999 t _ _ hS hp, show (9999 : Nat) = 9998 + 1 from rfl, run_eqFields_ints 9998 xs ys _ 0 hf (by omega) hy w]
  rfl
end Ag
end Go.Proofs.Ytlpjnhoafaamkaa
