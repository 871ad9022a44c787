/-
  AN EXECUTOR, checked once: operations in the order of the text.
-/
import Derived.Test.YtlpjnhoafaamkaaExD
set_option linter.unusedVariables false
set_option linter.unusedSimpArgs false
namespace Go.Proofs.Ytlpjnhoafaamkaa
open Go Go.RowKit
namespace Ex

def isVal (x : Option Res) : Prop := ∀ r, x = some r → ∃ v wr acc new, r = .val v wr acc new
theorem isVal_none : isVal none := fun r h => by cases h
theorem isVal_val {v : Value} {wr : Wr} {acc : List Nat} {new : Nat} : isVal (some (.val v wr acc new)) := fun r h => by cases h; exact ⟨_, _, _, _, rfl⟩
theorem isVal_cond {b : Bool} {x y : Option Res} (hx : isVal x) (hy : isVal y) : isVal (bif b then x else y) := by cases b <;> assumption
theorem isVal_map {α : Type} {o : Option α} {f : α → Res} (h : ∀ a, ∃ v wr acc new, f a = .val v wr acc new) : isVal (o.map f) := fun r hr => by
  obtain ⟨a, _, rfl⟩ := Option.map_eq_some_iff.1 hr
  exact h a
theorem isVal_resV {o : Option Value} : isVal (resV o) := isVal_map fun a => ⟨_, _, _, _, rfl⟩
theorem isVal_only {o : Option Res} : isVal (valOnly o) := fun r hr => by
  obtain ⟨v, wr, acc, new, h, _⟩ := valOnly_some hr
  exact ⟨v, wr, acc, new, h⟩
theorem isVal_ground {P : Program} {o : Oper} {tv : Tmp → Option Value} : isVal (evGround P o tv) := by
  unfold evGround
  refine isVal_cond ?_ isVal_none
  split
  · exact isVal_cond isVal_val isVal_none
  · exact isVal_none
theorem isVal_upd {P : Program} {t : TypeId} {x k v : Option Value} {H : Nat → Option Ent} : isVal (evUpd P t x k v H) := fun r hr => by
  obtain ⟨_, _, _, _, _, _, _, _, _, rfl⟩ := evUpd_some hr
  exact ⟨_, _, _, _, rfl⟩
theorem evOp_kind {P : Program} {o : Oper} {tv : Tmp → Option Value} {H : Nat → Option Ent} {n : Nat} : isVal (evOp P o tv H n) ∨ ∃ c, o.op = .call c ∧ evOp P o tv H n = evCall P o c tv H n := by
  unfold evOp
  split
  all_goals first
    | (right; exact ⟨_, ‹_›, rfl⟩)
    | left
  all_goals
    repeat' first
      | exact isVal_none
      | exact isVal_val
      | exact isVal_resV
      | exact isVal_only
      | exact isVal_ground
      | exact isVal_upd
      | (exact isVal_map fun a => ⟨_, _, _, _, rfl⟩)
      | (refine isVal_cond ?_ ?_)
      | split
theorem fit_func {n : Nat} {f : Fn} {x y : Array Value} (h : Fit n (.func f x y)) : (∀ v ∈ x.toList, Fit n v) ∧ ∀ v ∈ y.toList, Fit n v := by
  have key : ∀ (z : Array Value), (∀ ρ ρ' : Nm, (∀ i, i < n → alike ρ ρ' i) → z.map (ren ρ) = z.map (ren ρ')) → ∀ v ∈ z.toList, Fit n v := by
    intro z hz v hv ρ ρ' ha
    obtain ⟨i, hi, rfl⟩ := List.mem_iff_getElem.1 hv
    have h2 := congrArg (fun a : Array Value => a[i]?) (hz ρ ρ' ha)
    have hi' : i < z.size := by simpa using hi
    simp only [Array.getElem?_map, Array.getElem?_eq_getElem hi', Option.map_some, Option.some.injEq] at h2
    simpa using h2
  refine ⟨key x fun ρ ρ' ha => ?_, key y fun ρ ρ' ha => ?_⟩
  · have := h ρ ρ' ha
    simp only [ren_func, Value.func.injEq] at this
    exact this.2.1
  · have := h ρ ρ' ha
    simp only [ren_func, Value.func.injEq] at this
    exact this.2.2
theorem evOp_args {P : Program} {o : Oper} {σ : XS} (W : WF σ) {f : FuncId} {args : List Value} (h : evOp P o σ.tm.get σ.M.get σ.n = some (.call f args)) : ∀ v ∈ args, Fit σ.n v := by
  rcases evOp_kind (P := P) (o := o) (tv := σ.tm.get) (H := σ.M.get) (n := σ.n) with k | ⟨c, hc, k⟩
  · obtain ⟨v, wr, acc, new, e⟩ := k _ h
    cases e
  · rw [k] at h
    unfold evCall at h
    split at h
    · split at h
      · cases hb : Nat.beq _ _ <;> rw [hb] at h
        · cases h
        · obtain ⟨_, _, _, _, e, _⟩ := valOnly_some h; cases e
      · cases h
    · split at h
      · obtain ⟨_, _, _, _, e, _⟩ := valOnly_some h; cases e
      · cases h
    · split at h
      · obtain ⟨_, _, _, _, e, _⟩ := valOnly_some h; cases e
      · cases h
    · split at h
      · obtain ⟨_, _, e⟩ := Option.map_eq_some_iff.1 h; cases e
      · cases h
    · split at h
      · rename_i g first cap vs hf hvs
        cases hb : fnOk P g <;> rw [hb] at h
        · obtain ⟨_, _, _, _, e⟩ := isVal_ground _ h; cases e
        · cases h
          obtain ⟨f1, f2⟩ := fit_func (opx_fit W hf)
          intro v hv
          rcases List.mem_append.1 hv with hv | hv
          · rcases List.mem_append.1 hv with hv | hv
            · exact f1 v hv
            · exact opl_fit W hvs v hv
          · exact f2 v hv
      · cases h
      · cases h
    · obtain ⟨_, _, _, _, e⟩ := isVal_ground _ h; cases e
theorem evOp_yargs {P : Program} {o : Oper} {σ : XS} (W : WF σ) {l : Nat} {args : List Value} (h : evOp P o σ.tm.get σ.M.get σ.n = some (.yield l args)) : ∀ v ∈ args, Fit σ.n v := by
  rcases evOp_kind (P := P) (o := o) (tv := σ.tm.get) (H := σ.M.get) (n := σ.n) with k | ⟨c, hc, k⟩
  · obtain ⟨v, wr, acc, new, e⟩ := k _ h
    cases e
  · rw [k] at h
    unfold evCall at h
    split at h
    · split at h
      · cases hb : Nat.beq _ _ <;> rw [hb] at h
        · cases h
        · obtain ⟨_, _, _, _, e, _⟩ := valOnly_some h; cases e
      · cases h
    · split at h
      · obtain ⟨_, _, _, _, e, _⟩ := valOnly_some h; cases e
      · cases h
    · split at h
      · obtain ⟨_, _, _, _, e, _⟩ := valOnly_some h; cases e
      · cases h
    · split at h
      · obtain ⟨_, _, e⟩ := Option.map_eq_some_iff.1 h; cases e
      · cases h
    · split at h
      · rename_i g first cap vs hf hvs
        cases hb : fnOk P g <;> rw [hb] at h
        · obtain ⟨_, _, _, _, e⟩ := isVal_ground _ h; cases e
        · cases h
      · rename_i l' vs hf hvs
        cases h
        exact opl_fit W hvs
      · cases h
    · obtain ⟨_, _, _, _, e⟩ := isVal_ground _ h; cases e
theorem evOp_nodefer {P : Program} {o : Oper} {tv : Tmp → Option Value} {H : Nat → Option Ent} {n : Nat} {r : Res} (h : evOp P o tv H n = some r) : (∀ c, o.op ≠ .defer c) ∧ ∀ cs b, o.op ≠ .select cs b := by
  refine ⟨fun c hc => ?_, fun cs b hc => ?_⟩ <;> (unfold evOp at h; rw [hc] at h; cases h)
theorem op_unwantedIn {ro : Option Nat} {P : Program} {ops : Array Oper} {i : Nat} {o : Oper} {K : Act → World → Prop} {Q : Exit → Act → World → Prop} {a : Act} {w : World} (ho : ops[i]? = some o) (hw : Region.wanted o (yielded ops a.tmps) = false) (h : K (a.put o.dst undef) w) : wpOpIn (fen ro) 0 P ops Q i K a w := by
  unfold wpOpIn
  simp only [ho, hw, Bool.false_eq_true, if_false]
  exact ⟨fun _ _ => by cases ro <;> trivial, h⟩
theorem undef_fit (n : Nat) : Fit n undef := fun ρ ρ' _ => by simp [undef]
/-- what an operation that comes to a value leaves -/
theorem val_step {P : Program} {o : Oper} {σ : XS} (W : WF σ) {v : Value} {wr : Wr} {acc : List Nat} {new : Nat} (hd : dstOk σ.L o.dst = true) (hr : resOk σ.n v wr new = true) :
    WF { σ with tm := putT σ.tm o.dst v, M := applyWr σ.M wr, n := σ.n + new, md := wr.map (·.1) ++ σ.md } ∧ (∀ e c, wrGet wr e = some (some c) → FitE σ.n c) ∧
    ∀ {B : Base} {ρ ρ' : Nm} {a : Act} {w w' : World}, B.n ≤ σ.n → SimX B σ ρ a w → Eff ρ ρ' σ.n (σ.n + new) (resA acc σ.M.get) wr w w' →
      SimX B { σ with tm := putT σ.tm o.dst v, M := applyWr σ.M wr, n := σ.n + new, md := wr.map (·.1) ++ σ.md } ρ' (a.put o.dst (ren ρ' v)) w' ∧ ∀ i, i < σ.n → alike ρ ρ' i := by
  unfold resOk at hr
  simp only [Bool.and_eq_true] at hr
  obtain ⟨⟨r1, r2⟩, r3⟩ := hr
  have r3 : σ.n + new < LIM := Nat.le_of_ble_eq_true r3
  have hget := applyWr_get (M := σ.M) (wr := wr) (σ.n + new) (wrOk_mem r2) r3
  refine ⟨?_, fun e c h => (wrOk_get r2 h).2 c rfl, ?_⟩
  · refine WF.put W hd (Nat.le_add_right _ _) rfl rfl (below_ok r1) fun e c hc => ?_
    simp only [hget] at hc
    unfold upd at hc
    split at hc
    · rename_i c' hw
      subst hc
      obtain ⟨h1, h2⟩ := wrOk_get r2 hw
      exact ⟨(h2 c rfl).mono fun i hi => Nat.lt_of_lt_of_le hi (Nat.le_add_right _ _), h1⟩
    · obtain ⟨h1, h2⟩ := W.fitm e c hc
      exact ⟨h1.mono fun i hi => Nat.lt_of_lt_of_le hi (Nat.le_add_right _ _), Nat.lt_of_lt_of_le h2 (Nat.le_add_right _ _)⟩
  · intro B ρ ρ' a w w' hB s E
    have ha : ∀ i, i < σ.n → alike ρ ρ' i := fun i hi => E.agree i (by omega)
    refine ⟨s.put W hd ha rfl rfl rfl ?_, ha⟩
    simp only [hget]
    refine stepC (s.sim.mono fun e he => List.mem_append_right _ he) (E.mono fun e he => ?_) hB (fun e _ h => ?_) (fun e h1 h2 => ?_) (fun e c hc _ => ?_)
    · obtain ⟨c, hc⟩ := Option.isSome_iff_exists.1 he
      rw [(resA_some hc).2]; rfl
    · obtain ⟨c, hc⟩ := Option.isSome_iff_exists.1 h
      exact List.mem_append_left _ (List.mem_map.2 ⟨_, wrGet_mem hc, rfl⟩)
    · cases hq : σ.M.get e with
      | none => rfl
      | some c => have := (W.fitm e c hq).2; omega
    · exact (W.fitm e c hc).1.mono fun i hi => by omega
theorem call_step {P : Program} {o : Oper} {σ : XS} (W : WF σ) {f : FuncId} {args : List Value} {r : CR} (hd : dstOk σ.L o.dst = true) (hf : ∀ v ∈ args, Fit σ.n v) (X : CallX P f args σ.M σ.n r) :
    σ.n ≤ r.n ∧ WF { σ with tm := putT σ.tm o.dst r.v, M := r.M, n := r.n, md := r.md ++ σ.md } ∧
    ∀ {B : Base} {ρ : Nm} {a : Act} {w : World}, B.n ≤ σ.n → SimX B σ ρ a w → Calls P f (args.map (ren ρ)).toArray w fun e w' => ∃ v, e = .returned v ∧ ∃ ρ', v = ren ρ' r.v ∧
      SimX B { σ with tm := putT σ.tm o.dst r.v, M := r.M, n := r.n, md := r.md ++ σ.md } ρ' (a.put o.dst v) w' ∧ ∀ i, i < σ.n → alike ρ ρ' i := by
  obtain ⟨⟨x1, x2, x3⟩, x4⟩ := X ⟨W.fitm⟩ hf
  refine ⟨x2, WF.put W hd x2 rfl rfl x3 x1.fit, ?_⟩
  intro B ρ a w hB s
  refine (x4 ρ w s.sim.sim).mono ?_
  rintro e w' ⟨ρ', rfl, t⟩
  refine ⟨_, rfl, ρ', rfl, ?_, t.agree⟩
  refine s.put W hd t.agree rfl rfl rfl ?_
  refine (s.sim.chain t hB).mono fun e he => ?_
  rcases he with he | he
  · exact List.mem_append_right _ he
  · exact List.mem_append_left _ he
end Ex
end Go.Proofs.Ytlpjnhoafaamkaa
