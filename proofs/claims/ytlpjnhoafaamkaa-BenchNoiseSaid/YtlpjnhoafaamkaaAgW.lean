/-
  A RANGE OVER A FUNCTION BY EVALUATION: its words for sym.py.
-/
import Derived.Test.YtlpjnhoafaamkaaAgZ
import Derived.Shelf.Abstract
set_option linter.unusedVariables false
set_option linter.unusedSimpArgs false
namespace Go.Proofs.Ytlpjnhoafaamkaa
open Go Go.RowKit
namespace Ag

section
variable {ro : Option Nat} {P : Program} {w0 : World} {σ σ' σ1 σ2 : St} {Q Qr : Exit → St → Prop} {ops : Array Oper} {ex : Exit} {l D : Nat} {T : List (Option Value)} {ps : Array Tmp} {A B : Code}
theorem aw_range {g : Operand} {assign body c : Code} {f : FuncId} {fn : Func} {first cap : Array Value} (tm : Nat → List (Option Value)) (hg : opv (fun t => (σ.tm[t]?).join) g = some (.func (.func f) first cap)) (hf : P.funcs[f]? = some fn) (hb : fn.body = some c)
    (hent : ∀ args w, (callFunc f args).run P w = .ok (.enter f args) w)
    (htm : ∀ l, ((first ++ (#[Value.func (.yield l) #[] #[]] : Array Value) ++ cap) ++ Array.replicate (fn.ntmps - (first ++ (#[Value.func (.yield l) #[] #[]] : Array Value) ++ cap).size) undef).toList.map some = tm l)
    (h : ∀ A B T, A = assign → B = body → T = σ.tm → ∀ D l, Aw none P w0 c ⟨tm l, (σ.es ++ [.dfr D]) ++ [.loop l T ps A B .ready none D], []⟩ (iterEnd P w0 fn σ Q D l ps A B)) : Aw none P w0 (.rangeFunc g ps assign body) σ Q :=
  aw_rangeFunc tm hg hf hb hent htm (h _ _ _ rfl rfl rfl)
theorem iter_none {fn : Func} (σn : St) (sh : Option Nat) (es : List Nat) (v : Value) (qs : List Prop) (e : Nat) (st : LoopState) (he : ex = .normal ∨ ex = .ret) (hsh : okSh σ' sh) (hr : evRes P fn (σ'.shut sh) es = some (v, qs)) (hp : AllP qs)
    (hl : (σ'.shut sh).es[e]? = some (.loop l T ps A B st none D)) (hst : st ≠ .busy) (hσ : (⟨σ.tm, (σ'.shut sh).es.eraseIdx e, D :: σ.ds⟩ : St) = σn) (h : Q .normal σn) : iterEnd P w0 fn σ Q D l ps A B ex σ' :=
  ⟨he, sh, hsh, es, v, qs, hr, hp, e, T, st, none, hl, hst, by subst hσ; exact h⟩
theorem iter_some {fn : Func} (σn : St) (sh : Option Nat) (es : List Nat) (v : Value) (qs : List Prop) (e : Nat) (st : LoopState) (c : Code) (he : ex = .normal ∨ ex = .ret) (hsh : okSh σ' sh) (hr : evRes P fn (σ'.shut sh) es = some (v, qs)) (hp : AllP qs)
    (hl : (σ'.shut sh).es[e]? = some (.loop l T ps A B st (some c) D)) (hst : st ≠ .busy) (hσ : (⟨σ.tm, (σ'.shut sh).es.eraseIdx e, D :: σ.ds⟩ : St) = σn) (h : Aw none P w0 c σn Q) : iterEnd P w0 fn σ Q D l ps A B ex σ' :=
  ⟨he, sh, hsh, es, v, qs, hr, hp, e, T, st, some c, hl, hst, by subst hσ; exact h⟩
theorem aws_yield' {k : Nat} {o : Oper} {x : Operand} {xs : Array Operand} {ts : Array TypeId} {pend : Option Code} {tmx : List (Option Value)} {assign : Code} (σr : St) (vs : List Value) (e : Nat)
    (ho : ops[k]? = some o) (hop : o.op = .call { callee := .value x, args := xs, argTypes := ts }) (hg : o.guard = none) (hd : ∀ t, o.dst = some t → t < σ.tm.length)
    (hx : opv (fun t => (σ.tm[t]?).join) x = some (.func (.yield l) #[] #[])) (hxs : opvs σ.tm xs.toList = some vs) (he : σ.es[e]? = some (.loop l T ps A B .ready pend D)) (hsz : vs.length = ps.size)
    (hT : T = tmx) (hA : A = assign) (hσ : (⟨setPs tmx ps.toList vs, σ.es, []⟩ : St) = σr)
    (h : Aw (some l) P w0 assign σr (roundMid P w0 (roundEnd ro P w0 ops k σ o.dst Q e l D T ps A B) e l D T ps A B)) : AwS ro P w0 ops k σ Q := by
  subst hT hA hσ
  exact aws_yield l vs e ho hop hg hd hx hxs he hsz h
theorem round_mid {pend : Option Code} {body : Code} {e : Nat} (σb : St) (hl : σ1.es[e]? = some (.loop l T ps A B .ready pend D)) (hd : σ1.ds = []) (hB : B = body) (hσ : (⟨σ1.tm, σ1.es.set e (.loop l T ps A B .busy pend D), []⟩ : St) = σb)
    (h : Aw (some l) P w0 body σb Qr) : roundMid P w0 Qr e l D T ps A B .normal σ1 := by
  subst hB hσ
  exact ⟨rfl, hd, pend, hl, h⟩
theorem round_norm {k e : Nat} {d : Option Tmp} {pend : Option Code} (σn : St) (hl : σ2.es[e]? = some (.loop l T ps A B .busy pend D)) (hd : σ2.ds = []) (hσ : (⟨put σ.tm d (.bool true), σ2.es.set e (.loop l T ps A B .ready none D), σ.ds⟩ : St) = σn)
    (h : AwS ro P w0 ops (k + 1) σn Q) : roundEnd ro P w0 ops k σ d Q e l D T ps A B .normal σ2 := by
  subst hσ
  exact ⟨hd, ⟨pend, hl⟩, h⟩
theorem round_ret {k e : Nat} {d : Option Tmp} {pend : Option Code} (σn : St) (hl : σ2.es[e]? = some (.loop l T ps A B .busy pend D)) (hd : σ2.ds = []) (hσ : (⟨put σ.tm d (.bool false), σ2.es.set e (.loop l T ps A B .done (some .ret) D), σ.ds⟩ : St) = σn)
    (h : AwS ro P w0 ops (k + 1) σn Q) : roundEnd ro P w0 ops k σ d Q e l D T ps A B .ret σ2 := by
  subst hσ
  exact ⟨hd, ⟨pend, hl⟩, h⟩
theorem round_exit {k e id : Nat} {d : Option Tmp} {pend : Option Code} (σn : St) (hl : σ2.es[e]? = some (.loop l T ps A B .busy pend D)) (hd : σ2.ds = []) (hσ : (⟨put σ.tm d (.bool false), σ2.es.set e (.loop l T ps A B .done (some (.exit id)) D), σ.ds⟩ : St) = σn)
    (h : AwS ro P w0 ops (k + 1) σn Q) : roundEnd ro P w0 ops k σ d Q e l D T ps A B (.exit id) σ2 := by
  subst hσ
  exact ⟨hd, ⟨pend, hl⟩, h⟩
/-- a call that is walked where it stands -/
theorem aws_inline {k : Nat} {o : Oper} {x : Operand} {xs : Array Operand} {ts : Array TypeId} {f : FuncId} {fn : Func} {c : Code} {first cap : Array Value} (vs : List Value) (tm : List (Option Value))
    (ho : ops[k]? = some o) (hop : o.op = .call { callee := .value x, args := xs, argTypes := ts }) (hg : o.guard = none) (hd : ∀ t, o.dst = some t → t < σ.tm.length)
    (hx : opv (fun t => (σ.tm[t]?).join) x = some (.func (.func f) first cap)) (hxs : opvs σ.tm xs.toList = some vs) (hf : P.funcs[f]? = some fn) (hb : fn.body = some c)
    (hent : ∀ args w, (callFunc f args).run P w = .ok (.enter f args) w)
    (htm : ((first ++ vs.toArray ++ cap) ++ Array.replicate (fn.ntmps - (first ++ vs.toArray ++ cap).size) undef).toList.map some = tm)
    (h : Aw none P w0 c ⟨tm, σ.es, []⟩ (FinS P fn fun v es => AwS ro P w0 ops (k + 1) ⟨put σ.tm o.dst v, es, σ.ds⟩ Q)) : AwS ro P w0 ops k σ Q := by
  intro a w s
  have hk : k < ops.size := (Array.getElem?_eq_some_iff.1 ho).1
  rw [show ops.size - k = (ops.size - (k + 1)) + 1 by omega, List.range'_succ, wpOpsIn_cons']
  unfold wpOpIn
  simp only [ho]
  rw [show Region.wanted o (yielded ops a.tmps) = true by simp [Region.wanted, hg], if_pos rfl]
  have hargs : xs.map a.eval = vs.toArray := by
    apply Array.ext'
    simp only [Array.toList_map]
    exact opvs_eval s hxs
  have hrun : (execOp a.eval o).run P w = .ok (.enter f (first ++ vs.toArray ++ cap)) w := by
    unfold execOp
    simp only [hop, resolve, s.eval hx, hargs, Deferred.ofValue, Sem.run_bind, Sem.run_pure, Result.andThen_ok, invoke]
    exact hent _ _
  refine ⟨fun f hf => (by cases ro <;> trivial), ?_⟩
  have hsem : Oper.semAt (fen ro).round a.eval o = execOp a.eval o := by
    cases ro with
    | none => rfl
    | some l' => exact Oper.semAt_some l' a.eval o (fun c e => by rw [hop] at e; cases e)
  rw [hsem, hrun]
  refine ⟨fun hh => (by cases ro <;> cases hh), ?_⟩
  have hc := (calls_awS tm hf hb htm s.toE h).mono (R' := fun r w'' => match r with
      | .returned v => wpOpsIn (fen ro) 0 P ops (lift w0 Q) (List.range' (k + 1) (ops.size - (k + 1))) (a.put o.dst v) w''
      | .panicked chain => lift w0 Q (.panic chain) a w''
      | .outgrown => LetsOut (lift w0 Q)) (by
    rintro r w' ⟨v, es', rfl, s', hq⟩
    obtain ⟨p1, p2, p3⟩ := sim_put s o.dst v hd
    exact hq _ w' (s'.of p3 p1 p2))
  cases ro with
  | none => exact (callsIn_wide.2 hc).mono fun e w' h => (by cases e <;> exact h)
  | some l' => exact (CallsIn.inRound l' (callsIn_wide.2 hc)).mono fun e w' h => (by cases e <;> exact h)
theorem fin_inl {k : Nat} {d : Option Tmp} {fn : Func} (σn : St) (sh : Option Nat) (es : List Nat) (v : Value) (qs : List Prop) (he : ex = .normal ∨ ex = .ret) (hsh : okSh σ' sh) (hr : evRes P fn (σ'.shut sh) es = some (v, qs)) (hp : AllP qs)
    (hw : Weak ⟨put σ.tm d v, (σ'.shut sh).es, σ.ds⟩ σn) (h : AwS ro P w0 ops (k + 1) σn Q) : FinS P fn (fun v es => AwS ro P w0 ops (k + 1) ⟨put σ.tm d v, es, σ.ds⟩ Q) ex σ' :=
  ⟨he, sh, hsh, es, v, qs, hr, hp, fun a w s => h a w (hw _ _ _ s)⟩
end
end Ag
end Go.Proofs.Ytlpjnhoafaamkaa
