/-
  A RANGE OVER A FUNCTION BY EVALUATION: the iterator is walked where it stands, and the body at each of its yields.
-/
import Derived.Test.YtlpjnhoafaamkaaAgY
set_option linter.unusedVariables false
set_option linter.unusedSimpArgs false
namespace Go.Proofs.Ytlpjnhoafaamkaa
open Go Go.RowKit
namespace Ag

/-- the slots of a round: the loop's own, and what is yielded -/
def setPs (tm : List (Option Value)) (ps : List Tmp) (vs : List Value) : List (Option Value) := (ps.zip vs).foldl (fun t (p, v) => t.set p (some v)) tm
theorem setPs_spec : ∀ (ps : List Tmp) (vs : List Value) (tm : List (Option Value)) (tmps : Array Value), tmps.size = tm.length → (∀ (t : Nat) (v : Value), tm[t]? = some (some v) → tmps[t]? = some v) →
    ((ps.zip vs).foldl (fun (t : Array Value) (x : Tmp × Value) => t.setIfInBounds x.1 x.2) tmps).size = (setPs tm ps vs).length ∧ ∀ (t : Nat) (v : Value), (setPs tm ps vs)[t]? = some (some v) → ((ps.zip vs).foldl (fun (t : Array Value) (x : Tmp × Value) => t.setIfInBounds x.1 x.2) tmps)[t]? = some v
  | [], vs, tm, tmps, h1, h2 => by simpa [setPs] using ⟨h1, h2⟩
  | p :: ps, [], tm, tmps, h1, h2 => by simpa [setPs] using ⟨h1, h2⟩
  | p :: ps, v :: vs, tm, tmps, h1, h2 => by
    simp only [setPs, List.zip_cons_cons, List.foldl_cons]
    refine setPs_spec ps vs (tm.set p (some v)) (tmps.setIfInBounds p v) (by simp [h1]) ?_
    intro t u hu
    rw [List.getElem?_set] at hu
    by_cases h : p = t
    · subst h
      rw [if_pos rfl] at hu
      split at hu
      · rename_i hlt
        simp only [Option.some.injEq] at hu
        subst hu
        simp [h1, hlt]
      · cases hu
    · rw [if_neg h] at hu
      rw [Array.getElem?_setIfInBounds_ne h]
      exact h2 t u hu
def opvs (tm : List (Option Value)) : List Operand → Option (List Value)
  | [] => some []
  | x :: l => match opv (fun t => (tm[t]?).join) x, opvs tm l with
    | some v, some vs => some (v :: vs)
    | _, _ => none
theorem opvs_eval {w0 w : World} {σ : St} {a : Act} (s : Sim w0 σ a w) : ∀ {xs : List Operand} {vs : List Value}, opvs σ.tm xs = some vs → xs.map a.eval = vs
  | [], vs, h => by simp [opvs] at h; subst h; rfl
  | x :: l, vs, h => by
    unfold opvs at h
    split at h
    · rename_i v vs' h1 h2
      cases h
      rw [List.map_cons, s.eval h1, opvs_eval s h2]
    · cases h
section
variable {ro : Option Nat} {P : Program} {w0 : World} {σ : St} {Q : Exit → St → Prop} {ops : Array Oper}
/-- a record that becomes another one -/
theorem Sim.rcd {w : World} {a : Act} {e l D : Nat} {tm : List (Option Value)} {ps : Array Tmp} {assign body : Code} {st : LoopState} {pend : Option Code} (s : Sim w0 σ a w) (he : σ.es[e]? = some (.loop l tm ps assign body st pend D)) (st' : LoopState) (pend' : Option Code) {r : Loop}
    (hr : w.heap[l]? = some (.loop r)) : Sim w0 ⟨σ.tm, σ.es.set e (.loop l tm ps assign body st' pend' D), σ.ds⟩ a (w.putObj l (.loop { r with state := st', pending := pend' })) := by
  have hl := s.own e _ he rfl l rfl
  have hlt := Cel.lt (s.holds e _ he) (k := l) rfl
  have hx : ∀ x cx, (σ.es.set e (.loop l tm ps assign body st' pend' D))[x]? = some cx → (x = e ∧ cx = .loop l tm ps assign body st' pend' D) ∨ (x ≠ e ∧ σ.es[x]? = some cx) := by
    intro x cx hcx
    rw [List.getElem?_set] at hcx
    split at hcx
    · rename_i h; split at hcx
      · cases hcx; exact .inl ⟨h.symm, rfl⟩
      · cases hcx
    · rename_i h; exact .inr ⟨fun z => h z.symm, hcx⟩
  refine ⟨s.def0, s.size, s.tm, ?_, ?_, ?_, ?_⟩
  · intro x cx hcx
    rcases hx x cx hcx with ⟨rfl, rfl⟩ | ⟨h1, h2⟩
    · obtain ⟨fn, tmps, q1, q2, q3⟩ := s.holds x _ he
      rw [hr] at q3
      simp only [Option.some.injEq, Obj.loop.injEq] at q3
      subst q3
      exact ⟨fn, tmps, q1, q2, World.putObj_heap_same hlt⟩
    · refine Cel.kept (s.holds x cx h2) fun k hk => World.putObj_heap_other fun z => ?_
      subst z
      exact s.apart e x _ cx he h2 (Ne.symm h1) rfl _ rfl hk
  · intro x x' c c' hc hc' hne hm k hk hk'
    rcases hx x c hc with ⟨rfl, rfl⟩ | ⟨h1, h2⟩ <;> rcases hx x' c' hc' with ⟨rfl, rfl⟩ | ⟨h1', h2'⟩
    · exact hne rfl
    · exact s.apart x x' _ c' he h2' hne rfl k hk hk'
    · simp only [Cel.key, Option.some.injEq] at hk'
      exact s.apart x' x _ c he h2 (Ne.symm hne) rfl k (by simp [Cel.key, hk']) hk
    · exact s.apart x x' c c' h2 h2' hne hm k hk hk'
  · intro x c hc hm k hk
    rcases hx x c hc with ⟨rfl, rfl⟩ | ⟨h1, h2⟩
    · exact s.own x _ he rfl k hk
    · exact s.own x c h2 hm k hk
  · exact s.bel.trans ⟨rfl, rfl, rfl, by simp, fun k hk => World.putObj_heap_other (by omega)⟩
/-- what follows a round, by the way it is left -/
def roundEnd (ro : Option Nat) (P : Program) (w0 : World) (ops : Array Oper) (k : Nat) (σ : St) (d : Option Tmp) (Q : Exit → St → Prop) (e l D : Nat) (tm : List (Option Value)) (ps : Array Tmp) (assign body : Code) (ex : Exit) (σ2 : St) : Prop :=
  σ2.ds = [] ∧ (∃ pend, σ2.es[e]? = some (.loop l tm ps assign body .busy pend D)) ∧ match ex with
    | .normal => AwS ro P w0 ops (k + 1) ⟨put σ.tm d (.bool true), σ2.es.set e (.loop l tm ps assign body .ready none D), σ.ds⟩ Q
    | .ret => AwS ro P w0 ops (k + 1) ⟨put σ.tm d (.bool false), σ2.es.set e (.loop l tm ps assign body .done (some .ret) D), σ.ds⟩ Q
    | .exit id => AwS ro P w0 ops (k + 1) ⟨put σ.tm d (.bool false), σ2.es.set e (.loop l tm ps assign body .done (some (.exit id)) D), σ.ds⟩ Q
    | _ => False
/-- between the assignments of a round and its body -/
def roundMid (P : Program) (w0 : World) (Qr : Exit → St → Prop) (e l D : Nat) (tm : List (Option Value)) (ps : Array Tmp) (assign body : Code) (ex : Exit) (σ1 : St) : Prop :=
  ex = .normal ∧ σ1.ds = [] ∧ (∃ pend, σ1.es[e]? = some (.loop l tm ps assign body .ready pend D) ∧ Aw (some l) P w0 body ⟨σ1.tm, σ1.es.set e (.loop l tm ps assign body .busy pend D), []⟩ Qr)
theorem lift_mid {Qr : Exit → St → Prop} {e l D : Nat} {tm : List (Option Value)} {ps : Array Tmp} {assign body : Code} {fn : FuncId} {R : Ending → World → Prop}
    (hQr : ∀ ex a w, lift w0 Qr ex a w → roundPost P l R ex a w) (ex : Exit) (a : Act) (w : World) (h : lift w0 (roundMid P w0 Qr e l D tm ps assign body) ex a w) :
    Exit.then (fun a₁ w₁ => ∃ w₂, (Instr.beginRound l).run P w₁ = .ok () w₂ ∧ body.wpIn (Fence.wide.inRound l) 0 P (roundPost P l R) a₁ w₂) (fun _ _ _ => False) ex a w := by
  obtain ⟨_, σ1, s1, rfl, hd, pend, he, haw⟩ := h
  obtain ⟨fn', tmps, q1, q2, q3⟩ := s1.holds e _ he
  have s2 := s1.rcd he .busy pend q3
  rw [hd] at s2
  exact ⟨_, run_beginRound q3 rfl, wpIn_mono (haw a _ s2) hQr⟩
theorem aws_yield {k : Nat} {o : Oper} {x : Operand} {xs : Array Operand} {ts : Array TypeId} (l : Nat) (vs : List Value) (e : Nat) {D : Nat} {tm : List (Option Value)} {ps : Array Tmp} {assign body : Code} {pend : Option Code}
    (ho : ops[k]? = some o) (hop : o.op = .call { callee := .value x, args := xs, argTypes := ts }) (hg : o.guard = none) (hd : ∀ t, o.dst = some t → t < σ.tm.length)
    (hx : opv (fun t => (σ.tm[t]?).join) x = some (.func (.yield l) #[] #[])) (hxs : opvs σ.tm xs.toList = some vs) (he : σ.es[e]? = some (.loop l tm ps assign body .ready pend D)) (hsz : vs.length = ps.size)
    (h : Aw (some l) P w0 assign ⟨setPs tm ps.toList vs, σ.es, []⟩ (roundMid P w0 (roundEnd ro P w0 ops k σ o.dst Q e l D tm ps assign body) e l D tm ps assign body)) : AwS ro P w0 ops k σ Q := by
  intro a w s
  have hk : k < ops.size := (Array.getElem?_eq_some_iff.1 ho).1
  rw [show ops.size - k = (ops.size - (k + 1)) + 1 by omega, List.range'_succ, wpOpsIn_cons']
  unfold wpOpIn
  simp only [ho]
  rw [show Region.wanted o (yielded ops a.tmps) = true by simp [Region.wanted, hg], if_pos rfl]
  obtain ⟨fn, tmps, q1, q2, q3⟩ := s.holds e _ he
  have hargs : xs.map a.eval = vs.toArray := by
    apply Array.ext'
    simp only [Array.toList_map]
    exact opvs_eval s hxs
  have hrun : (execOp a.eval o).run P w = .ok (.round l fn ((ps.zip vs.toArray).foldl (fun tmps (t, a) => tmps.setIfInBounds t a) tmps) assign body) w := by
    unfold execOp
    simp only [hop, resolve, s.eval hx, hargs]
    have := run_yield (P := P) (args := vs.toArray) q3 (by simpa using hsz)
    simp only [Deferred.ofValue, Sem.run_bind, Sem.run_pure, Result.andThen_ok, invoke]
    simpa using this
  refine ⟨fun f hf => (by cases ro <;> trivial), ?_⟩
  have hsem : Oper.semAt (fen ro).round a.eval o = execOp a.eval o := by
    cases ro with
    | none => rfl
    | some l' => exact Oper.semAt_some l' a.eval o (fun c e => by rw [hop] at e; cases e)
  rw [hsem, hrun]
  refine ⟨fun hh => (by cases ro <;> cases hh), ?_⟩
  obtain ⟨t1, t2⟩ := setPs_spec ps.toList vs tm tmps q1 q2
  have hfold : (ps.zip vs.toArray).foldl (fun tmps (x : Tmp × Value) => tmps.setIfInBounds x.1 x.2) tmps = (ps.toList.zip vs).foldl (fun (t : Array Value) (x : Tmp × Value) => t.setIfInBounds x.1 x.2) tmps := by
    rw [← Array.foldl_toList, Array.toList_zip]
  have s0 : Sim w0 ⟨setPs tm ps.toList vs, σ.es, []⟩ ⟨(ps.toList.zip vs).foldl (fun (t : Array Value) (x : Tmp × Value) => t.setIfInBounds x.1 x.2) tmps, []⟩ w := SimE.of s.toE rfl t1 t2
  have hw := h _ w s0
  refine RoundIn.mono (R := fun r w' => ∃ b, r = .returned (.bool b) ∧ ∃ σ3, σ3.tm = put σ.tm o.dst (.bool b) ∧ σ3.ds = σ.ds ∧ SimE w0 σ3.es w' ∧ AwS ro P w0 ops (k + 1) σ3 Q) ?_ ?_
  · show RoundIn (fen ro) (0 - 1) P l fn ((ps.zip vs.toArray).foldl (fun tmps (x : Tmp × Value) => tmps.setIfInBounds x.1 x.2) tmps) assign body w _
    rw [hfold]
    have hfen : (fen ro).inRound l = Fence.wide.inRound l := by cases ro <;> rfl
    refine roundIn_of_wpIn (by cases ro <;> trivial) ?_
    rw [hfen]
    refine wpIn_mono hw (lift_mid (fn := fn) ?_)
    rintro ex a2 w2 ⟨hout, σ2, s2, hd2, ⟨pend2, he2⟩, hex⟩
    obtain ⟨fn2, tmps2, z1, z2, z3⟩ := s2.holds e _ he2
    cases ex with
    | normal =>
      refine ⟨_, _, run_endRound none z3, true, rfl, ⟨_, _, _⟩, rfl, rfl, (s2.rcd he2 .ready none z3).toE, hex⟩
    | ret => exact ⟨_, _, run_endRound (some .ret) z3, false, rfl, ⟨_, _, _⟩, rfl, rfl, (s2.rcd he2 .done (some .ret) z3).toE, hex⟩
    | exit id => exact ⟨_, _, run_endRound (some (.exit id)) z3, false, rfl, ⟨_, _, _⟩, rfl, rfl, (s2.rcd he2 .done (some (.exit id)) z3).toE, hex⟩
    | goto t => exact hex.elim
    | panic c => exact hex.elim
    | outgrown => exact hout.elim
  · rintro r w' ⟨b, rfl, ⟨tm3, es3, ds3⟩, h1, h2, h3, h4⟩
    simp only at h1 h2 h3
    subst h1 h2
    obtain ⟨p1, p2, p3⟩ := sim_put s o.dst (.bool b) hd
    exact h4 _ w' (h3.of p3 p1 p2)
/-- behind the iterator -/
def iterEnd (P : Program) (w0 : World) (fn : Func) (σ : St) (Q : Exit → St → Prop) (D l : Nat) (ps : Array Tmp) (assign body : Code) : Exit → St → Prop :=
  FinS P fn fun v es => ∃ e tm st pend, es[e]? = some (.loop l tm ps assign body st pend D) ∧ st ≠ .busy ∧
    match pend with
    | none => Q .normal ⟨σ.tm, es.eraseIdx e, D :: σ.ds⟩
    | some c => Aw none P w0 c ⟨σ.tm, es.eraseIdx e, D :: σ.ds⟩ Q
theorem sim_app {w : World} {es : List Cel} {o : Obj} {c : Cel} (s : SimE w0 es w) (hc : c.holds (w.alloc o)) (hk : c.key = some w.heap.size) : SimE w0 (es ++ [c]) (w.alloc o) := by
  have hx : ∀ x cx, (es ++ [c])[x]? = some cx → (x < es.length ∧ es[x]? = some cx) ∨ (x = es.length ∧ cx = c) := by
    intro x cx h
    by_cases hl : x < es.length
    · rw [List.getElem?_append_left hl] at h; exact .inl ⟨hl, h⟩
    · rw [List.getElem?_append_right (by omega)] at h
      have := (List.getElem?_eq_some_iff.1 h).1
      simp at this
      rw [show x - es.length = 0 by omega] at h
      cases h
      exact .inr ⟨by omega, rfl⟩
  refine ⟨rfl, rfl, fun t v h => by simp at h, ?_, ?_, ?_, s.bel.alloc s.bel.size _⟩
  · intro x cx h
    rcases hx x cx h with ⟨h1, h2⟩ | ⟨h1, rfl⟩
    · exact Cel.kept (s.holds x cx h2) fun k hk' => Below.heap_alloc _ _ _ (Cel.lt (s.holds x cx h2) hk')
    · exact hc
  · intro x x' c1 c2 h h' hne hm k hk1 hk2
    rcases hx x c1 h with ⟨h1, h2⟩ | ⟨h1, rfl⟩ <;> rcases hx x' c2 h' with ⟨h1', h2'⟩ | ⟨h1', rfl⟩
    · exact s.apart x x' c1 c2 h2 h2' hne hm k hk1 hk2
    · have := Cel.lt (s.holds x c1 h2) hk1; rw [hk] at hk2; simp at hk2; omega
    · have := Cel.lt (s.holds x' c2 h2') hk2; rw [hk] at hk1; simp at hk1; omega
    · omega
  · intro x c1 h hm k hk1
    rcases hx x c1 h with ⟨h1, h2⟩ | ⟨h1, rfl⟩
    · exact s.own x c1 h2 hm k hk1
    · rw [hk] at hk1; simp at hk1; have := s.bel.size; omega
/-- a range over a function with a body of its own -/
theorem aw_rangeFunc {g : Operand} {ps : Array Tmp} {assign body c : Code} {f : FuncId} {fn : Func} {first cap : Array Value} (tm : Nat → List (Option Value)) (hg : opv (fun t => (σ.tm[t]?).join) g = some (.func (.func f) first cap)) (hf : P.funcs[f]? = some fn) (hb : fn.body = some c)
    (hent : ∀ args w, (callFunc f args).run P w = .ok (.enter f args) w)
    (htm : ∀ l, ((first ++ (#[Value.func (.yield l) #[] #[]] : Array Value) ++ cap) ++ Array.replicate (fn.ntmps - (first ++ (#[Value.func (.yield l) #[] #[]] : Array Value) ++ cap).size) undef).toList.map some = tm l)
    (h : ∀ D l, Aw none P w0 c ⟨tm l, (σ.es ++ [.dfr D]) ++ [.loop l σ.tm ps assign body .ready none D], []⟩ (iterEnd P w0 fn σ Q D l ps assign body)) : Aw none P w0 (.rangeFunc g ps assign body) σ Q := by
  intro a w s
  refine wpIn_rangeFunc fun fid _ => ?_
  have hE := run_enterLoop_outer (P := P) (w := w) fid a.tmps ps assign body
  have s1 : SimE w0 (σ.es ++ [.dfr w.heap.size]) (w.alloc (.deferred (some []))) := sim_app s.toE (alloc_last _ _) rfl
  have hs1 : (w.alloc (.deferred (some []))).heap.size = w.heap.size + 1 := by simp
  have s2 : SimE w0 ((σ.es ++ [.dfr w.heap.size]) ++ [.loop (w.heap.size + 1) σ.tm ps assign body .ready none w.heap.size]) ((w.alloc (.deferred (some []))).alloc (.loop { state := .ready, pending := none, fn := fid, tmps := a.tmps, params := ps, assign := assign, body := body, defers := w.heap.size })) :=
    sim_app s1 ⟨fid, a.tmps, s.size, s.tm, by rw [← hs1]; exact alloc_last _ _⟩ (by simp [Cel.key])
  have hres : ∀ W, (resolve a.eval (rangeCall g (w.heap.size + 1)) 0).run P W = .ok { target := .fn (.func f) cap, args := first ++ #[.func (.yield (w.heap.size + 1)) #[] #[]] } W := by
    intro W
    simp only [resolve, s.eval hg, Deferred.ofValue]
    simp [Act.eval]
  have hinv : ∀ W, (invoke (.fn (.func f) cap) (first ++ #[.func (.yield (w.heap.size + 1)) #[] #[]])).run P W = .ok (.enter f (first ++ #[.func (.yield (w.heap.size + 1)) #[] #[]] ++ cap)) W := by
    intro W
    simp only [invoke]
    exact hent _ _
  refine ⟨w.heap.size + 1, _, _, _, _, f, _, _, hE, hres _, fun _ _ => trivial, hinv _, fun e => (by cases e), ?_⟩
  refine callsIn_wide.2 ((calls_awS (tm (w.heap.size + 1)) hf hb (htm _) s2 (h w.heap.size (w.heap.size + 1))).mono ?_)
  rintro r w' ⟨v, es', rfl, s', e, tm', st, pend, he, hst, hq⟩
  obtain ⟨fn2, tmps2, z1, z2, z3⟩ := s'.holds e _ he
  have s3 : SimE w0 (es'.eraseIdx e) (w'.putObj (w.heap.size + 1) (.loop { state := .exhausted, pending := pend, fn := fn2, tmps := tmps2, params := ps, assign := assign, body := body, defers := w.heap.size })) := s'.put he rfl rfl
  have s4 : Sim w0 ⟨σ.tm, es'.eraseIdx e, w.heap.size :: σ.ds⟩ { a with defers := [{ target := .collected w.heap.size, args := #[] }] ++ a.defers } _ := s3.of (by rw [s.def0]; rfl) s.size s.tm
  refine ⟨pend, _, run_endLoop z3 hst, ?_⟩
  cases pend with
  | none => exact ⟨trivial, _, s4, hq⟩
  | some c2 => exact hq _ _ s4
end
end Ag
end Go.Proofs.Ytlpjnhoafaamkaa
