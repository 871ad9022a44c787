/-
  AN EXECUTOR, checked once: regions whose order is open are right.
-/
import Derived.Test.YtlpjnhoafaamkaaExI
set_option linter.unusedVariables false
set_option linter.unusedSimpArgs false
namespace Go.Proofs.Ytlpjnhoafaamkaa
open Go Go.RowKit
namespace Ex

theorem restrict_get {M : Tr Ent} : ∀ {acc : List Nat}, (∀ e ∈ acc, e < LIM) → (restrict M acc).get = resA acc M.get
  | [], _ => by funext x; simp [restrict, Tr.get, resA]
  | e :: l, h => by
    funext x
    show ((restrict M l).set e (M.get e)).get x = _
    rw [Tr.get_set _ _ _ (h e (by simp)), restrict_get fun y hy => h y (List.mem_cons_of_mem _ hy)]
    unfold resA
    by_cases hx : x = e
    · subst hx
      rw [if_pos rfl]
      simp [List.any_cons, show Nat.beq x x = true from Nat.beq_refl x]
    · rw [if_neg hx]
      have : Nat.beq x e = false := by
        cases hb : Nat.beq x e with
        | false => rfl
        | true => exact absurd (Nat.eq_of_beq_eq_true hb) hx
      simp [List.any_cons, this]
theorem wrOf_get {M : Tr Ent} : ∀ {l : List Nat} {e : Nat} {c : Option Ent}, wrGet (wrOf M l) e = some c → e ∈ l ∧ c = M.get e
  | [], e, c, h => by cases h
  | x :: l, e, c, h => by
    change (bif Nat.beq x e then some (M.get x) else wrGet (wrOf M l) e) = some c at h
    cases hb : Nat.beq x e with
    | true => rw [hb] at h; cases h; have := Nat.eq_of_beq_eq_true hb; subst this; exact ⟨by simp, rfl⟩
    | false => rw [hb] at h; obtain ⟨h1, h2⟩ := wrOf_get h; exact ⟨List.mem_cons_of_mem _ h1, h2⟩
theorem wrOf_mem {M : Tr Ent} : ∀ {l : List Nat} {e : Nat}, e ∈ l → wrGet (wrOf M l) e = some (M.get e)
  | x :: l, e, h => by
    show (bif Nat.beq x e then some (M.get x) else wrGet (wrOf M l) e) = _
    cases hb : Nat.beq x e with
    | true => have := Nat.eq_of_beq_eq_true hb; subst this; rfl
    | false =>
      rcases List.mem_cons.1 h with rfl | h
      · rw [show Nat.beq e e = true from Nat.beq_refl e] at hb; cases hb
      · exact wrOf_mem h
theorem drawCall_ok {P : Program} {callF : CallF} (hc : CallSound P callF) {f : FuncId} {args : List Value} {M : Tr Ent} {n : Nat} {rc : Rc} (h : drawCall callF f args M n = some rc) (Wm : WFm M.get n) (ha : ∀ v ∈ args, Fit n v) :
    ∀ ρ w, Pre ρ M.get n rc.acc w → Calls P f (args.map (ren ρ)).toArray w fun e w' => ∃ ρ', e = .returned (ren ρ' rc.v) ∧ Eff ρ ρ' n (n + rc.new) (resA rc.acc M.get) rc.wr w w' := by
  unfold drawCall at h
  split at h
  · cases h
  split at h
  · cases h
  rename_i acc hacc
  cases hlim : acc.all (Nat.blt · LIM) with
  | false => rw [hlim] at h; cases h
  | true =>
    rw [hlim] at h
    simp only [cond_true] at h
    split at h
    · cases h
    rename_i r hr
    split at h
    · cases h
    split at h
    · cases h
    rename_i live hlive
    cases h
    have hl : ∀ e ∈ acc, e < LIM := fun e he => Nat.le_of_ble_eq_true ((List.all_eq_true.1 hlim) e he)
    have hget := restrict_get (M := M) hl
    have Wr' : WFm (restrict M acc).get n := ⟨fun e c hc => by rw [hget] at hc; exact Wm.fit e c (resA_some hc).2⟩
    obtain ⟨⟨x1, x2, x3⟩, x4⟩ := hc _ _ _ _ _ hr Wr' ha
    intro ρ w p
    have hs : SimH ρ (restrict M acc).get w := by rw [hget]; exact p.sim
    refine (x4 ρ w hs).mono ?_
    rintro e w' ⟨ρ', rfl, t⟩
    have hn : n + (r.n - n) = r.n := by omega
    have al : ∀ i, i < r.n → alike ρ' (⟨fun i => if i < r.n then ρ'.b i else ρ.b i, fun i => if i < r.n then ρ'.n i else ρ.n i⟩ : Nm) i := fun i hi => ⟨by show _ = (if i < r.n then ρ'.b i else ρ.b i); rw [if_pos hi], by show _ = (if i < r.n then ρ'.n i else ρ.n i); rw [if_pos hi]⟩
    refine ⟨⟨fun i => if i < r.n then ρ'.b i else ρ.b i, fun i => if i < r.n then ρ'.n i else ρ.n i⟩, by rw [x3 ρ' _ al], ?_⟩
    have old : ∀ e, e ∈ r.md → e < n → ((restrict M acc).get e).isSome → wrGet (wrOf r.M ((r.md.filter fun e => Nat.blt e n && ((restrict M acc).get e).isSome) ++ live.filter fun e => Nat.ble n e && Nat.blt e r.n)) e = some (r.M.get e) := fun e h1 h2 h3 =>
      wrOf_mem (List.mem_append_left _ (List.mem_filter.2 ⟨h1, by simp only [Bool.and_eq_true]; exact ⟨Nat.ble_eq_true_of_le h2, h3⟩⟩))
    rw [hn, ← hget]
    refine ⟨fun i hi => ?_, ?_, ?_, ?_, ?_, ?_⟩
    · by_cases h1 : i < n
      · exact (t.agree i h1).trans (al i (by omega))
      · have : ¬ i < r.n := by omega
        exact ⟨by show _ = (if i < r.n then ρ'.b i else ρ.b i); rw [if_neg this], by show _ = (if i < r.n then ρ'.n i else ρ.n i); rw [if_neg this]⟩
    · refine t.keep.mono ?_
      rintro k _ ⟨e, h1, h2, h3, h4⟩
      exact ⟨e, _, old e h1 h2 h3, h2, h3, h4⟩
    · intro e c h
      obtain ⟨h1, h2⟩ := wrOf_get h
      have h2 : r.M.get e = some c := h2.symm
      obtain ⟨f1, f2⟩ := x1.fit e c h2
      exact holds_sup f1 al (al e f2) (t.sim.holds e c h2)
    · intro e e' c c' h h' hne
      have h2 : r.M.get e = some c := (wrOf_get h).2.symm
      have h2' : r.M.get e' = some c' := (wrOf_get h').2.symm
      have := t.sim.inj e e' c c' h2 h2' hne
      rw [← (al e (x1.fit e c h2).2).1, ← (al e' (x1.fit e' c' h2').2).1]
      exact this
    · intro e c h
      obtain ⟨h1, h2⟩ := wrOf_get h
      rcases List.mem_append.1 h1 with h3 | h3
      · have := (List.mem_filter.1 h3).2
        simp only [Bool.and_eq_true] at this
        exact .inr ⟨Nat.le_of_ble_eq_true this.1, this.2⟩
      · have := (List.mem_filter.1 h3).2
        simp only [Bool.and_eq_true] at this
        exact .inl ⟨Nat.le_of_ble_eq_true this.1, Nat.le_of_ble_eq_true this.2⟩
    · intro e c h1 h
      have h2 : r.M.get e = some c := (wrOf_get h).2.symm
      have hlt := (x1.fit e c h2).2
      rw [← (al e hlt).1]
      rcases t.own e h1 (by rw [h2]; rfl) with q | ⟨e0, q1, q2, q3, q4⟩
      · exact .inl q
      · refine .inr ⟨e0, q2, ?_, q3, q4⟩
        rw [old e0 q1 q2 q3]
        cases hq : r.M.get e0 with
        | none => rfl
        | some c0 =>
          exfalso
          have hne : e0 ≠ e := fun z => by
            have q2 : e0 < n := q2
            have h1 : n ≤ e := h1
            omega
          refine t.sim.inj e0 e c0 c hq h2 hne ?_
          rw [← (t.agree e0 q2).1]
          exact q4
/-- the temporaries that an operation looks at -/
theorem looks_val {o : Oper} {ops : Array Oper} {tm : Tr Value} {ρ : Nm} {a : Act} (h : ∀ t ∈ o.looksAt ops, ∀ v, tm.get t = some v → a.tmps[t]? = some (ren ρ v)) : ∀ x ∈ o.op.operands, ∀ v, opx tm.get x = some v → a.eval x = ren ρ v := by
  intro x hx v hv
  cases x with
  | tmp t =>
    have := h t (by unfold Oper.looksAt; exact List.mem_append_left _ (List.mem_filterMap.2 ⟨.tmp t, by simpa using hx, rfl⟩)) v hv
    simp [Act.eval, this]
  | const u =>
    simp only [opx] at hv
    cases hg : gnd u with
    | false => rw [hg] at hv; cases hv
    | true => rw [hg] at hv; cases hv; simp [Act.eval, gnd_ren hg]
  | global g => cases hv
  | func f => cases hv; simp [Act.eval, fren]
theorem looks_want {o : Oper} {ops : Array Oper} {tm : Tr Value} {ρ : Nm} {a : Act} (h : ∀ t ∈ o.looksAt ops, ∀ v, tm.get t = some v → a.tmps[t]? = some (ren ρ v)) {b : Bool} (hw : want ops o tm.get = some b) : Region.wanted o (yielded ops a.tmps) = b := by
  unfold want at hw
  unfold Region.wanted
  cases hg : o.guard with
  | none => rw [hg] at hw; cases hw; rfl
  | some q =>
    obtain ⟨j, c⟩ := q
    rw [hg] at hw
    unfold yielded
    cases hd : (ops[j]?).bind (·.dst) with
    | none => simp only [hd] at hw; cases hw; simp [hd]
    | some d =>
      have hm : d ∈ o.looksAt ops := by
        unfold Oper.looksAt
        refine List.mem_append_right _ ?_
        simp [hg, hd]
      simp only [hd] at hw
      simp only [hd, Option.bind_some]
      split at hw
      · rename_i u hu
        cases hw
        have := h d hm _ hu
        simp [this]
      · rename_i u hne hu
        cases hw
        have := h d hm _ hu
        simp only [this]
        cases u with
        | bool b => exact absurd rfl (hne b)
        | slice p l c => cases p <;> simp
        | _ => simp
      · cases hw
theorem drawOps_spec {P : Program} {callF : CallF} (hc : CallSound P callF) {ops : Array Oper} {rs : Nat → Rc} {tm0 : Nat → Option Value} {H0 : Nat → Option Ent} {n0 : Nat} : ∀ (l : List Oper) (k : Nat) (σ : XS) (rl : List Rc) (σ' : XS), ops.toList.drop k = l → k ≤ ops.size → drawOps P callF ops l σ = some (rl, σ') → (∀ j, j < rl.length → rs (k + j) = rl.getD j default) →
    tmT ops rs tm0 k = σ.tm.get → HT rs H0 k = σ.M.get → nT rs n0 k = σ.n → WF σ →
    rl.length = l.length ∧ tmT ops rs tm0 ops.size = σ'.tm.get ∧ HT rs H0 ops.size = σ'.M.get ∧ nT rs n0 ops.size = σ'.n ∧ WF σ' ∧ σ'.L = σ.L ∧ σ'.ds = σ.ds ∧ (∀ e, e ∈ σ.md → e ∈ σ'.md) ∧
    ∀ i, k ≤ i → i < ops.size → OpOK P ops i (tmT ops rs tm0 i) (HT rs H0 i) (nT rs n0 i) (rs i) ∧ (∀ e c, HT rs H0 i e = some c → FitE (nT rs n0 i) c ∧ e < nT rs n0 i) ∧ (∀ e, (wrGet (rs i).wr e).isSome → e < nT rs n0 (i + 1)) ∧ (∀ t, dstOf ops i = some t → t < σ.L) ∧ (∀ e, (wrGet (rs i).wr e).isSome → e ∈ σ'.md)
  | [], k, σ, rl, σ', hl, hkk, h, hrs, e1, e2, e3, W => by
    cases h
    have : ops.size ≤ k := by
      have := congrArg List.length hl
      simp at this
      omega
    have : k = ops.size := by omega
    subst this
    exact ⟨rfl, e1, e2, e3, W, rfl, rfl, fun e h => h, fun i h1 h2 => by omega⟩
  | o :: l, k, σ, rl, σ', hl, hkk, h, hrs, e1, e2, e3, W => by
    have hlt : k < ops.size := by
      rcases Nat.lt_or_ge k ops.size with q | q
      · exact q
      · rw [List.drop_of_length_le (by simpa using q)] at hl; cases hl
    have ho : ops[k]? = some o := by
      have := congrArg (fun l : List Oper => l[0]?) hl
      simp only [List.getElem?_drop, Nat.add_zero, List.getElem?_cons_zero] at this
      rw [← Array.getElem?_toList]
      exact this
    have hl' : ops.toList.drop (k + 1) = l := by
      have := congrArg List.tail hl
      simpa using this
    have hdst : dstOf ops k = o.dst := by unfold dstOf; rw [ho]; rfl
    unfold drawOps at h
    cases hd : dstOk σ.L o.dst with
    | false => rw [hd] at h; cases h
    | true =>
      rw [hd] at h
      simp only [cond_true] at h
      split at h
      · cases h
      rename_i r hr
      cases hok : (below (σ.n + r.new) (idsV dep r.v) && wrOk (σ.n + r.new) (σ.n + r.new) r.wr && Nat.blt (σ.n + r.new) LIM) with
      | false => rw [hok] at h; cases h
      | true =>
        rw [hok] at h
        simp only [cond_true] at h
        split at h
        case h_2 => cases h
        rename_i rl' σ1 hrec
        cases h
        simp only [Bool.and_eq_true] at hok
        obtain ⟨⟨o1, o2⟩, o3⟩ := hok
        have o3 : σ.n + r.new < LIM := Nat.le_of_ble_eq_true o3
        have hrk : rs k = r := by have := hrs 0 (by simp); simpa using this
        have hget := applyWr_get (M := σ.M) (wr := r.wr) (σ.n + r.new) (wrOk_mem o2) o3
        have W1 : WF { σ with tm := putT σ.tm o.dst r.v, M := applyWr σ.M r.wr, n := σ.n + r.new, md := r.wr.map (·.1) ++ σ.md } := by
          refine WF.put W hd (Nat.le_add_right _ _) rfl rfl (below_ok o1) fun e c hc => ?_
          simp only [hget] at hc
          unfold upd at hc
          split at hc
          · rename_i c' hw
            subst hc
            obtain ⟨h1, h2⟩ := wrOk_get o2 hw
            exact ⟨h2 c rfl, h1⟩
          · obtain ⟨h1, h2⟩ := W.fitm e c hc
            exact ⟨h1.mono fun i hi => Nat.lt_of_lt_of_le hi (Nat.le_add_right _ _), Nat.lt_of_lt_of_le h2 (Nat.le_add_right _ _)⟩
        have t1 : tmT ops rs tm0 (k + 1) = (putT σ.tm o.dst r.v).get := by
          funext t
          rw [putT_get hd]
          show tmD ops rs tm0 (fun _ => true) (k + 1) t = _
          unfold tmD
          simp only [true_and, hdst, hrk]
          rw [show tmD ops rs tm0 (fun _ => true) k t = σ.tm.get t from congrFun e1 t]
        have t2 : HT rs H0 (k + 1) = (applyWr σ.M r.wr).get := by
          rw [hget]
          show HD rs H0 (fun _ => true) (k + 1) = _
          simp only [HD, if_true, hrk]
          rw [show HD rs H0 (fun _ => true) k = σ.M.get from e2]
        have t3 : nT rs n0 (k + 1) = σ.n + r.new := by
          show nT rs n0 k + (rs k).new = _
          rw [e3, hrk]
        obtain ⟨r1, r2, r3, r4, r5, r6, r7, r8, r9⟩ := drawOps_spec hc l (k + 1) _ rl' σ' hl' hlt hrec (fun j hj => by
          have := hrs (j + 1) (by simp; omega)
          rw [show k + 1 + j = k + (j + 1) by omega, this]
          simp) t1 t2 t3 W1
        refine ⟨by simp [r1], r2, r3, r4, r5, r6, r7, fun e he => r8 e (List.mem_append_right _ he), fun i h1 h2 => ?_⟩
        by_cases hi : i = k
        · subst hi
          refine ⟨?_, by rw [e2, e3]; exact W.fitm, fun e he => ?_, fun t ht => dstOk_lt hd t (by rw [← hdst]; exact ht), fun e he => ?_⟩
          · -- the operation itself
            rw [e1, e2, e3, hrk]
            intro o' ho' ρ a w K Q hlook p hK
            rw [ho] at ho'
            cases ho'
            split at hr
            · cases hr
            · rename_i hw
              cases hr
              refine op_unwanted ho (looks_want hlook hw) ?_
              have := hK ρ w (Eff.nothing ρ _ _ _ fun S => Keep.refl w)
              rw [show ren ρ undef = undef from by simp [undef]] at this
              exact this
            · rename_i hw
              split at hr
              · rename_i v wr acc new hev
                cases hwo : wrOk σ.n (σ.n + new) wr with
                | false => rw [hwo] at hr; cases hr
                | true =>
                  rw [hwo] at hr
                  cases hr
                  exact op_val ho (looks_want hlook hw) (evOp_good hev ⟨p, looks_val hlook, fun x v h => opx_fit W h⟩ fun e c h => (wrOk_get hwo h).2 c rfl) hK
              · rename_i f args hev
                refine op_call (A := resA [] σ.M.get) (n := σ.n) ho (looks_want hlook hw) (evOp_good hev ⟨⟨⟨fun e c hc => (by cases (resA_some hc).1), fun e e' c c' hc => (by cases (resA_some hc).1)⟩, W.fitm⟩, looks_val hlook, fun x v h => opx_fit W h⟩ trivial) ((drawCall_ok hc hr ⟨W.fitm⟩ (evOp_args W hev) ρ w p).mono ?_)
                rintro e w' ⟨ρ', rfl, E⟩
                exact ⟨_, rfl, hK ρ' w' E⟩
              · cases hr
          · obtain ⟨c, hc⟩ := Option.isSome_iff_exists.1 he
            rw [t3]
            exact (wrOk_get o2 (by rw [← hrk]; exact hc)).1
          · obtain ⟨c, hc⟩ := Option.isSome_iff_exists.1 he
            refine r8 e (List.mem_append_left _ (List.mem_map.2 ⟨(e, c), wrGet_mem (by rw [← hrk]; exact hc), rfl⟩))
        · exact r9 i (by omega) h2
    termination_by l => l.length
end Ex
end Go.Proofs.Ytlpjnhoafaamkaa
