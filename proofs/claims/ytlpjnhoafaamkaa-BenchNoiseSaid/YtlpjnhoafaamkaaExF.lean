/-
  AN EXECUTOR, checked once: a round of a loop over a function, and operations in the order of the text.
-/
import Derived.Test.YtlpjnhoafaamkaaExE
set_option linter.unusedVariables false
set_option linter.unusedSimpArgs false
namespace Go.Proofs.Ytlpjnhoafaamkaa
open Go Go.RowKit
namespace Ex

theorem setPs_spec {ρ : Nm} {L : Nat} : ∀ (ps : List Tmp) (vs : List Value) (tm : Tr Value) (tmps : Array Value), psOk L ps = true → tmps.size = L → (∀ t v, tm.get t = some v → tmps[t]? = some (ren ρ v)) →
    ((ps.zip (vs.map (ren ρ))).foldl (fun (t : Array Value) (x : Tmp × Value) => t.setIfInBounds x.1 x.2) tmps).size = L ∧ ∀ t v, (setPs tm ps vs).get t = some v → ((ps.zip (vs.map (ren ρ))).foldl (fun (t : Array Value) (x : Tmp × Value) => t.setIfInBounds x.1 x.2) tmps)[t]? = some (ren ρ v)
  | [], vs, tm, tmps, _, h1, h2 => by simpa [setPs] using ⟨h1, h2⟩
  | p :: ps, [], tm, tmps, _, h1, h2 => by simpa [setPs] using ⟨h1, h2⟩
  | p :: ps, v :: vs, tm, tmps, hp, h1, h2 => by
    unfold psOk at hp
    simp only [List.all_cons, Bool.and_eq_true] at hp
    have hpL : p < L := Nat.le_of_ble_eq_true hp.1.1
    have hpM : p < LIM := Nat.le_of_ble_eq_true hp.1.2
    simp only [setPs, List.map_cons, List.zip_cons_cons, List.foldl_cons]
    refine setPs_spec ps vs (tm.set p (some v)) (tmps.setIfInBounds p (ren ρ v)) (by unfold psOk; exact hp.2) (by simp [h1]) ?_
    intro t u hu
    rw [Tr.get_set _ _ _ hpM] at hu
    by_cases h : t = p
    · subst h
      rw [if_pos rfl] at hu
      cases hu
      simp [h1, hpL]
    · rw [if_neg h] at hu
      rw [Array.getElem?_setIfInBounds_ne (Ne.symm h)]
      exact h2 t u hu
theorem setPs_fit {n L : Nat} : ∀ (ps : List Tmp) (vs : List Value) (tm : Tr Value), psOk L ps = true → (∀ t v, tm.get t = some v → Fit n v) → (∀ v ∈ vs, Fit n v) → ∀ t v, (setPs tm ps vs).get t = some v → Fit n v
  | [], vs, tm, _, h1, h2 => by simpa [setPs] using h1
  | p :: ps, [], tm, _, h1, h2 => by simpa [setPs] using h1
  | p :: ps, v :: vs, tm, hp, h1, h2 => by
    unfold psOk at hp
    simp only [List.all_cons, Bool.and_eq_true] at hp
    simp only [setPs]
    refine setPs_fit ps vs (tm.set p (some v)) (by unfold psOk; exact hp.2) ?_ fun u hu => h2 u (List.mem_cons_of_mem _ hu)
    intro t u hu
    rw [Tr.get_set _ _ _ (Nat.le_of_ble_eq_true hp.1.2)] at hu
    split at hu
    · cases hu; exact h2 v (by simp)
    · exact h1 t u hu
theorem grown_putObj {w : World} {g : Nat} {o : Obj} : w.grownBy (w.putObj g o) (some g) :=
  ⟨rfl, rfl, rfl, by simp, fun k _ hk => World.putObj_heap_other fun e => hk (by rw [e])⟩
/-- a record that becomes another one -/
theorem SimC.rcd {B : Base} {md : Nat → Prop} {ρ : Nm} {M : Tr Ent} {n : Nat} {w : World} {l L D : Nat} {T : Tr Value} {ps : Array Tmp} {A Bd : Code} {st : LoopState} {pend : Option Code} (s : SimC B md ρ M.get w) (hf : ∀ e c, M.get e = some c → FitE n c ∧ e < n) (hB : B.n ≤ n) (hlim : l < LIM)
    (hl : M.get l = some (.loop T L ps A Bd st pend D)) (st' : LoopState) (pend' : Option Code) {r : Loop} (hr : w.heap[ρ.b l]? = some (.loop r)) :
    SimC B (fun e => e = l ∨ md e) ρ (M.set l (some (.loop T L ps A Bd st' pend' D))).get (w.putObj (ρ.b l) (.loop { r with state := st', pending := pend' })) := by
  have hln := (hf l _ hl).2
  have hh := s.sim.holds l _ hl
  obtain ⟨fn, tmps, q1, q2, q3⟩ := hh
  rw [hr] at q3
  simp only [Option.some.injEq, Obj.loop.injEq] at q3
  have hlt : ρ.b l < w.heap.size := (Array.getElem?_eq_some_iff.1 hr).1
  have hnew : Ent.holds ρ (w.putObj (ρ.b l) (.loop { r with state := st', pending := pend' })) l (.loop T L ps A Bd st' pend' D) :=
    ⟨fn, tmps, q1, q2, by rw [World.putObj_heap_same hlt, q3]⟩
  have E := Eff.wrote ρ n M.get hln (by rw [hl]; rfl) (grown_putObj (w := w) (g := ρ.b l) (o := .loop { r with state := st', pending := pend' })) hnew
  have h := stepC (s.mono (md' := fun e => e = l ∨ md e) fun e he => .inr he) E hB (fun e _ h => by
    obtain ⟨c, hc⟩ := Option.isSome_iff_exists.1 h
    exact .inl (wrGet_one hc).1) (fun e h1 h2 => by omega) (fun e c hc _ => (hf e c hc).1.mono fun i hi => by omega)
  have e1 : (M.set l (some (.loop T L ps A Bd st' pend' D))).get = upd M.get [(l, some (.loop T L ps A Bd st' pend' D))] := by
    funext e
    rw [Tr.get_set _ _ _ hlim]
    by_cases he : e = l
    · subst he; rw [if_pos rfl]; unfold upd; rw [wrGet_self]
    · rw [if_neg he]
      unfold upd
      cases hq : wrGet [(l, some (.loop T L ps A Bd st' pend' D))] e with
      | none => rfl
      | some c => exact absurd (wrGet_one hq).1 he
  rw [e1]
  exact h
theorem rec_fit {M : Tr Ent} {n l L D : Nat} {T : Tr Value} {ps : Array Tmp} {A Bd : Code} {st : LoopState} {pend : Option Code} (hf : ∀ e c, M.get e = some c → FitE n c ∧ e < n) (hlim : l < LIM) (hl : M.get l = some (.loop T L ps A Bd st pend D)) (st' : LoopState) (pend' : Option Code) :
    ∀ e c, (M.set l (some (.loop T L ps A Bd st' pend' D))).get e = some c → FitE n c ∧ e < n := by
  intro e c hc
  rw [Tr.get_set _ _ _ hlim] at hc
  split at hc
  · rename_i he
    cases hc
    subst he
    exact ⟨(hf e _ hl).1, (hf e _ hl).2⟩
  · exact hf e c hc
/-- what a round leaves -/
def RoundOK (P : Program) (σ σ' : XS) (l : Nat) (args : List Value) (b : Bool) (d : Option Tmp) : Prop :=
  σ.n ≤ σ'.n ∧ σ'.L = σ.L ∧ σ'.tm = σ.tm ∧ σ'.ds = σ.ds ∧ (∀ e c, σ'.M.get e = some c → FitE σ'.n c ∧ e < σ'.n) ∧
    ∀ {B : Base} {ρ : Nm} {a : Act} {w : World} {ro : Option Nat} {ops : Array Oper} {i : Nat} {o : Oper} {K : Act → World → Prop} {R : Exit → Act → World → Prop} {A : Nat → Option Ent} {n1 : Nat}, B.n ≤ σ.n → SimX B σ ρ a w → ops[i]? = some o → o.dst = d → Region.wanted o (yielded ops a.tmps) = true → Good P o a.eval ρ n1 A w (.yield l args) →
      (∀ ρ' w', SimX B { σ' with tm := putT σ'.tm d (.bool b) } ρ' (a.put d (.bool b)) w' → (∀ i, i < σ.n → alike ρ ρ' i) → K (a.put d (.bool b)) w') → wpOpIn (fen ro) 0 P ops R i K a w
theorem round_step {P : Program} {codeF : CodeF} (hk : CodeSound P codeF) {σ σ' : XS} (W : WF σ) {l : Nat} {args : List Value} {b : Bool} (h : exRound codeF l args σ = some (b, σ')) (ha : ∀ v ∈ args, Fit σ.n v) {d : Option Tmp} (hd : dstOk σ.L d = true) : RoundOK P σ σ' l args b d := by
  unfold exRound at h
  split at h
  case h_2 => cases h
  rename_i T L ps A Bd pend D hl
  cases hb : (Nat.beq args.length ps.size && psOk L ps.toList && Nat.blt l LIM) with
  | false => rw [hb] at h; cases h
  | true =>
    rw [hb] at h
    simp only [Bool.and_eq_true] at hb
    obtain ⟨⟨b1, b2⟩, b3⟩ := hb
    have b1 := Nat.eq_of_beq_eq_true b1
    have b3 : l < LIM := Nat.le_of_ble_eq_true b3
    simp only [cond_true] at h
    have hln := (W.fitm l _ hl).2
    split at h
    case h_2 => cases h
    rename_i σ1 hA
    split at h
    case h_2 => cases h
    rename_i T1 L1 ps1 A1 B1 pend1 D1 hl1 hds1
    split at h
    case h_2 => cases h
    rename_i ex σ2 hB2
    split at h
    case h_2 => cases h
    rename_i T2 L2 ps2 A2 B2 pend2 D2 hl2
    -- the assignments
    have Wa : WF { σ with tm := setPs T ps.toList args, L := L, ds := [] } :=
      ⟨W.fitm, setPs_fit ps.toList args T b2 (W.fitm l _ hl).1.1 ha, fun D hD => by cases hD⟩
    obtain ⟨_, W1, n1le, L1e, X1⟩ := hk _ _ _ _ _ hA (fun l' hl' => by cases hl'; exact hln) Wa
    have Wb : WF { σ1 with M := σ1.M.set l (some (.loop T1 L1 ps1 A1 B1 .busy pend1 D1)), md := l :: σ1.md, ds := [] } :=
      ⟨rec_fit W1.fitm b3 hl1 _ _, W1.fitt, fun D hD => by cases hD⟩
    have hln1 : l < σ1.n := (W1.fitm l _ hl1).2
    obtain ⟨fex, W2, n2le, L2e, X2⟩ := hk _ _ _ _ _ hB2 (fun l' hl' => by cases hl'; exact hln1) Wb
    have n1le : σ.n ≤ σ1.n := n1le
    have n2le : σ1.n ≤ σ2.n := n2le
    have key : ∀ (bb : Bool) (st' : LoopState) (pd : Option Code), b = bb → σ' = { σ with M := σ2.M.set l (some (.loop T2 L2 ps2 A2 B2 st' pd D2)), n := σ2.n, md := l :: σ2.md } →
        (∀ (Rr : Ending → World → Prop) (a2 : Act) (w2 : World) (r : Loop) (g : Nat), w2.heap[g]? = some (.loop r) → Rr (.returned (.bool bb)) (w2.putObj g (.loop { r with state := st', pending := pd })) → roundPost P g Rr ex a2 w2) → RoundOK P σ σ' l args b d := by
      intro bb st' pd hbb hσ hpost
      subst hbb hσ
      refine ⟨Nat.le_trans n1le n2le, rfl, rfl, rfl, rec_fit W2.fitm b3 hl2 _ _, ?_⟩
      intro B ρ a w ro ops i o K R A' n1 hBn s ho hod hw hg hK
      obtain ⟨x, xs, ts, hop, hx, hxs⟩ := hg
      obtain ⟨fn, tmps, q1, q2, q3⟩ := s.sim.sim.holds l _ hl
      have hrun : (execOp a.eval o).run P w = .ok (.round (ρ.b l) fn ((ps.zip (args.map (ren ρ)).toArray).foldl (fun tmps (t, a) => tmps.setIfInBounds t a) tmps) A Bd) w := by
        unfold execOp
        simp only [hop, resolve, hx, hxs]
        have := run_yield (P := P) (args := (args.map (ren ρ)).toArray) q3 (by simpa using b1)
        simp only [Deferred.ofValue, Sem.run_bind, Sem.run_pure, Result.andThen_ok, invoke]
        simpa using this
      unfold wpOpIn
      simp only [ho, hw, if_true]
      refine ⟨fun f hf => (by cases ro <;> trivial), ?_⟩
      have hsem : Oper.semAt (fen ro).round a.eval o = execOp a.eval o := by
        cases ro with
        | none => rfl
        | some l' => exact Oper.semAt_some l' a.eval o (fun c e => by rw [hop] at e; cases e)
      rw [hsem, hrun]
      refine ⟨fun hh => (by cases ro <;> cases hh), ?_⟩
      have hfold : (ps.zip (args.map (ren ρ)).toArray).foldl (fun tmps (x : Tmp × Value) => tmps.setIfInBounds x.1 x.2) tmps = (ps.toList.zip (args.map (ren ρ))).foldl (fun (t : Array Value) (x : Tmp × Value) => t.setIfInBounds x.1 x.2) tmps := by
        rw [← Array.foldl_toList, Array.toList_zip]
      obtain ⟨t1, t2⟩ := setPs_spec (ρ := ρ) ps.toList args T tmps b2 q1 q2
      have s0 : SimX B { σ with tm := setPs T ps.toList args, L := L, ds := [] } ρ ⟨(ps.toList.zip (args.map (ren ρ))).foldl (fun (t : Array Value) (x : Tmp × Value) => t.setIfInBounds x.1 x.2) tmps, []⟩ w :=
        ⟨rfl, t1, t2, s.sim⟩
      have hw1 := X1 B ρ _ w hBn s0
      refine RoundIn.mono (R := fun r w' => r = .returned (.bool b) ∧ ∃ ρ', SimC B (fun e => e = l ∨ e ∈ σ2.md) ρ' (σ2.M.set l (some (.loop T2 L2 ps2 A2 B2 st' pd D2))).get w' ∧ ∀ i, i < σ.n → alike ρ ρ' i) ?_ ?_
      · show RoundIn (fen ro) (0 - 1) P (ρ.b l) fn ((ps.zip (args.map (ren ρ)).toArray).foldl (fun tmps (x : Tmp × Value) => tmps.setIfInBounds x.1 x.2) tmps) A Bd w _
        rw [hfold]
        have hfen : (fen ro).inRound (ρ.b l) = Fence.wide.inRound (ρ.b l) := by cases ro <;> rfl
        refine roundIn_of_wpIn (by cases ro <;> trivial) ?_
        rw [hfen]
        refine wpIn_mono hw1 ?_
        rintro e1 a1 w1 ⟨rfl, ρ1, s1, al1⟩
        obtain ⟨fn1, tmps1, z1, z2, z3⟩ := s1.sim.sim.holds l _ hl1
        have hb1 : ρ1.b l = ρ.b l := (al1 l hln).1.symm
        have s1b : SimX B { σ1 with M := σ1.M.set l (some (.loop T1 L1 ps1 A1 B1 .busy pend1 D1)), md := l :: σ1.md, ds := [] } ρ1 a1 (w1.putObj (ρ1.b l) (.loop { state := .busy, pending := pend1, fn := fn1, tmps := tmps1, params := ps1, assign := A1, body := B1, defers := ρ1.b D1 })) :=
          ⟨by rw [s1.def0, hds1], s1.size, s1.tm, (s1.sim.rcd W1.fitm (Nat.le_trans hBn n1le) b3 hl1 .busy pend1 z3).mono fun e he => by
            rcases he with he | he
            · subst he; exact List.mem_cons_self
            · exact List.mem_cons_of_mem _ he⟩
        have hw2 := X2 B ρ1 a1 _ (Nat.le_trans hBn n1le) s1b
        rw [← hb1]
        refine ⟨_, run_beginRound z3 rfl, ?_⟩
        refine wpIn_mono hw2 ?_
        rintro e2 a2 w2 ⟨rfl, ρ2, s2, al2⟩
        obtain ⟨fn2, tmps2, y1, y2, y3⟩ := s2.sim.sim.holds l _ hl2
        have hb2 : ρ2.b l = ρ1.b l := (al2 l hln1).1.symm
        rw [← hb2]
        refine hpost _ a2 w2 _ _ y3 ⟨rfl, ρ2, s2.sim.rcd W2.fitm (Nat.le_trans hBn (Nat.le_trans n1le n2le)) b3 hl2 st' pd y3, fun j hj => (al1 j hj).trans (al2 j (Nat.lt_of_lt_of_le hj n1le))⟩
      · rintro r w' ⟨rfl, ρ', t, al⟩
        have e1 : ren ρ' (.bool b) = .bool b := ren_bool _ _
        have hput := s.put (σ' := { σ with tm := putT σ.tm d (.bool b), M := σ2.M.set l (some (.loop T2 L2 ps2 A2 B2 st' pd D2)), n := σ2.n, md := l :: σ2.md }) (v := .bool b) W hd al rfl rfl rfl (t.mono fun e he => by
            rcases he with he | he
            · subst he; exact List.mem_cons_self
            · exact List.mem_cons_of_mem _ he)
        rw [e1] at hput
        rw [hod]
        exact hK ρ' w' hput al
    cases ex with
    | normal =>
      simp only [Option.some.injEq, Prod.mk.injEq] at h
      exact key true .ready none h.1.symm h.2.symm fun Rr a2 w2 r g hg hR => ⟨_, _, run_endRound none hg, hR⟩
    | ret =>
      simp only [Option.some.injEq, Prod.mk.injEq] at h
      exact key false .done (some .ret) h.1.symm h.2.symm fun Rr a2 w2 r g hg hR => ⟨_, _, run_endRound (some .ret) hg, hR⟩
    | exit id =>
      simp only [Option.some.injEq, Prod.mk.injEq] at h
      exact key false .done (some (.exit id)) h.1.symm h.2.symm fun Rr a2 w2 r g hg hR => ⟨_, _, run_endRound (some (.exit id)) hg, hR⟩
    | _ => cases h
theorem noOut {B : Base} {n : Nat} {σ' : XS} {e : Exit} {ρ : Nm} (h : fine e) : ¬ LetsOut (Post B n σ' e ρ) := by
  rintro ⟨a, w, h1, _⟩
  subst h1
  exact h
theorem exSeq_sound {P : Program} {callF : CallF} {codeF : CodeF} {ops : Array Oper} (hc : CallSound P callF) (hk : CodeSound P codeF) {ro : Option Nat} : ∀ (l : List Oper) (k : Nat) (σ σ' : XS), ops.toList.drop k = l → k ≤ ops.size → exSeq P callF codeF ops l σ = some σ' → WF σ →
    WF σ' ∧ σ.n ≤ σ'.n ∧ σ'.L = σ.L ∧ ∀ (B : Base) (ρ0 : Nm) (n0 : Nat) (ρ : Nm) (a : Act) (w : World), B.n ≤ n0 → n0 ≤ σ.n → (∀ i, i < n0 → alike ρ0 ρ i) → SimX B σ ρ a w →
      wpOpsIn (fen (ro.map ρ0.b)) 0 P ops (Post B n0 σ' .normal ρ0) (List.range' k (ops.size - k)) a w
  | [], k, σ, σ', hl, hkk, h, W => by
    cases h
    have : ops.size ≤ k := by
      have := congrArg List.length hl
      simp at this
      omega
    refine ⟨W, Nat.le_refl _, rfl, fun B ρ0 n0 ρ a w h1 h2 h3 s => ?_⟩
    rw [show ops.size - k = 0 by omega]
    exact ⟨rfl, ρ, s, h3⟩
  | o :: l, k, σ, σ', hl, hkk, h, W => by
    have hlt : k < ops.size := by
      rcases Nat.lt_or_ge k ops.size with q | q
      · exact q
      · rw [List.drop_of_length_le (by simpa using q)] at hl; cases hl
    have ho : ops[k]? = some o := by
      have := congrArg (fun l : List Oper => l[0]?) hl
      simp only [List.getElem?_drop, Nat.add_zero, List.getElem?_cons_zero] at this
      rw [← Array.getElem?_toList]
      exact this
    have hl' : ops.toList.drop (k + 1) = l := by
      have := congrArg List.tail hl
      simpa using this
    have hrange : List.range' k (ops.size - k) = k :: List.range' (k + 1) (ops.size - (k + 1)) := by
      rw [show ops.size - k = (ops.size - (k + 1)) + 1 by omega, List.range'_succ]
    unfold exSeq at h
    cases hd : dstOk σ.L o.dst with
    | false => rw [hd] at h; cases h
    | true =>
      rw [hd] at h
      simp only [cond_true] at h
      split at h
      · cases h
      · -- not wanted
        rename_i hw
        have W1 : WF { σ with tm := putT σ.tm o.dst undef } := WF.put W hd (Nat.le_refl _) rfl rfl (undef_fit _) W.fitm
        obtain ⟨r1, r2, r3, r4⟩ := exSeq_sound hc hk l (k + 1) _ σ' hl' hlt h W1
        refine ⟨r1, r2, r3, fun B ρ0 n0 ρ a w h1 h2 h3 s => ?_⟩
        rw [hrange, wpOpsIn_cons']
        refine op_unwantedIn ho (want_ok s hw) (r4 B ρ0 n0 ρ _ w h1 h2 h3 ?_)
        have := s.put (σ' := { σ with tm := putT σ.tm o.dst undef }) (v := undef) W hd (fun i _ => ⟨rfl, rfl⟩) rfl rfl rfl s.sim
        rw [show ren ρ undef = undef from by simp [undef]] at this
        exact this
      · rename_i hw
        split at h
        · -- a value
          rename_i v wr acc new hev
          cases hr : resOk σ.n v wr new with
          | false => rw [hr] at h; cases h
          | true =>
            rw [hr] at h
            simp only [cond_true] at h
            obtain ⟨W1, hfit, hstep⟩ := val_step (P := P) (acc := acc) W hd hr
            obtain ⟨r1, r2, r3, r4⟩ := exSeq_sound hc hk l (k + 1) _ σ' hl' hlt h W1
            refine ⟨r1, Nat.le_trans (Nat.le_add_right _ _) r2, r3, fun B ρ0 n0 ρ a w h1 h2 h3 s => ?_⟩
            rw [hrange, wpOpsIn_cons']
            refine wpOp_lift ho (evOp_nodefer hev).1 (noOut trivial) (op_val ho (want_ok s hw) (evOp_good hev (ctx_of s W o acc) hfit) fun ρ' w' E => ?_)
            obtain ⟨s1, al⟩ := hstep (Nat.le_trans h1 h2) s E
            exact r4 B ρ0 n0 ρ' _ w' h1 (Nat.le_trans h2 (Nat.le_add_right _ _)) (fun i hi => (h3 i hi).trans (al i (Nat.lt_of_lt_of_le hi h2))) s1
        · -- a call
          rename_i f args hev
          split at h
          case h_2 => cases h
          rename_i r hcall
          obtain ⟨hn, W1, hstep⟩ := call_step (o := o) W hd (evOp_args W hev) (hc _ _ _ _ _ hcall)
          obtain ⟨r1, r2, r3, r4⟩ := exSeq_sound hc hk l (k + 1) _ σ' hl' hlt h W1
          refine ⟨r1, Nat.le_trans hn r2, r3, fun B ρ0 n0 ρ a w h1 h2 h3 s => ?_⟩
          rw [hrange, wpOpsIn_cons']
          refine wpOp_lift ho (evOp_nodefer hev).1 (noOut trivial) (op_call (A := resA [] σ.M.get) ho (want_ok s hw) (evOp_good hev (ctx_of s W o _) trivial) ((hstep (Nat.le_trans h1 h2) s).mono ?_))
          rintro e w' ⟨v, rfl, ρ', rfl, s1, al⟩
          exact ⟨_, rfl, r4 B ρ0 n0 ρ' _ w' h1 (Nat.le_trans h2 hn) (fun i hi => (h3 i hi).trans (al i (Nat.lt_of_lt_of_le hi h2))) s1⟩
        · -- a yield
          rename_i y args hev
          split at h
          case h_2 => cases h
          rename_i b σ1 hr
          obtain ⟨q1, q2, q3, q4, q5, hstep⟩ := round_step hk W hr (evOp_yargs W hev) hd
          have W1 : WF { σ1 with tm := putT σ.tm o.dst (.bool b) } := WF.put W hd q1 rfl q4 (fun ρ ρ' _ => by simp) q5
          obtain ⟨r1, r2, r3, r4⟩ := exSeq_sound hc hk l (k + 1) _ σ' hl' hlt h W1
          refine ⟨r1, Nat.le_trans q1 r2, r3.trans q2, fun B ρ0 n0 ρ a w h1 h2 h3 s => ?_⟩
          rw [hrange, wpOpsIn_cons']
          refine hstep (A := resA [] σ.M.get) (Nat.le_trans h1 h2) s ho rfl (want_ok s hw) (evOp_good hev (ctx_of s W o _) trivial) fun ρ' w' s1 al => ?_
          rw [q3] at s1
          exact r4 B ρ0 n0 ρ' _ w' h1 (Nat.le_trans h2 q1) (fun i hi => (h3 i hi).trans (al i (Nat.lt_of_lt_of_le hi h2))) s1
        · cases h
    termination_by l => l.length
end Ex
end Go.Proofs.Ytlpjnhoafaamkaa
