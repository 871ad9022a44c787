/-
  AN EXECUTOR, checked once: its operations one by one are right.
-/
import Derived.Test.YtlpjnhoafaamkaaExC
import Derived.Orders
import Derived.OrdersIn
import Derived.LoopNIn
import Derived.RangeFuncCalls
import Derived.TacticsIn
import Derived.RangeFuncRecord
import Derived.RangeFuncNested
import Derived.RangeFuncLeaves
set_option linter.unusedVariables false
set_option linter.unusedSimpArgs false
namespace Go.Proofs.Ytlpjnhoafaamkaa
open Go Go.RowKit
namespace Ex

def fen : Option Nat → Fence
  | none => Fence.wide
  | some l => Fence.wide.inRound l
theorem touch_mono {B : Base} {md md' : Nat → Prop} (h : ∀ e, md e → md' e) {k : Nat} (t : B.touch md k) : B.touch md' k := by
  obtain ⟨e, h1, h2⟩ := t
  exact ⟨e, h e h1, h2⟩
theorem SimC.mono' {B : Base} {md md' : Nat → Prop} {ρ : Nm} {H : Nat → Option Ent} {w : World} (s : SimC B md ρ H w) (h : ∀ e, e < B.n → md e → md' e) : SimC B md' ρ H w := by
  have t : ∀ k, B.touch md k → B.touch md' k := fun k ⟨e, h1, h2, h3⟩ => ⟨e, h e h2 h1, h2, h3⟩
  exact ⟨s.sim, s.agree, s.liv, fun e h1 h2 => (s.own e h1 h2).imp id (t _), s.keep.mono fun k _ q => t k q⟩
theorem SimC.mono {B : Base} {md md' : Nat → Prop} {ρ : Nm} {H : Nat → Option Ent} {w : World} (s : SimC B md ρ H w) (h : ∀ e, md e → md' e) : SimC B md' ρ H w := s.mono' fun e _ => h e
theorem SimC.chain {B : Base} {md md' : Nat → Prop} {ρ ρ' : Nm} {H H' : Nat → Option Ent} {w w' : World} {n : Nat} (s : SimC B md ρ H w) (t : SimC ⟨w, ρ, n, H⟩ md' ρ' H' w') (hB : B.n ≤ n) : SimC B (fun e => md e ∨ md' e) ρ' H' w' := by
  have tch : ∀ k, (⟨w, ρ, n, H⟩ : Base).touch md' k → B.w.heap.size ≤ k ∨ B.touch (fun e => md e ∨ md' e) k := by
    rintro k ⟨e, h1, h2, h3, h4⟩
    simp only at h2 h3 h4
    by_cases he : e < B.n
    · exact .inr ⟨e, .inr h1, he, s.liv e he h3, by rw [(s.agree e he).1]; exact h4⟩
    · rcases s.own e (by omega) h3 with q | q
      · exact .inl (by rw [← h4]; exact q)
      · exact .inr (by rw [← h4]; exact touch_mono (fun _ => .inl) q)
  refine ⟨t.sim, fun i hi => (s.agree i hi).trans (t.agree i (by simp only; omega)), fun e he h => s.liv e he (t.liv e (by simp only; omega) h), ?_, ?_⟩
  · intro e he h
    by_cases hn : e < n
    · have h1 := t.liv e hn h
      rw [← (t.agree e hn).1]
      exact (s.own e he h1).imp id (touch_mono fun _ => .inl)
    · rcases t.own e (by simp only; omega) h with q | q
      · exact .inl (Nat.le_trans s.keep.size q)
      · exact tch _ q
  · refine s.keep.trans t.keep (fun k _ h => touch_mono (fun _ => .inl) h) fun k hk h => ?_
    rcases tch k h with q | q
    · omega
    · exact q
structure WFm (M : Nat → Option Ent) (n : Nat) : Prop where
  fit : ∀ e c, M e = some c → FitE n c ∧ e < n
structure WF (σ : XS) : Prop where
  fitm : ∀ e c, σ.M.get e = some c → FitE σ.n c ∧ e < σ.n
  fitt : ∀ t v, σ.tm.get t = some v → Fit σ.n v
  ds : ∀ D ∈ σ.ds, D < σ.n
def marks (ρ : Nm) (ds : List Nat) : List Deferred := ds.map fun D => { target := .collected (ρ.b D), args := #[] }
structure SimX (B : Base) (σ : XS) (ρ : Nm) (a : Act) (w : World) : Prop where
  def0 : a.defers = marks ρ σ.ds
  size : a.tmps.size = σ.L
  tm : ∀ t v, σ.tm.get t = some v → a.tmps[t]? = some (ren ρ v)
  sim : SimC B (· ∈ σ.md) ρ σ.M.get w
theorem marks_alike {ρ ρ' : Nm} {ds : List Nat} {n : Nat} (h : ∀ D ∈ ds, D < n) (ha : ∀ i, i < n → alike ρ ρ' i) : marks ρ ds = marks ρ' ds :=
  List.map_congr_left fun D hD => by rw [(ha D (h D hD)).1]
def Post (B : Base) (n : Nat) (σ' : XS) (e : Exit) (ρ : Nm) (e' : Exit) (a' : Act) (w' : World) : Prop := e' = e ∧ ∃ ρ', SimX B σ' ρ' a' w' ∧ ∀ i, i < n → alike ρ ρ' i
def fine : Exit → Prop
  | .normal | .ret | .exit _ => True
  | _ => False
def Runs (P : Program) (ro : Option Nat) (c : Code) (σ : XS) (e : Exit) (σ' : XS) : Prop :=
  WF σ → fine e ∧ WF σ' ∧ σ.n ≤ σ'.n ∧ σ'.L = σ.L ∧ ∀ B ρ a w, B.n ≤ σ.n → SimX B σ ρ a w → c.wpIn (fen (ro.map ρ.b)) 0 P (Post B σ.n σ' e ρ) a w
def CallX (P : Program) (f : FuncId) (args : List Value) (M : Tr Ent) (n : Nat) (r : CR) : Prop :=
  WFm M.get n → (∀ v ∈ args, Fit n v) → (WFm r.M.get r.n ∧ n ≤ r.n ∧ Fit r.n r.v) ∧
    ∀ ρ w, SimH ρ M.get w → Calls P f (args.map (ren ρ)).toArray w fun e w' => ∃ ρ', e = .returned (ren ρ' r.v) ∧ SimC ⟨w, ρ, n, M.get⟩ (· ∈ r.md) ρ' r.M.get w'
def CallSound (P : Program) (callF : CallF) : Prop := ∀ f args M n r, callF f args M n = some r → CallX P f args M n r
def CodeSound (P : Program) (codeF : CodeF) : Prop := ∀ ro c σ e σ', codeF ro c σ = some (e, σ') → (∀ l, ro = some l → l < σ.n) → Runs P ro c σ e σ'
/-- what is known of memory at the beginning of a call -/
theorem SimH.start {ρ : Nm} {H : Nat → Option Ent} {w : World} {n : Nat} (s : SimH ρ H w) (md : Nat → Prop) (hf : WFm H n) : SimC ⟨w, ρ, n, H⟩ md ρ H w :=
  ⟨s, fun i _ => ⟨rfl, rfl⟩, fun e _ h => h, fun e he h => by
    obtain ⟨c, hc⟩ := Option.isSome_iff_exists.1 h
    have := (hf.fit e c hc).2
    simp only at he
    omega, Keep.refl w⟩
theorem opx_val {σ : XS} {B : Base} {ρ : Nm} {a : Act} {w : World} (s : SimX B σ ρ a w) {x : Operand} {v : Value} (h : opx σ.tm.get x = some v) : a.eval x = ren ρ v := by
  cases x with
  | tmp t =>
    have := s.tm t v h
    simp [Act.eval, this]
  | const u =>
    simp only [opx] at h
    cases hg : gnd u with
    | false => rw [hg] at h; cases h
    | true => rw [hg] at h; cases h; simp [Act.eval, gnd_ren hg]
  | global g => cases h
  | func f => cases h; simp [Act.eval, fren]
theorem opx_fit {σ : XS} (W : WF σ) {x : Operand} {v : Value} (h : opx σ.tm.get x = some v) : Fit σ.n v := by
  cases x with
  | tmp t => exact W.fitt t v h
  | const u =>
    simp only [opx] at h
    cases hg : gnd u with
    | false => rw [hg] at h; cases h
    | true => rw [hg] at h; cases h; exact fun ρ ρ' _ => by rw [gnd_ren hg, gnd_ren hg]
  | global g => cases h
  | func f => cases h; exact fun ρ ρ' _ => by simp [fren]
theorem opl_fit {σ : XS} (W : WF σ) : ∀ {xs : List Operand} {vs : List Value}, opl σ.tm.get xs = some vs → ∀ v ∈ vs, Fit σ.n v
  | [], vs, h, v, hv => by cases h; cases hv
  | x :: xs, vs, h, v, hv => by
    unfold opl at h
    split at h
    · rename_i u us h1 h2
      cases h
      rcases List.mem_cons.1 hv with rfl | hv
      · exact opx_fit W h1
      · exact opl_fit W h2 v hv
    · cases h
theorem below_ok {n : Nat} {v : Value} (h : below n (idsV dep v) = true) : Fit n v := by
  unfold below at h
  split at h
  · rename_i l hl
    exact Sup.of hl fun i hi => Nat.le_of_ble_eq_true ((List.all_eq_true.1 h) i hi)
  · cases h
theorem belowE_ok {n : Nat} {c : Ent} (h : below n (idsE c) = true) : FitE n c := by
  unfold below at h
  split at h
  · rename_i l hl
    exact SupE.of hl fun i hi => Nat.le_of_ble_eq_true ((List.all_eq_true.1 h) i hi)
  · cases h
theorem wrOk_get {n hi : Nat} : ∀ {wr : Wr} {e : Nat} {c : Option Ent}, wrOk n hi wr = true → wrGet wr e = some c → e < hi ∧ ∀ c', c = some c' → FitE n c'
  | [], e, c, _, h => by cases h
  | (e0, c0) :: l, e, c, h, hg => by
    unfold wrOk at h
    simp only [Bool.and_eq_true] at h
    unfold wrGet at hg
    cases hb : Nat.beq e0 e with
    | true =>
      rw [hb] at hg
      cases hg
      have := Nat.eq_of_beq_eq_true hb
      subst this
      refine ⟨Nat.le_of_ble_eq_true h.1.1, fun c' hc => ?_⟩
      subst hc
      exact belowE_ok h.1.2
    | false => rw [hb] at hg; exact wrOk_get h.2 hg
theorem applyWr_get {M : Tr Ent} : ∀ {wr : Wr} (hi : Nat), (∀ e c, (e, c) ∈ wr → e < hi) → hi < LIM → (applyWr M wr).get = upd M.get wr
  | [], hi, _, _ => by funext e; rfl
  | (e0, c0) :: l, hi, h, hl => by
    funext e
    have ih := applyWr_get (M := M) (wr := l) hi (fun e c hm => h e c (List.mem_cons_of_mem _ hm)) hl
    show ((applyWr M l).set e0 c0).get e = _
    rw [Tr.get_set _ _ _ (Nat.lt_trans (h e0 c0 (by simp)) hl), ih]
    by_cases he : e = e0
    · subst he
      rw [if_pos rfl]
      unfold upd
      rw [wrGet_self]
    · rw [if_neg he]
      have : Nat.beq e0 e = false := by
        cases hb : Nat.beq e0 e with
        | false => rfl
        | true => exact absurd (Nat.eq_of_beq_eq_true hb).symm he
      have e1 : wrGet ((e0, c0) :: l) e = wrGet l e := by
        show (bif Nat.beq e0 e then some c0 else wrGet l e) = _
        rw [this]
        rfl
      unfold upd
      rw [e1]
theorem wrOk_mem {n hi : Nat} : ∀ {wr : Wr}, wrOk n hi wr = true → ∀ e c, (e, c) ∈ wr → e < hi
  | [], _, e, c, h => by cases h
  | (e0, c0) :: l, h, e, c, hm => by
    unfold wrOk at h
    simp only [Bool.and_eq_true] at h
    rcases List.mem_cons.1 hm with hm | hm
    · cases hm; exact Nat.le_of_ble_eq_true h.1.1
    · exact wrOk_mem h.2 e c hm
theorem wrGet_mem : ∀ {wr : Wr} {e : Nat} {c : Option Ent}, wrGet wr e = some c → (e, c) ∈ wr
  | [], e, c, h => by cases h
  | (e0, c0) :: l, e, c, h => by
    unfold wrGet at h
    cases hb : Nat.beq e0 e with
    | true => rw [hb] at h; cases h; rw [Nat.eq_of_beq_eq_true hb]; simp
    | false => rw [hb] at h; exact List.mem_cons_of_mem _ (wrGet_mem h)
theorem putT_get {tm : Tr Value} {d : Option Tmp} {L : Nat} (h : dstOk L d = true) (v : Value) (t : Nat) : (putT tm d v).get t = if d = some t then some v else tm.get t := by
  cases d with
  | none => simp [putT]
  | some d =>
    unfold dstOk at h
    simp only [Bool.and_eq_true] at h
    unfold putT
    simp only
    rw [Tr.get_set _ _ _ (Nat.le_of_ble_eq_true h.2)]
    by_cases e : t = d
    · simp [e]
    · rw [if_neg e, if_neg (by simp; exact fun q => e q.symm)]
theorem dstOk_lt {L : Nat} {d : Option Tmp} (h : dstOk L d = true) : ∀ t, d = some t → t < L := by
  intro t ht
  subst ht
  unfold dstOk at h
  simp only [Bool.and_eq_true] at h
  exact Nat.le_of_ble_eq_true h.1
theorem put_tm {a : Act} {L : Nat} {tm : Tr Value} {ρ' : Nm} {d : Option Tmp} {v : Value} (hd : dstOk L d = true) (hs : a.tmps.size = L) (h : ∀ t v, tm.get t = some v → a.tmps[t]? = some (ren ρ' v)) : (a.put d (ren ρ' v)).tmps.size = L ∧ (∀ t u, (putT tm d v).get t = some u → (a.put d (ren ρ' v)).tmps[t]? = some (ren ρ' u)) ∧ (a.put d (ren ρ' v)).defers = a.defers := by
  refine ⟨by cases d <;> simpa [Act.put] using hs, fun t u hu => ?_, by cases d <;> rfl⟩
  rw [putT_get hd] at hu
  cases d with
  | none => simp at hu; simpa [Act.put] using h t u hu
  | some d =>
    split at hu
    · rename_i e
      simp only [Option.some.injEq] at e hu
      subst e hu
      have := dstOk_lt hd d rfl
      simp [Act.put, hs, this]
    · rename_i e
      have : d ≠ t := fun q => e (by rw [q])
      simp [Act.put, Array.getElem?_setIfInBounds_ne this, h t u hu]
/-- the state behind an operation -/
theorem SimX.put {B : Base} {σ σ' : XS} {ρ ρ' : Nm} {a : Act} {w w' : World} {d : Option Tmp} {v : Value} (s : SimX B σ ρ a w) (W : WF σ) (hd : dstOk σ.L d = true) (ha : ∀ i, i < σ.n → alike ρ ρ' i) (h1 : σ'.tm = putT σ.tm d v) (h2 : σ'.L = σ.L) (h3 : σ'.ds = σ.ds) (h4 : SimC B (· ∈ σ'.md) ρ' σ'.M.get w') : SimX B σ' ρ' (a.put d (ren ρ' v)) w' := by
  have htm : ∀ t v, σ.tm.get t = some v → a.tmps[t]? = some (ren ρ' v) := fun t v hv => by rw [← W.fitt t v hv ρ ρ' ha]; exact s.tm t v hv
  obtain ⟨p1, p2, p3⟩ := put_tm (v := v) hd s.size htm
  refine ⟨by rw [p3, s.def0, h3]; exact marks_alike W.ds ha, by rw [p1, h2], by rw [h1]; exact p2, h4⟩
theorem WF.put {σ σ' : XS} {d : Option Tmp} {v : Value} (W : WF σ) (hd : dstOk σ.L d = true) (hn : σ.n ≤ σ'.n) (h1 : σ'.tm = putT σ.tm d v) (h3 : σ'.ds = σ.ds) (hv : Fit σ'.n v) (hm : ∀ e c, σ'.M.get e = some c → FitE σ'.n c ∧ e < σ'.n) : WF σ' := by
  refine ⟨hm, fun t u hu => ?_, fun D hD => by rw [h3] at hD; exact Nat.lt_of_lt_of_le (W.ds D hD) hn⟩
  rw [h1, putT_get hd] at hu
  split at hu
  · cases hu; exact hv
  · exact (W.fitt t u hu).mono fun i hi => Nat.lt_of_lt_of_le hi hn
theorem pre_of {σ : XS} {B : Base} {ρ : Nm} {a : Act} {w : World} (s : SimX B σ ρ a w) (W : WF σ) (acc : List Nat) : Pre ρ σ.M.get σ.n acc w :=
  ⟨⟨fun e c hc => s.sim.sim.holds e c (resA_some hc).2, fun e e' c c' hc hc' hne => s.sim.sim.inj e e' c c' (resA_some hc).2 (resA_some hc').2 hne⟩, W.fitm⟩
theorem ctx_of {σ : XS} {B : Base} {ρ : Nm} {a : Act} {w : World} (s : SimX B σ ρ a w) (W : WF σ) (o : Oper) (acc : List Nat) : Ctx ρ σ.tm.get a.eval σ.M.get σ.n o acc w :=
  ⟨pre_of s W acc, fun x _ v h => opx_val s h, fun x v h => opx_fit W h⟩
theorem want_ok {ops : Array Oper} {o : Oper} {σ : XS} {B : Base} {ρ : Nm} {a : Act} {w : World} {b : Bool} (s : SimX B σ ρ a w) (h : want ops o σ.tm.get = some b) : Region.wanted o (yielded ops a.tmps) = b := by
  unfold want at h
  unfold Region.wanted
  cases hg : o.guard with
  | none => rw [hg] at h; cases h; rfl
  | some q =>
    obtain ⟨j, c⟩ := q
    rw [hg] at h
    unfold yielded
    cases hd : (ops[j]?).bind (·.dst) with
    | none => simp only [hd] at h; cases h; simp [hd]
    | some d =>
      simp only [hd] at h
      simp only [hd, Option.bind_some]
      split at h
      · rename_i u hu
        cases h
        have := s.tm d _ hu
        simp [this]
      · rename_i u hne hu
        cases h
        have := s.tm d _ hu
        simp only [this]
        cases u with
        | bool b => exact absurd rfl (hne b)
        | slice p l c => cases p <;> simp
        | _ => simp
      · cases h
theorem wpOp_lift {ro : Option Nat} {P : Program} {ops : Array Oper} {i : Nat} {o : Oper} {K : Act → World → Prop} {R : Exit → Act → World → Prop} {a : Act} {w : World} (ho : ops[i]? = some o) (hd : ∀ c, o.op ≠ .defer c) (hq : ¬ LetsOut R) (h : wpOp P ops R i K a w) : wpOpIn (fen ro) 0 P ops R i K a w := by
  have up : ∀ {r : Result Next}, o.upon P a K R r → o.uponIn (fen ro) 0 P a K R r := by
    intro r h
    cases ro with
    | none =>
      match r, h with
      | .ok (.value _) _, h => exact h
      | .ok .skip _, h => exact h
      | .ok (.defer _) _, h => exact h
      | .ok (.enter f args) w', h => exact ⟨fun e => (by cases e), callsIn_wide.2 h⟩
      | .ok (.row row args) w', h => exact ⟨fun e => (by cases e), fun c cs _ => (match h c cs with | ⟨v, w2, r, s⟩ => ⟨v, w2, r, stepsIn_wide.2 s⟩)⟩
      | .halt (.panic _) _, h => exact h
    | some l =>
      match r, h with
      | .ok (.value _) _, h => exact h
      | .ok .skip _, h => exact h
      | .ok (.defer _) _, h => exact h
      | .ok (.enter f args) w', h => exact ⟨fun e => (by cases e), CallsIn.inRound l (callsIn_wide.2 h)⟩
      | .ok (.row row args) w', h => exact ⟨fun e => (by cases e), fun c cs _ => (match h c cs with | ⟨v, w2, r, s⟩ => ⟨v, w2, r, stepsIn_wide.2 s⟩)⟩
      | .halt (.panic _) _, h => exact h
  unfold wpOp at h
  unfold wpOpIn
  simp only [ho] at h ⊢
  split
  · rename_i hw
    rw [if_pos hw] at h
    rcases h with h | h
    · refine ⟨fun _ _ => by cases ro <;> trivial, ?_⟩
      have hsem : Oper.semAt (fen ro).round a.eval o = execOp a.eval o := by
        cases ro with
        | none => rfl
        | some l' => exact Oper.semAt_some l' a.eval o hd
      rw [hsem]
      exact up h
    · exact absurd h.2 hq
  · rename_i hw
    rw [if_neg hw] at h
    exact ⟨fun _ _ => by cases ro <;> trivial, h⟩
theorem wpOpsIn_cons' {P : Program} {ops : Array Oper} {F : Fence} {n : Nat} {R : Exit → Act → World → Prop} (i : Nat) (rest : List Nat) (a : Act) (w : World) : wpOpsIn F n P ops R (i :: rest) a w = wpOpIn F n P ops R i (wpOpsIn F n P ops R rest) a w := by
  cases h : ops[i]? <;> simp [wpOpsIn, wpOpIn, h]
/-- an operation that is not wanted -/
theorem op_unwanted {P : Program} {ops : Array Oper} {i : Nat} {o : Oper} {K : Act → World → Prop} {Q : Exit → Act → World → Prop} {a : Act} {w : World} (ho : ops[i]? = some o) (hw : Region.wanted o (yielded ops a.tmps) = false) (h : K (a.put o.dst undef) w) : wpOp P ops Q i K a w := by
  unfold wpOp
  simp only [ho, hw, Bool.false_eq_true, if_false]
  exact h
theorem op_val {P : Program} {ops : Array Oper} {i : Nat} {o : Oper} {K : Act → World → Prop} {Q : Exit → Act → World → Prop} {a : Act} {w : World} {ρ : Nm} {n : Nat} {A : Nat → Option Ent} {v : Value} {wr : Wr} {acc : List Nat} {new : Nat} (ho : ops[i]? = some o) (hw : Region.wanted o (yielded ops a.tmps) = true) (hg : Good P o a.eval ρ n A w (.val v wr acc new))
    (h : ∀ ρ' w', Eff ρ ρ' n (n + new) A wr w w' → K (a.put o.dst (ren ρ' v)) w') : wpOp P ops Q i K a w := by
  unfold wpOp
  simp only [ho, hw, if_true]
  obtain ⟨ρ', w', nx, h1, h2, E⟩ := hg
  left
  unfold Oper.wp
  rw [h1]
  rcases h2 with rfl | ⟨rfl, rfl⟩
  · exact h ρ' w' E
  · have := h ρ' w' E
    rw [show ren ρ' undef = undef from by simp [undef]] at this
    exact this
theorem op_call {P : Program} {ops : Array Oper} {i : Nat} {o : Oper} {K : Act → World → Prop} {Q : Exit → Act → World → Prop} {a : Act} {w : World} {ρ : Nm} {n : Nat} {A : Nat → Option Ent} {f : FuncId} {args : List Value} (ho : ops[i]? = some o) (hw : Region.wanted o (yielded ops a.tmps) = true) (hg : Good P o a.eval ρ n A w (.call f args))
    (h : Calls P f (args.map (ren ρ)).toArray w fun e w' => ∃ v, e = .returned v ∧ K (a.put o.dst v) w') : wpOp P ops Q i K a w := by
  unfold wpOp
  simp only [ho, hw, if_true]
  left
  unfold Oper.wp
  rw [show (execOp a.eval o).run P w = _ from hg]
  refine h.mono ?_
  rintro e w' ⟨v, rfl, hk⟩
  exact hk
end Ex
end Go.Proofs.Ytlpjnhoafaamkaa
