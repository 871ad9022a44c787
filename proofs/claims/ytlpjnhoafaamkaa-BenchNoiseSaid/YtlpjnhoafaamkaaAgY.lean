/-
  A RANGE OVER A FUNCTION BY EVALUATION: the iterator is walked where it stands, and the body at each of its yields.
-/
import Derived.Test.YtlpjnhoafaamkaaAgT
set_option linter.unusedVariables false
set_option linter.unusedSimpArgs false
namespace Go.Proofs.Ytlpjnhoafaamkaa
open Go Go.RowKit
namespace Ag

/-- the operations from k on, in the order of the text -/
def AwS (ro : Option Nat) (P : Program) (w0 : World) (ops : Array Oper) (k : Nat) (σ : St) (Q : Exit → St → Prop) : Prop :=
  ∀ a w, Sim w0 σ a w → wpOpsIn (fen ro) 0 P ops (lift w0 Q) (List.range' k (ops.size - k)) a w
def noDfr (ops : Array Oper) : Bool := ops.all fun o => match o.op with | .select .. | .defer .. => false | _ => true
theorem noDfr_spec {ops : Array Oper} (h : noDfr ops = true) (i : Nat) (o : Oper) (ho : ops[i]? = some o) : (∀ c, o.op ≠ .defer c) ∧ ∀ cs b, o.op ≠ .select cs b := by
  obtain ⟨hi, rfl⟩ := Array.getElem?_eq_some_iff.1 ho
  have := (Array.all_eq_true.1 h) i hi
  exact ⟨fun c e => (by rw [e] at this; cases this), fun cs b e => (by rw [e] at this; cases this)⟩
section
variable {ro : Option Nat} {P : Program} {w0 : World} {σ : St} {Q : Exit → St → Prop} {ops : Array Oper}
theorem aw_steps {id : Nat} (h : AwS ro P w0 ops 0 σ Q) : Aw ro P w0 (.region id ops false) σ Q := fun a w s => wpIn_region (by
  have := h a w s
  rw [Nat.sub_zero, ← List.range_eq_range'] at this
  exact this)
theorem aws_end {k : Nat} (hk : ops.size = k) (h : Q .normal σ) : AwS ro P w0 ops k σ Q := fun a w s => by
  rw [hk, Nat.sub_self]
  exact ⟨trivial, σ, s, h⟩
def put (tm : List (Option Value)) (d : Option Tmp) (v : Value) : List (Option Value) :=
  match d with
  | some d => tm.set d (some v)
  | none => tm
def putE (es : List Cel) (k : Kind) (c : Option Cel) : List Cel :=
  match k.mod, c with
  | some e, some c => es.set e c
  | none, some c => es ++ [c]
  | _, none => es
theorem sim_put {a : Act} {w : World} (s : Sim w0 σ a w) (d : Option Tmp) (v : Value) (hd : ∀ t, d = some t → t < σ.tm.length) : (a.put d v).tmps.size = (put σ.tm d v).length ∧ (∀ (t : Nat) (u : Value), (put σ.tm d v)[t]? = some (some u) → (a.put d v).tmps[t]? = some u) ∧ (a.put d v).defers = marks σ.ds := by
  cases d with
  | none => exact ⟨s.size, s.tm, s.def0⟩
  | some d =>
    have hlt := hd d rfl
    refine ⟨by simp [put, Act.put, s.size], fun t u hu => ?_, s.def0⟩
    simp only [put, List.getElem?_set] at hu
    simp only [Act.put]
    by_cases h : d = t
    · subst h
      rw [if_pos rfl, if_pos hlt] at hu
      simp only [Option.some.injEq] at hu
      subst hu
      simp [s.size, hlt]
    · rw [if_neg h] at hu
      rw [Array.getElem?_setIfInBounds_ne h]
      exact s.tm t u hu
/-- one operation -/
theorem aws_op {k : Nat} {o : Oper} (an : Ann) (σ' : Lt → St) (ps : Lt → List Prop) (hn : noDfr ops = true) (ho : ops[k]? = some o) (hd : ∀ t, o.dst = some t → t < σ.tm.length)
    (he : ∀ l, (evalG P ops o an (fun t => (σ.tm[t]?).join) (σ.es[·]?) l).map (fun x => ((⟨put σ.tm o.dst x.v, putE σ.es an.kind x.ent, σ.ds⟩ : St), x.ps)) = some (σ' l, ps l)) (hp : ∀ l, AllP (ps l)) (h : ∀ l, AwS ro P w0 ops (k + 1) (σ' l) Q) : AwS ro P w0 ops k σ Q := by
  intro a w s
  have hk : k < ops.size := (Array.getElem?_eq_some_iff.1 ho).1
  rw [show ops.size - k = (ops.size - (k + 1)) + 1 by omega, List.range'_succ, wpOpsIn_cons']
  have hex : ∀ l, ∃ out, evalG P ops o an (fun t => (σ.tm[t]?).join) (σ.es[·]?) l = some out ∧ AllP out.ps ∧ σ' l = ⟨put σ.tm o.dst out.v, putE σ.es an.kind out.ent, σ.ds⟩ := fun l => by
    obtain ⟨x, hx, hxe⟩ := Option.map_eq_some_iff.1 (he l)
    simp only [Prod.mk.injEq] at hxe
    exact ⟨x, hx, by rw [hxe.2]; exact hp l, hxe.1.symm⟩
  have hgo : wpOp P ops (lift w0 Q) k (fun a' w' => wpOpsIn (fen ro) 0 P ops (lift w0 Q) (List.range' (k + 1) (ops.size - (k + 1))) a' w') a w := by
    refine evalG_sound (an := an) ho (fun l => ?_) (noDfr_spec hn k o ho).2 (fun t v _ hv => s.join hv) (fun e c _ hc => s.holds e c hc) ?_
    · obtain ⟨out, h1, h2, _⟩ := hex l
      exact ⟨out, h1, h2⟩
    · intro l out w' hev heff
      obtain ⟨out', h1, _, h3⟩ := hex l
      rw [hev] at h1
      cases h1
      refine h l _ w' ?_
      rw [h3]
      obtain ⟨p1, p2, p3⟩ := sim_put s o.dst out.v hd
      -- the entries behind it
      have hx : ∀ x cx, (putE σ.es an.kind out.ent)[x]? = some cx → (σ.es[x]? = some cx ∧ cx.holds w') ∨ (cx.holds w' ∧ cx.mine = true ∧ (∀ k, cx.key = some k → w.heap.size ≤ k ∨ ∃ c0, σ.es[x]? = some c0 ∧ c0.mine = true ∧ c0.key = some k) ∧ ((an.kind.mod = some x) ∨ (an.kind.mod = none ∧ x = σ.es.length))) := by
        intro x cx hcx
        unfold effect at heff
        unfold putE at hcx
        split at heff
        · rename_i _ e hm
          obtain ⟨c, c', q1, q2, q3, q4, q5, q6, q7⟩ := heff
          rw [hm, q2] at hcx
          simp only [List.getElem?_set] at hcx
          split at hcx
          · rename_i hex
            subst hex
            split at hcx
            · cases hcx
              exact .inr ⟨q5, q4, fun k hk => (q6 k hk).elim (fun q => .inr ⟨c, q1, q3, q⟩) .inl, .inl hm⟩
            · cases hcx
          · rename_i hex
            refine .inl ⟨hcx, Cel.kept (s.holds x cx hcx) fun k hk => q7.block k (Cel.lt (s.holds x cx hcx) hk) fun z => ?_⟩
            exact s.apart e x c cx q1 hcx hex q3 k z.symm hk
        · rename_i hm hmk
          obtain ⟨c', q2, q3, q4, q5, q6⟩ := heff
          rw [hm, q2] at hcx
          simp only at hcx
          by_cases hlt : x < σ.es.length
          · rw [List.getElem?_append_left hlt] at hcx
            exact .inl ⟨hcx, Cel.kept (s.holds x cx hcx) fun k hk => q6.block k (Cel.lt (s.holds x cx hcx) hk) (by simp)⟩
          · rw [List.getElem?_append_right (by omega)] at hcx
            have hx0 : x - σ.es.length = 0 := by
              have := (List.getElem?_eq_some_iff.1 hcx).1
              simp at this; omega
            rw [hx0] at hcx
            cases hcx
            exact .inr ⟨q4, q3, fun k hk => .inl (q5 k hk), .inr ⟨hm, by omega⟩⟩
        · rename_i hm hmk
          have hcx' : σ.es[x]? = some cx := by
            have : ∀ y, (evalG P ops o an (fun t => (σ.tm[t]?).join) (σ.es[·]?) l = some y) → an.kind.mod = none → an.kind.mk = false → y.ent = none := by
              intro y hy hmo hmk'
              unfold evalG at hy
              have hop : ∀ y, evalOp P o an (fun t => (σ.tm[t]?).join) (σ.es[·]?) l = some y → y.ent = none := by
                intro y hy
                unfold evalOp at hy
                split at hy
                · cases hkk : an.kind <;> simp only [hkk] at hy <;> simp only [hkk, Kind.mod, Kind.mk] at hmo hmk' <;>
                    first
                      | (cases hmo; done)
                      | (cases hmk'; done)
                      | skip
                  all_goals
                    repeat' split at hy
                    all_goals first
                      | (cases hy; done)
                      | (cases hy; first | rfl | (unfold over; split <;> rfl))
                · cases hy
              split at hy
              · exact hop y hy
              · split at hy
                · split at hy
                  · obtain ⟨z, hz, rfl⟩ := Option.map_eq_some_iff.1 hy
                    exact hop z hz
                  · split at hy
                    · cases hy; rfl
                    · cases hy
                · split at hy
                  · cases hy; rfl
                  · cases hy
                · cases hy
            rw [this out hev hm hmk] at hcx
            cases hq : an.kind.mod <;> simp only [hq] at hcx <;> exact hcx
          exact .inl ⟨hcx', Cel.kept (s.holds x cx hcx') fun k hk => heff.block k (Cel.lt (s.holds x cx hcx') hk) (by simp)⟩
      refine ⟨p3, p1, p2, ?_, ?_, ?_, ?_⟩
      · intro e c hc
        rcases hx e c hc with h | h
        · exact h.2
        · exact h.1
      · intro e e' c c' hc hc' hne hmi k hk hk'
        rcases hx e c hc with ⟨a2, a3⟩ | ⟨a2, a3, a4, a5⟩ <;> rcases hx e' c' hc' with ⟨b2, b3⟩ | ⟨b2, b3, b4, b5⟩
        · exact s.apart e e' c c' a2 b2 hne hmi k hk hk'
        · rcases b4 k hk' with q | ⟨c0, q1, q2, q3⟩
          · have := Cel.lt (s.holds e c a2) hk; omega
          · exact s.apart e e' c c0 a2 q1 hne hmi k hk q3
        · rcases a4 k hk with q | ⟨c0, q1, q2, q3⟩
          · have := Cel.lt (s.holds e' c' b2) hk'; omega
          · exact s.apart e e' c0 c' q1 b2 hne q2 k q3 hk'
        · rcases a5 with q | ⟨q, q'⟩ <;> rcases b5 with z | ⟨z, z'⟩
          · rw [q] at z; cases z; exact hne rfl
          · rw [q] at z; cases z
          · rw [q] at z; cases z
          · omega
      · intro e c hc hm k hk
        rcases hx e c hc with ⟨a2, a3⟩ | ⟨a2, a3, a4, a5⟩
        · exact s.own e c a2 hm k hk
        · rcases a4 k hk with q | ⟨c0, q1, q2, q3⟩
          · have := s.bel.size; omega
          · exact s.own e c0 q1 q2 k q3
      · unfold effect at heff
        split at heff
        · obtain ⟨c, c', h1, h2, h3, h4, h5, h6, h7⟩ := heff
          exact s.bel.grown h7 s.bel.size fun k hk => s.own _ c h1 h3 k hk
        · obtain ⟨c', h2, h3, h4, h5, h6⟩ := heff
          exact s.bel.grown h6 s.bel.size fun k hk => by cases hk
        · exact s.bel.grown heff s.bel.size fun k hk => by cases hk
  cases ro with
  | some l => exact wpOpIn_of lift_out (fun i o ho => (noDfr_spec hn i o ho).1) hgo
  | none =>
    unfold wpOp at hgo
    unfold wpOpIn
    simp only [ho] at hgo ⊢
    split
    · rename_i hw
      rw [if_pos hw] at hgo
      rcases hgo with hgo | hgo
      · refine ⟨fun _ _ => trivial, ?_⟩
        show o.uponIn Fence.wide 0 P a _ _ ((execOp a.eval o).run P w)
        have := hgo
        unfold Oper.wp at this
        revert this
        generalize (execOp a.eval o).run P w = r
        intro this
        match r, this with
        | .ok (.value _) _, h => exact h
        | .ok .skip _, h => exact h
        | .ok (.defer _) _, h => exact h
        | .ok (.enter f args) w', h => exact ⟨fun e => (by cases e), callsIn_wide.2 h⟩
        | .ok (.row row args) w', h => exact ⟨fun e => (by cases e), fun c cs _ => (match h c cs with | ⟨v, w2, r, s⟩ => ⟨v, w2, r, stepsIn_wide.2 s⟩)⟩
        | .halt (.panic _) _, h => exact h
      · exact absurd hgo.2 lift_out
    · rename_i hw
      rw [if_neg hw] at hgo
      exact ⟨fun _ _ => trivial, hgo⟩
end
end Ag
end Go.Proofs.Ytlpjnhoafaamkaa
