/-
  CODE BY EVALUATION: a function's text is walked over what is known of its slots and blocks.
-/
import Derived.Test.YtlpjnhoafaamkaaAgR
import Derived.RangeFuncCalls
import Derived.TacticsIn
import Derived.RangeFuncRecord
import Derived.RangeFuncNested
set_option linter.unusedVariables false
set_option linter.unusedSimpArgs false
namespace Go.Proofs.Ytlpjnhoafaamkaa
open Go Go.RowKit
namespace Ag

section
variable (P : Program) (ops : Array Oper) (anns : List Ann) (σ : St)
def seqO : List (Option Out) → Option (List Out)
  | [] => some []
  | some x :: l => (seqO l).map (x :: ·)
  | none :: _ => none
/-- the blocks behind a region: the old ones, then the new ones -/
def finE (g : Nat → Option Out) : List Cel :=
  ((List.range σ.es.length).filterMap (entD ops anns σ (fun _ => true) g)) ++ (List.range ops.size).filterMap fun i => if (anns[i]?).any (·.kind.mk) then entD ops anns σ (fun _ => true) g (σ.es.length + i) else none
def evalR (L : Nat → Lt) : Option (St × List Prop) :=
  match seqO (outs P ops anns σ L ops.size) with
  | some os => some (⟨(List.range σ.tm.length).map (tmD ops σ (fun _ => true) (os[·]?)), finE ops anns σ (os[·]?), σ.ds⟩, os.flatMap (·.ps))
  | none => none
end
section
variable {P : Program} {ops : Array Oper} {anns : List Ann} {σ : St}
theorem seqO_get : ∀ {l : List (Option Out)} {os : List Out}, seqO l = some os → os.length = l.length ∧ ∀ j, j < l.length → ∃ o, l[j]? = some (some o) ∧ os[j]? = some o
  | [], os, h => by simp [seqO] at h; subst h; exact ⟨rfl, fun j hj => by simp at hj⟩
  | none :: l, os, h => by simp [seqO] at h
  | some x :: l, os, h => by
    simp only [seqO, Option.map_eq_some_iff] at h
    obtain ⟨os', h1, rfl⟩ := h
    obtain ⟨h2, h3⟩ := seqO_get h1
    refine ⟨by simp [h2], fun j hj => ?_⟩
    cases j with
    | zero => exact ⟨x, rfl, rfl⟩
    | succ j => exact h3 j (by simpa using hj)
theorem allP_app : ∀ {a b : List Prop}, AllP (a ++ b) ↔ AllP a ∧ AllP b
  | [], b => by simp [AllP]
  | p :: a, b => by simp [AllP, allP_app (a := a), and_assoc]
theorem allP_flat : ∀ {os : List Out} {j : Nat} {o : Out}, AllP (os.flatMap (·.ps)) → os[j]? = some o → AllP o.ps
  | [], j, o, _, h => by simp at h
  | x :: os, j, o, hp, h => by
    rw [List.flatMap_cons, allP_app] at hp
    cases j with
    | zero => simp at h; subst h; exact hp.1
    | succ j => exact allP_flat hp.2 (by simpa using h)
/-- what is known, but for blocks that one does not want to know any more, and slots -/
def sameOr : Option Value → Option Value → Prop
  | _, none => True
  | a, some v => a = some v
theorem filterMap_get {α β : Type} (f : α → Option β) : ∀ (l : List α) (k : Nat) (b : β), (l.filterMap f)[k]? = some b → ∃ (i : Nat) (a : α), l[i]? = some a ∧ f a = some b
  | [], k, b, h => by simp at h
  | x :: l, k, b, h => by
    rw [List.filterMap_cons] at h
    cases hf : f x with
    | none =>
      rw [hf] at h
      obtain ⟨i, a, h1, h2⟩ := filterMap_get f l k b h
      exact ⟨i + 1, a, h1, h2⟩
    | some c =>
      rw [hf] at h
      cases k with
      | zero => simp at h; subst h; exact ⟨0, x, rfl, hf⟩
      | succ k =>
        obtain ⟨i, a, h1, h2⟩ := filterMap_get f l k b (by simpa using h)
        exact ⟨i + 1, a, h1, h2⟩
theorem filterMap_pair {α β : Type} (f : α → Option β) : ∀ (l : List α) (k k' : Nat) (b b' : β), k ≠ k' → (l.filterMap f)[k]? = some b → (l.filterMap f)[k']? = some b' → ∃ (i i' : Nat) (a a' : α), i ≠ i' ∧ l[i]? = some a ∧ l[i']? = some a' ∧ f a = some b ∧ f a' = some b'
  | [], k, k', b, b', _, h, _ => by simp at h
  | x :: l, k, k', b, b', hne, h, h' => by
    rw [List.filterMap_cons] at h h'
    cases hf : f x with
    | none =>
      rw [hf] at h h'
      obtain ⟨i, i', a, a', h1, h2, h3, h4⟩ := filterMap_pair f l k k' b b' hne h h'
      exact ⟨i + 1, i' + 1, a, a', by omega, h2, h3, h4⟩
    | some c =>
      rw [hf] at h h'
      cases k with
      | zero =>
        cases k' with
        | zero => exact absurd rfl hne
        | succ k' =>
          simp at h
          subst h
          obtain ⟨i, a, h1, h2⟩ := filterMap_get f l k' b' (by simpa using h')
          exact ⟨0, i + 1, x, a, by omega, rfl, h1, hf, h2⟩
      | succ k =>
        cases k' with
        | zero =>
          simp at h'
          subst h'
          obtain ⟨i, a, h1, h2⟩ := filterMap_get f l k b (by simpa using h)
          exact ⟨i + 1, 0, a, x, by omega, h1, rfl, h2, hf⟩
        | succ k' =>
          obtain ⟨i, i', a, a', h1, h2, h3, h4⟩ := filterMap_pair f l k k' b b' (by omega) (by simpa using h) (by simpa using h')
          exact ⟨i + 1, i' + 1, a, a', by omega, h2, h3, h4⟩
/-- the numbers of the blocks behind a region -/
def finI (ops : Array Oper) (anns : List Ann) (m : Nat) : List Nat := List.range m ++ ((List.range ops.size).filter fun i => (anns[i]?).any (·.kind.mk)).map (m + ·)
theorem filterMap_if {α β : Type} (p : α → Bool) (f : α → Option β) : ∀ l : List α, (l.filterMap fun i => if p i then f i else none) = (l.filter p).filterMap f
  | [] => rfl
  | x :: l => by
    by_cases h : p x <;> simp [List.filterMap_cons, List.filter_cons, h, filterMap_if p f l]
theorem finE_eq (g : Nat → Option Out) : finE ops anns σ g = (finI ops anns σ.es.length).filterMap (entD ops anns σ (fun _ => true) g) := by
  unfold finE finI
  rw [List.filterMap_append, filterMap_if, List.filterMap_map]
  rfl
theorem finI_nodup (m : Nat) : (finI ops anns m).Nodup := by
  unfold finI
  rw [List.nodup_append]
  refine ⟨List.nodup_range, ?_, ?_⟩
  · rw [List.nodup_iff_pairwise_ne, List.pairwise_map]
    exact ((List.nodup_range (n := ops.size)).filter _).imp fun h => by omega
  · intro a ha b hb e
    simp at ha hb
    obtain ⟨i, _, rfl⟩ := hb
    omega
theorem Inv.fin {w0 w : World} {a : Act} {D : Nat → Bool} {L : Nat → Lt} {os : List Out} (hsz : os.length = ops.size) (hall : ∀ i, i < ops.size → D i = true) (hos : ∀ j, j < ops.size → O P ops anns σ L j = os[j]?)
    (I : Inv P ops anns σ w0 D L a w) : Sim w0 ⟨(List.range σ.tm.length).map (tmD ops σ (fun _ => true) (os[·]?)), finE ops anns σ (os[·]?), σ.ds⟩ a w := by
  have eT : ∀ t, tmD ops σ (fun _ => true) (os[·]?) t = tmD ops σ D (O P ops anns σ L) t := by
    intro t
    unfold tmD
    split
    · rename_i j hj
      have hlt : j < ops.size := by simpa using List.mem_of_find?_eq_some hj
      rw [hall j hlt, hos j hlt]
    · rfl
  have eE : ∀ e, entD ops anns σ (fun _ => true) (os[·]?) e = entD ops anns σ D (O P ops anns σ L) e := by
    intro e
    unfold entD
    rw [lastW_congr (D := fun _ => true) (D' := D) fun j hj _ => (hall j hj).symm]
    split
    · rename_i j hj
      have hlt : j < ops.size := by simpa using List.mem_of_find?_eq_some hj
      rw [hos j hlt]
    · rfl
  rw [finE_eq]
  refine ⟨I.def0, by simpa using I.size, ?_, ?_, ?_, ?_, I.bel⟩
  · intro t v hv
    simp only [List.getElem?_map] at hv
    by_cases ht : t < σ.tm.length
    · rw [List.getElem?_range ht] at hv
      simp only [Option.map_some, Option.some.injEq] at hv
      rw [eT] at hv
      exact I.tm t v hv
    · rw [List.getElem?_eq_none (by simpa using ht)] at hv
      cases hv
  · intro e c hc
    obtain ⟨i, x, h1, h2⟩ := filterMap_get _ _ _ _ hc
    rw [eE] at h2
    exact I.holds _ c h2
  · intro e e' c c' hc hc' hne hmi
    obtain ⟨i, i', x, x', h1, h2, h3, h4, h5⟩ := filterMap_pair _ _ _ _ _ _ hne hc hc'
    rw [eE] at h4 h5
    refine I.apart _ _ c c' h4 h5 (fun hx => ?_) hmi
    subst hx
    exact h1 ((List.getElem?_inj (List.getElem?_eq_some_iff.1 h2).1 (finI_nodup _)).1 (h2.trans h3.symm))
  · intro e c hc ho
    obtain ⟨i, x, h1, h2⟩ := filterMap_get _ _ _ _ hc
    rw [eE] at h2
    exact I.own _ c h2 ho
end
/-- the fence of a frame; of a round of the loop l -/
def fen : Option Nat → Fence
  | none => Fence.wide
  | some l => Fence.wide.inRound l
def lift (w0 : World) (Q : Exit → St → Prop) (e : Exit) (a : Act) (w : World) : Prop := (match e with | .outgrown => False | _ => True) ∧ ∃ σ, Sim w0 σ a w ∧ Q e σ
theorem lift_out {w0 : World} {Q : Exit → St → Prop} : ¬ LetsOut (lift w0 Q) := fun ⟨_, _, h, _⟩ => h
/-- a piece of code, walked over what is known -/
def Aw (ro : Option Nat) (P : Program) (w0 : World) (c : Code) (σ : St) (Q : Exit → St → Prop) : Prop :=
  ∀ a w, Sim w0 σ a w → c.wpIn (fen ro) 0 P (lift w0 Q) a w
def thn (N : St → Prop) (Q : Exit → St → Prop) : Exit → St → Prop
  | .normal, σ => N σ
  | e, σ => Q e σ
section
variable {ro : Option Nat} {P : Program} {w0 : World} {σ : St} {Q : Exit → St → Prop}
theorem aw_seq {x y : Code} (h : Aw ro P w0 x σ (thn (fun σ' => Aw ro P w0 y σ' Q) Q)) : Aw ro P w0 (.seq x y) σ Q := by
  intro a w s
  refine wpIn_seq (wpIn_mono (h a w s) ?_)
  rintro e a' w' ⟨ho, σ', s', hq⟩
  cases e with
  | normal => exact hq a' w' s'
  | _ => exact ⟨ho, σ', s', hq⟩
theorem aw_skip (h : Q .normal σ) : Aw ro P w0 .skip σ Q := fun a w s => wpIn_skip ⟨trivial, σ, s, h⟩
theorem aw_ret (h : Q .ret σ) : Aw ro P w0 .ret σ Q := fun a w s => wpIn_ret ⟨trivial, σ, s, h⟩
theorem aw_exit {id : Nat} (h : Q (.exit id) σ) : Aw ro P w0 (.exit id) σ Q := fun a w s => wpIn_exit ⟨trivial, σ, s, h⟩
def inB (id : Nat) (Q : Exit → St → Prop) : Exit → St → Prop
  | .exit id', σ => if id' = id then Q .normal σ else Q (.exit id') σ
  | e, σ => Q e σ
theorem aw_block {id : Nat} {c : Code} (h : Aw ro P w0 c σ (inB id Q)) : Aw ro P w0 (.block id c) σ Q := by
  intro a w s
  refine wpIn_block (wpIn_mono (h a w s) ?_)
  rintro e a' w' ⟨ho, σ', s', hq⟩
  cases e with
  | exit id' =>
    unfold inB at hq
    unfold Exit.inBlock
    simp only at hq ⊢
    split
    · rename_i h1; rw [if_pos h1] at hq; exact ⟨trivial, σ', s', hq⟩
    · rename_i h1; rw [if_neg h1] at hq; exact ⟨trivial, σ', s', hq⟩
  | _ => exact ⟨ho, σ', s', hq⟩
theorem Sim.eval {w : World} {a : Act} (s : Sim w0 σ a w) {x : Operand} {v : Value} (h : opv (fun t => (σ.tm[t]?).join) x = some v) : a.eval x = v :=
  opv_eval h fun t _ ht => s.tm t v (by
    cases hh : σ.tm[t]? with
    | none => rw [hh] at ht; cases ht
    | some y => rw [hh] at ht; simp at ht; rw [ht])
theorem aw_cond {c : Operand} {x y : Code} (b : Bool) (hc : opv (fun t => (σ.tm[t]?).join) c = some (.bool b)) (ht : b = true → Aw ro P w0 x σ Q) (hf : b = false → Aw ro P w0 y σ Q) : Aw ro P w0 (.cond c x y) σ Q := by
  intro a w s
  exact wpIn_cond_split (s.eval hc) (fun h => ht h a w s) (fun h => hf h a w s)
theorem aw_true {c : Operand} {x y : Code} (b : Bool) (hc : opv (fun t => (σ.tm[t]?).join) c = some (.bool b)) (hb : b = true) (h : Aw ro P w0 x σ Q) : Aw ro P w0 (.cond c x y) σ Q :=
  aw_cond b hc (fun _ => h) (fun e => by rw [hb] at e; cases e)
theorem aw_false {c : Operand} {x y : Code} (b : Bool) (hc : opv (fun t => (σ.tm[t]?).join) c = some (.bool b)) (hb : b = false) (h : Aw ro P w0 y σ Q) : Aw ro P w0 (.cond c x y) σ Q :=
  aw_cond b hc (fun e => by rw [hb] at e; cases e) (fun _ => h)
theorem uponIn_of {n l : Nat} {K : Act → World → Prop} {R : Exit → Act → World → Prop} {o : Oper} {a : Act} : ∀ {r : Result Next}, o.upon P a K R r → o.uponIn (Fence.wide.inRound l) n P a K R r
  | .ok (.value _) _, h => h
  | .ok .skip _, h => h
  | .ok (.defer _) _, h => h
  | .ok (.enter f args) w', h => ⟨fun e => (by cases e), CallsIn.inRound l (callsIn_wide.2 h)⟩
  | .ok (.row row args) w', h => ⟨fun e => (by cases e), fun c cs _ => (match h c cs with | ⟨v, w2, r, s⟩ => ⟨v, w2, r, stepsIn_wide.2 s⟩)⟩
  | .halt (.panic _) _, h => h
theorem wpOpIn_of {l n i : Nat} {ops : Array Oper} {K : Act → World → Prop} {R : Exit → Act → World → Prop} {a : Act} {w : World} (hq : ¬ LetsOut R) (hd : ∀ (i : Nat) (o : Oper), ops[i]? = some o → ∀ c, o.op ≠ .defer c) (h : wpOp P ops R i K a w) : wpOpIn (Fence.wide.inRound l) n P ops R i K a w := by
  unfold wpOp at h
  unfold wpOpIn
  cases ho : ops[i]? with
  | none => rw [ho] at h; exact h
  | some o =>
    rw [ho] at h
    simp only at h ⊢
    split
    · rename_i hw
      rw [if_pos hw] at h
      rcases h with h | h
      · refine ⟨fun _ _ => trivial, ?_⟩
        show o.uponIn _ n P a K R ((Oper.semAt (some l) a.eval o).run P w)
        rw [Oper.semAt_some l a.eval o (hd i o ho)]
        exact uponIn_of h
      · exact absurd h.2 hq
    · rename_i hw
      rw [if_neg hw] at h
      exact ⟨fun _ _ => trivial, h⟩
theorem wpOpIn_mono {F : Fence} {n i : Nat} {ops : Array Oper} {K K' : Act → World → Prop} {R : Exit → Act → World → Prop} {a : Act} {w : World} (hk : ∀ a w, K a w → K' a w) (h : wpOpIn F n P ops R i K a w) : wpOpIn F n P ops R i K' a w := by
  unfold wpOpIn at *
  split
  · rename_i ho; simp only [ho] at h; exact hk _ _ h
  · rename_i o ho
    simp only [ho] at h
    split
    · rename_i hw; rw [if_pos hw] at h; exact Oper.wpIn_mono hk h
    · rename_i hw; rw [if_neg hw] at h; exact ⟨h.1, hk _ _ h.2⟩
theorem wpAnyIn_of {l n : Nat} {ops : Array Oper} {md : Region.Mode} {R : Exit → Act → World → Prop} (hq : ¬ LetsOut R) (hd : ∀ (i : Nat) (o : Oper), ops[i]? = some o → ∀ c, o.op ≠ .defer c) : ∀ (fuel : Nat) (listed : Array Bool) (a : Act) (w : World), wpAny P md ops R fuel listed a w → wpAnyIn (Fence.wide.inRound l) n P md ops R fuel listed a w
  | 0, _, _, _, h => h
  | fuel + 1, listed, a, w, h => ⟨h.1, fun i hi => wpOpIn_of hq hd (wpOp_mono (fun a' w' h' => wpAnyIn_of hq hd fuel _ a' w' h') (h.2 i hi))⟩
theorem wpOpsIn_cons' {F : Fence} {n : Nat} {ops : Array Oper} {R : Exit → Act → World → Prop} (i : Nat) (rest : List Nat) (a : Act) (w : World) : wpOpsIn F n P ops R (i :: rest) a w = wpOpIn F n P ops R i (wpOpsIn F n P ops R rest) a w := by
  cases h : ops[i]? <;> simp [wpOpsIn, wpOpIn, h]
theorem wpOpsIn_of {l n : Nat} {ops : Array Oper} {R : Exit → Act → World → Prop} (hq : ¬ LetsOut R) (hd : ∀ (i : Nat) (o : Oper), ops[i]? = some o → ∀ c, o.op ≠ .defer c) : ∀ (L : List Nat) (a : Act) (w : World), wpOps P ops R L a w → wpOpsIn (Fence.wide.inRound l) n P ops R L a w
  | [], _, _, h => h
  | i :: L, a, w, h => by
    rw [wpOpsIn_cons']
    rw [wpOps_cons] at h
    exact wpOpIn_of hq hd (wpOp_mono (fun a' w' h' => wpOpsIn_of hq hd L a' w' h') h)
theorem aw_region {id : Nat} {ops : Array Oper} {draw : Bool} (anns : List Ann) (σ' : (Nat → Lt) → St) (ps : (Nat → Lt) → List Prop)
    (hm : P.follows .mixedOrders = true) (hc : chk ops anns σ = true) (he : ∀ L, evalR P ops anns σ L = some (σ' L, ps L)) (hp : ∀ L, AllP (ps L)) (h : ∀ L, Q .normal (σ' L)) : Aw ro P w0 (.region id ops draw) σ Q := by
  intro a w s
  have C := Chk.of hc
  have hos : ∀ L, ∃ os : List Out, os.length = ops.size ∧ (∀ j, j < ops.size → O P ops anns σ L j = os[j]?) ∧ σ' L = ⟨(List.range σ.tm.length).map (tmD ops σ (fun _ => true) (os[·]?)), finE ops anns σ (os[·]?), σ.ds⟩ ∧ AllP (os.flatMap (·.ps)) := by
    intro L
    have h1 := he L
    unfold evalR at h1
    split at h1
    · rename_i os hs
      obtain ⟨l1, l2⟩ := seqO_get hs
      rw [outs_length] at l1 l2
      simp only [Option.some.injEq, Prod.mk.injEq] at h1
      refine ⟨os, l1, fun j hj => ?_, h1.1.symm, by rw [h1.2]; exact hp L⟩
      obtain ⟨o, o1, o2⟩ := l2 j hj
      have := get_outs (P := P) (ops := ops) (anns := anns) (σ := σ) L hj
      rw [List.getD_eq_getElem?_getD, o1] at this
      rw [← this, o2]
      rfl
    · cases h1
  have hok : Ok P ops anns σ := by
    intro L k hk
    obtain ⟨os, h1, h2, h3, h4⟩ := hos L
    have h5 : os[k]? = some (os[k]'(by omega)) := List.getElem?_eq_getElem (by omega)
    exact ⟨_, (h2 k hk).trans h5, allP_flat h4 h5⟩
  have hQ : ∀ D L a w, (∀ i, i < ops.size → D i = true) → Inv P ops anns σ w0 D L a w → lift w0 Q .normal a w := by
    intro D L a w hall I
    obtain ⟨os, h1, h2, h3, h4⟩ := hos L
    exact ⟨trivial, σ' L, by rw [h3]; exact I.fin h1 hall h2, h L⟩
  have hany : wpAny P .any ops (lift w0 Q) ops.size (Array.replicate ops.size false) a w.drew := by
    refine wpAny_eval C hok (w0 := w0) (Q := lift w0 Q) hQ _ _ _ _ (fun _ => ⟨0, none, 0⟩) (by simp) (undn_false _) ?_ ?_
    · intro j an hj
      simp [Array.getD] at hj
    · have e1 : (fun j => (Array.replicate ops.size false).getD j false) = fun _ => false := funext fun j => by simp [Array.getD]
      rw [e1]
      have s' : Sim w0 σ a w.drew := ⟨s.def0, s.size, s.tm, s.holds, s.apart, s.own, s.bel.drew⟩
      exact Inv.start s' (fun _ => rfl) _
  have hseq : wpOps P ops (lift w0 Q) (List.range ops.size) a w := by
    rw [List.range_eq_range']
    exact wpOps_eval C hok (w0 := w0) (Q := lift w0 Q) hQ _ _ _ _ (fun _ => ⟨0, none, 0⟩) (by simp) (Inv.start s (fun j => by simp) _)
  cases ro with
  | none =>
    refine wpIn_wide.2 ?_
    cases draw with
    | true => exact wp_region_any hm hany
    | false => exact wp_region hseq
  | some l =>
    cases draw with
    | true => exact wpIn_region_any hm (wpAnyIn_of lift_out C.dfr _ _ _ _ hany)
    | false => exact wpIn_region (wpOpsIn_of lift_out C.dfr _ _ _ hseq)
end
/-- what is known less -/
def Weak (σ σ' : St) : Prop := ∀ w0 a w, Sim w0 σ a w → Sim w0 σ' a w
theorem Weak.refl (σ : St) : Weak σ σ := fun _ _ _ s => s
theorem Weak.trans {a b c : St} (h : Weak a b) (k : Weak b c) : Weak a c := fun _ _ _ s => k _ _ _ (h _ _ _ s)
theorem Weak.of_eq {σ σ' : St} (h : σ = σ') : Weak σ σ' := h ▸ Weak.refl σ
def keepT : List (Option Value) → List Bool → List (Option Value)
  | x :: l, b :: bs => (if b then x else none) :: keepT l bs
  | l, [] => l
  | [], _ => []
def nodupB : List Nat → Bool
  | [] => true
  | x :: l => !l.contains x && nodupB l
def St.keep (σ : St) (bs : List Bool) (is : List Nat) : St := ⟨keepT σ.tm bs, is.filterMap (σ.es[·]?), σ.ds⟩
theorem keepT_length : ∀ (l : List (Option Value)) (bs : List Bool), (keepT l bs).length = l.length
  | x :: l, b :: bs => by simp [keepT, keepT_length l bs]
  | [], [] => rfl
  | _ :: _, [] => rfl
  | [], _ :: _ => rfl
theorem keepT_get : ∀ (l : List (Option Value)) (bs : List Bool) (t : Nat) (v : Value), (keepT l bs)[t]? = some (some v) → l[t]? = some (some v)
  | x :: l, b :: bs, 0, v, h => by
    simp only [keepT, List.getElem?_cons_zero, Option.some.injEq] at h ⊢
    split at h
    · exact h
    · cases h
  | x :: l, b :: bs, t + 1, v, h => by
    simp only [keepT, List.getElem?_cons_succ] at h ⊢
    exact keepT_get l bs t v h
  | [], [], t, v, h => h
  | _ :: _, [], t, v, h => h
  | [], _ :: _, t, v, h => by simp [keepT] at h
theorem nodupB_of : ∀ {l : List Nat}, nodupB l = true → l.Nodup
  | [], _ => List.nodup_nil
  | x :: l, h => by
    simp only [nodupB, Bool.and_eq_true, Bool.not_eq_true'] at h
    exact List.nodup_cons.2 ⟨by simpa using h.1, nodupB_of h.2⟩
theorem weak_keep {σ : St} (bs : List Bool) (is : List Nat) (h : nodupB is = true) : Weak σ (σ.keep bs is) := by
  intro w0 a w s
  refine ⟨s.def0, by rw [s.size]; exact (keepT_length _ _).symm, fun t v hv => s.tm t v (keepT_get _ _ _ _ hv), ?_, ?_, ?_, s.bel⟩
  · intro e c hc
    obtain ⟨i, x, h1, h2⟩ := filterMap_get _ _ _ _ hc
    exact s.holds _ c h2
  · intro e e' c c' hc hc' hne hmi
    obtain ⟨i, i', x, x', h1, h2, h3, h4, h5⟩ := filterMap_pair _ _ _ _ _ _ hne hc hc'
    refine s.apart _ _ c c' h4 h5 (fun hx => ?_) hmi
    subst hx
    exact h1 ((List.getElem?_inj (List.getElem?_eq_some_iff.1 h2).1 (nodupB_of h)).1 (h2.trans h3.symm))
  · intro e c hc ho
    obtain ⟨i, x, h1, h2⟩ := filterMap_get _ _ _ _ hc
    exact s.own _ c h2 ho
theorem weak_to {σ σ' : St} (bs : List Bool) (is : List Nat) (h : nodupB is = true) (e : σ.keep bs is = σ') : Weak σ σ' := e ▸ weak_keep bs is h
theorem aw_weak {ro : Option Nat} {P : Program} {w0 : World} {c : Code} {σ σ' : St} {Q : Exit → St → Prop} (h : Weak σ σ') (k : Aw ro P w0 c σ' Q) : Aw ro P w0 c σ Q := fun a w s => k a w (h _ _ _ s)
theorem aw_mono {ro : Option Nat} {P : Program} {w0 : World} {c : Code} {σ : St} {Q Q' : Exit → St → Prop} (h : Aw ro P w0 c σ Q) (k : ∀ e σ', Q e σ' → Q' e σ') : Aw ro P w0 c σ Q' := fun a w s => wpIn_mono (h a w s) fun e a' w' ⟨ho, σ', s', q⟩ => ⟨ho, σ', s', k _ _ q⟩
/-- so many rounds of a loop, and one more -/
def AwN (ro : Option Nat) (P : Program) (w0 : World) (c : Code) (n : Nat) (σ : St) (Q : Exit → St → Prop) : Prop :=
  ∀ a w, Sim w0 σ a w → Code.roundsIn (fen ro) 0 P c (lift w0 Q) n a w
theorem aw_rounds {ro : Option Nat} {P : Program} {w0 : World} {c : Code} {σ : St} {Q : Exit → St → Prop} (n : Nat) (h : AwN ro P w0 c n σ Q) : Aw ro P w0 (.loop c) σ Q := fun a w s => wpIn_loop_rounds n (h a w s)
theorem aw_round {ro : Option Nat} {P : Program} {w0 : World} {c : Code} {σ : St} {Q : Exit → St → Prop} {n : Nat} (h : Aw ro P w0 c σ (thn (fun σ' => AwN ro P w0 c n σ' Q) Q)) : AwN ro P w0 c (n + 1) σ Q := by
  intro a w s
  rw [roundsIn_succ]
  refine wpIn_mono (h a w s) ?_
  rintro e a' w' ⟨ho, σ', s', hq⟩
  cases e with
  | normal => exact hq a' w' s'
  | _ => exact ⟨ho, σ', s', hq⟩
theorem awn_weak {ro : Option Nat} {P : Program} {w0 : World} {c : Code} {n : Nat} {σ σ' : St} {Q : Exit → St → Prop} (h : Weak σ σ') (k : AwN ro P w0 c n σ' Q) : AwN ro P w0 c n σ Q := fun a w s => k a w (h _ _ _ s)
theorem aw_loop {ro : Option Nat} {P : Program} {w0 : World} {c : Code} {σ : St} {Q : Exit → St → Prop} {ι : Type} (I : ι → St) (μ : ι → Nat) (i0 : ι) (h0 : Weak σ (I i0))
    (round : ∀ i, Aw ro P w0 c (I i) (thn (fun σ' => ∃ j, Weak σ' (I j) ∧ μ j < μ i) Q)) : Aw ro P w0 (.loop c) σ Q := by
  have key : ∀ n i, μ i < n → AwN ro P w0 c n (I i) Q := by
    intro n
    induction n with
    | zero => intro i hi; omega
    | succ n ih =>
      intro i hi
      refine aw_round (aw_mono (round i) ?_)
      intro e σ' hq
      cases e with
      | normal =>
        obtain ⟨j, hj, hlt⟩ := hq
        exact awn_weak hj (ih j (by omega))
      | _ => exact hq
  exact aw_rounds _ (awn_weak h0 (key (μ i0 + 1) i0 (by omega)))

/-- what a function answers -/
def evRes1 (P : Program) (σ : St) : ResultVar → Nat → Option (Value × List Prop)
  | .tmp t, _ => match (σ.tm[t]?).join with
    | some v => some (v, [])
    | none => none
  | .cell a t, e => match (σ.tm[a]?).join, σ.es[e]? with
    | some p, some c => evLoad P t p c none
    | _, _ => none
def evResL (P : Program) (σ : St) : List ResultVar → List Nat → Option (List Value × List Prop)
  | [], _ => some ([], [])
  | r :: rs, es => match evRes1 P σ r (es.headD 0), evResL P σ rs es.tail with
    | some (v, ps), some (vs, qs) => some (v :: vs, ps ++ qs)
    | _, _ => none
def tupV : List Value → Value
  | [v] => v
  | vs => .tuple vs.toArray
def evRes (P : Program) (fn : Func) (σ : St) (es : List Nat) : Option (Value × List Prop) :=
  match evResL P σ fn.results.toList es with
  | some (vs, ps) => some (tupV vs, ps)
  | none => none
theorem loadAt_loadVar {P : Program} {t : TypeId} {b : Addr} {w : World} : (Instr.loadAt t (.pointer (some b))).run P w = (loadVar t b).run P w := by
  simp [Instr.loadAt, Instr.sureAddr]
theorem Sim.join {w0 w : World} {σ : St} {a : Act} (s : Sim w0 σ a w) {t : Nat} {v : Value} (h : (σ.tm[t]?).join = some v) : a.tmps[t]? = some v :=
  s.tm t v (by
    cases hh : σ.tm[t]? with
    | none => rw [hh] at h; cases h
    | some y => rw [hh] at h; simp at h; rw [h])
def resOne (tm : Array Value) : ResultVar → Sem Value
  | .tmp t => pure (tm.getD t undef)
  | .cell a t => do loadVar t (← asAddr (tm.getD a undef))
theorem results_eq (fn : Func) (tm : Array Value) : results fn tm = (do
    let vs ← fn.results.mapM (resOne tm)
    pure (if h : vs.size = 1 then vs[0] else .tuple vs)) := rfl
theorem evResL_run {P : Program} {σ : St} {w0 w : World} {a : Act} (s : Sim w0 σ a w) : ∀ {rs : List ResultVar} {es : List Nat} {vs : List Value} {ps : List Prop}, evResL P σ rs es = some (vs, ps) → AllP ps →
    (rs.mapM (resOne a.tmps)).run P w = .ok vs w
  | [], es, vs, ps, h, hp => by simp [evResL] at h; obtain ⟨rfl, rfl⟩ := h; rfl
  | r :: rs, es, vs, ps, h, hp => by
    unfold evResL at h
    split at h
    · rename_i v p1 vs' p2 h1 h2
      cases h
      rw [allP_app] at hp
      have ih := evResL_run s h2 hp.2
      rw [List.mapM_cons, Sem.run_bind]
      have h3 : (resOne a.tmps r).run P w = .ok v w := by
        cases r with
        | tmp t =>
          simp only [evRes1] at h1
          split at h1
          · rename_i u hu
            cases h1
            have := s.join hu
            simp [resOne, this]
          · cases h1
        | cell p t =>
          simp only [evRes1] at h1
          split at h1
          · rename_i u c hu hc
            have hj := s.join hu
            have hl := evLoad_run h1 hp.1 (s.holds _ c hc)
            unfold evLoad at h1
            split at h1
            · rename_i b off _ _ _
              rw [loadAt_loadVar] at hl
              simp [resOne, hj, asAddr, hl]
            · rename_i b off _
              rw [loadAt_loadVar] at hl
              simp [resOne, hj, asAddr, hl]
            · cases h1
          · cases h1
      rw [h3, Result.andThen_ok, Sem.run_bind, ih]
      rfl
    · cases h
theorem evRes_run {P : Program} {fn : Func} {σ : St} {es : List Nat} {w0 w : World} {a : Act} {v : Value} {ps : List Prop} (s : Sim w0 σ a w) (h : evRes P fn σ es = some (v, ps)) (hp : AllP ps) : (results fn a.tmps).run P w = .ok v w := by
  unfold evRes at h
  split at h
  · rename_i vs qs h1
    cases h
    have h2 := evResL_run s h1 hp
    rw [results_eq]
    rw [Array.mapM_eq_mapM_toList, Sem.run_bind, Sem.run_map, h2]
    simp only [Result.andThen_ok, Sem.run_pure]
    congr 1
    match vs with
    | [] => rfl
    | [x] => rfl
    | x :: y :: l => rfl
  · cases h
/-- the memory alone -/
def SimE (w0 : World) (es : List Cel) (w : World) : Prop := Sim w0 ⟨[], es, []⟩ ⟨#[], []⟩ w
theorem Sim.toE {w0 w : World} {σ : St} {a : Act} (s : Sim w0 σ a w) : SimE w0 σ.es w := ⟨rfl, rfl, fun t v h => by simp at h, s.holds, s.apart, s.own, s.bel⟩
theorem SimE.of {w0 w : World} {es : List Cel} {a : Act} {tm : List (Option Value)} {ds : List Nat} (s : SimE w0 es w) (h1 : a.defers = marks ds) (h2 : a.tmps.size = tm.length) (h3 : ∀ (t : Nat) (v : Value), tm[t]? = some (some v) → a.tmps[t]? = some v) : Sim w0 ⟨tm, es, ds⟩ a w := ⟨h1, h2, h3, s.holds, s.apart, s.own, s.bel⟩
/-- behind the mark of a range over a function -/
def St.shut (σ : St) : Option Nat → St
  | none => ⟨σ.tm, σ.es, []⟩
  | some i => ⟨σ.tm, σ.es.eraseIdx i, []⟩
def okSh (σ : St) : Option Nat → Prop
  | none => σ.ds = []
  | some i => ∃ D, σ.ds = [D] ∧ σ.es[i]? = some (.dfr D)
theorem erase_get {α : Type} {l : List α} {i k : Nat} {x : α} (h : (l.eraseIdx i)[k]? = some x) : ∃ j, j ≠ i ∧ l[j]? = some x ∧ (k < i ∧ j = k ∨ i ≤ k ∧ j = k + 1) := by
  rw [List.getElem?_eraseIdx] at h
  split at h
  · exact ⟨k, by omega, h, .inl ⟨by omega, rfl⟩⟩
  · exact ⟨k + 1, by omega, h, .inr ⟨by omega, rfl⟩⟩
/-- one thing less, that has become something else -/
theorem SimE.put {w0 w : World} {es : List Cel} {i b : Nat} {c : Cel} {o : Obj} (s : SimE w0 es w) (hi : es[i]? = some c) (hm : c.mine = true) (hk : c.key = some b) : SimE w0 (es.eraseIdx i) (w.putObj b o) := by
  have hb := s.own i c hi hm b hk
  refine ⟨rfl, rfl, fun t v h => by simp at h, ?_, ?_, ?_, ?_⟩
  · intro e x hx
    obtain ⟨j, hj, hx', _⟩ := erase_get hx
    refine Cel.kept (s.holds j x hx') fun k hkx => World.putObj_heap_other fun h => ?_
    subst h
    exact s.apart i j c x hi hx' (Ne.symm hj) hm _ hk hkx
  · intro e e' x x' hx hx' hne hmx k hkx
    obtain ⟨j, hj, h1, q⟩ := erase_get hx
    obtain ⟨j', hj', h1', q'⟩ := erase_get hx'
    exact s.apart j j' x x' h1 h1' (by omega) hmx k hkx
  · intro e x hx hmx k hkx
    obtain ⟨j, hj, h1, q⟩ := erase_get hx
    exact s.own j x h1 hmx k hkx
  · exact s.bel.trans ⟨rfl, rfl, rfl, by simp, fun k hk => World.putObj_heap_other (by omega)⟩
/-- the end of a function -/
def FinS (P : Program) (fn : Func) (K : Value → List Cel → Prop) (e : Exit) (σ : St) : Prop :=
  (e = .normal ∨ e = .ret) ∧ ∃ sh, okSh σ sh ∧ ∃ es v ps, evRes P fn (σ.shut sh) es = some (v, ps) ∧ AllP ps ∧ K v (σ.shut sh).es
theorem leaves_of {P : Program} {fn : Func} {w0 w : World} {a : Act} {σ : St} {sh : Option Nat} {es : List Nat} {v : Value} {ps : List Prop} {R : Ending → World → Prop} (s : Sim w0 σ a w) (hsh : okSh σ sh) (h : evRes P fn (σ.shut sh) es = some (v, ps)) (hp : AllP ps)
    (hR : ∀ w', SimE w0 (σ.shut sh).es w' → R (.returned v) w') : LeavesInM Fence.wide 0 P fn a.tmps R a.defers .returning w := by
  cases sh with
  | none =>
    have hd := s.def0
    rw [show σ.ds = [] from hsh] at hd
    rw [hd]
    have s' : Sim w0 (σ.shut none) ⟨a.tmps, []⟩ w := SimE.of s.toE rfl s.size s.tm
    exact ⟨v, evRes_run (a := ⟨a.tmps, []⟩) s' h hp, hR w s'.toE⟩
  | some i =>
    obtain ⟨D, h1, h2⟩ := hsh
    have hd := s.def0
    rw [h1] at hd
    rw [hd]
    have hh : w.heap[D]? = some (.deferred (some [])) := s.holds i _ h2
    have hE : SimE w0 (σ.es.eraseIdx i) (w.putObj D (.deferred none)) := s.toE.put h2 rfl rfl
    have s' : Sim w0 (σ.shut (some i)) ⟨a.tmps, []⟩ (w.putObj D (.deferred none)) := SimE.of hE rfl s.size s.tm
    exact ⟨by simp, .inl ⟨D, _, rfl, run_takeDeferred hh, v, evRes_run (a := ⟨a.tmps, []⟩) s' h hp, hR _ hE⟩⟩
theorem tm_args {args : Array Value} {n : Nat} {tm : List (Option Value)} (h : (args ++ Array.replicate n undef).toList.map some = tm) : (args ++ Array.replicate n undef).size = tm.length ∧ ∀ (t : Nat) (v : Value), tm[t]? = some (some v) → (args ++ Array.replicate n undef)[t]? = some v := by
  subst h
  refine ⟨by simp, fun t v hv => ?_⟩
  rw [List.getElem?_map] at hv
  rw [← Array.getElem?_toList]
  cases hq : (args ++ Array.replicate n undef).toList[t]? with
  | none => rw [hq] at hv; cases hv
  | some u => rw [hq] at hv; simp at hv; rw [hv]
/-- a call, from what is known of the memory -/
theorem calls_awS {P : Program} {f : FuncId} {fn : Func} {c : Code} {args : Array Value} {w0 w : World} {K : Value → List Cel → Prop} (tm : List (Option Value)) {es : List Cel} (hf : P.funcs[f]? = some fn) (hb : fn.body = some c)
    (hσ : (args ++ Array.replicate (fn.ntmps - args.size) undef).toList.map some = tm) (s : SimE w0 es w)
    (h : Aw none P w0 c ⟨tm, es, []⟩ (FinS P fn K)) : Calls P f args w fun r w' => ∃ v es', r = .returned v ∧ SimE w0 es' w' ∧ K v es' := by
  obtain ⟨t1, t2⟩ := tm_args hσ
  refine callsIn_wide.1 (callsIn_of_wp_marks (F := Fence.wide) (n := 0) hf hb trivial (wpIn_mono (h ⟨_, []⟩ w (SimE.of s rfl t1 t2)) ?_))
  rintro e a w' ⟨ho, σ', s', he, sh, hsh, es', v, ps, h1, h2, h3⟩
  rcases he with rfl | rfl
  · exact leaves_of s' hsh h1 h2 fun w'' hw => ⟨v, _, rfl, hw, h3⟩
  · exact leaves_of s' hsh h1 h2 fun w'' hw => ⟨v, _, rfl, hw, h3⟩
def Fin (P : Program) (fn : Func) (w0 : World) (R : Ending → World → Prop) : Exit → St → Prop := FinS P fn fun v es => ∀ w', SimE w0 es w' → R (.returned v) w'
theorem fin_ret {P : Program} {fn : Func} {w0 : World} {R : Ending → World → Prop} {e : Exit} {σ : St} (sh : Option Nat) (es : List Nat) (v : Value) (ps : List Prop) (he : e = .normal ∨ e = .ret) (hsh : okSh σ sh) (h : evRes P fn (σ.shut sh) es = some (v, ps)) (hp : AllP ps) (hR : ∀ w', Below w0.heap.size w0 w' → R (.returned v) w') : Fin P fn w0 R e σ :=
  ⟨he, sh, hsh, es, v, ps, h, hp, fun _ s => hR _ s.bel⟩
theorem calls_aw {P : Program} {f : FuncId} {fn : Func} {c : Code} {args : Array Value} {w : World} {R : Ending → World → Prop} (tm : List (Option Value)) (es : List Cel) (hf : P.funcs[f]? = some fn) (hb : fn.body = some c)
    (hσ : (args ++ Array.replicate (fn.ntmps - args.size) undef).toList.map some = tm) (hes : ∀ (e : Nat) (x : Cel), es[e]? = some x → x.holds w ∧ x.mine = false)
    (h : Aw none P w c ⟨tm, es, []⟩ (Fin P fn w R)) : Calls P f args w R := by
  have s : SimE w es w := ⟨rfl, rfl, fun t v h => by simp at h, fun e x hx => (hes e x hx).1, fun e e' x x' hx _ _ hm => (by have := (hes e x hx).2; rw [this] at hm; cases hm), fun e x hx ho => (by have := (hes e x hx).2; rw [this] at ho; cases ho), Below.refl _ _⟩
  refine (calls_awS tm hf hb hσ s h).mono ?_
  rintro r w' ⟨v, es', rfl, s', k⟩
  exact k w' s'
end Ag
end Go.Proofs.Ytlpjnhoafaamkaa
