/-
  REGIONS BY EVALUATION: what an operation comes to.
-/
import Derived.Test.YtlpjnhoafaamkaaAg
set_option linter.unusedVariables false
set_option linter.unusedSimpArgs false
namespace Go.Proofs.Ytlpjnhoafaamkaa
open Go Go.RowKit
namespace Ag

/-- what an operation draws: a block, or where a slice lies, and its capacity -/
structure Lt where
  b : Nat
  a : Option Addr
  n : Nat
inductive Kind where
  | pure | read (e : Nat) | write (e : Nat) | new | idx
  | sem (v : Value)
  | app (e f : Nat)
  | call (es : List Nat) (v : Value)
  | callN (es : List Nat) (v : Lt → Value) (c : Lt → Cel)
  | callW (e : Nat) (es : List Nat) (v : Lt → Value) (c : Lt → Cel)
/-- what is told of an operation: what it is, another word for its value, whether it is wanted, and the operations that come before it -/
structure Ann where
  kind : Kind
  B : List Nat
  ov : Option Value := none
  taken : Bool := true
structure Out where
  v : Value
  ent : Option Cel
  ps : List Prop
def opv (tm : Tmp → Option Value) : Operand → Option Value
  | .tmp t => tm t
  | .const v => some v
  | .global g => some (.pointer (some ⟨g, 0, none⟩))
  | .func f => some (.func (.func f) #[] #[])
/-- the call of f comes to v, and leaves what there was -/
def CallOb (P : Program) (f : FuncId) (args : Array Value) (es : List Cel) (v : Value) : Prop :=
  ∀ W, (∀ e ∈ es, e.holds W) → Calls P f args W fun r w' => r = .returned v ∧ Below W.heap.size W w'
/-- and makes something -/
def CallN (P : Program) (f : FuncId) (args : Array Value) (es : List Cel) (v : Lt → Value) (c : Lt → Cel) : Prop :=
  ∀ W, (∀ e ∈ es, e.holds W) → Calls P f args W fun r w' => ∃ l, r = .returned (v l) ∧ (c l).holds w' ∧ (c l).mine = true ∧ (∀ k, (c l).key = some k → W.heap.size ≤ k) ∧ Below W.heap.size W w'
/-- or writes to one thing -/
def CallW (P : Program) (f : FuncId) (args : Array Value) (e0 : Cel) (es : List Cel) (v : Lt → Value) (c : Lt → Cel) : Prop :=
  ∀ W, e0.holds W → (∀ e ∈ es, e.holds W) → Calls P f args W fun r w' => ∃ l, r = .returned (v l) ∧ (c l).holds w' ∧ (c l).mine = true ∧ (∀ k, (c l).key = some k → e0.key = some k ∨ W.heap.size ≤ k) ∧ W.grownBy w' e0.key
/-- an operation by its own meaning -/
def SemOb (P : Program) (s : Sem Value) (v : Value) : Prop := ∀ w, s.run P w = .ok v w
def semOf (o : Oper) (ρ : Operand → Value) : Option (Sem Value) :=
  match o.op with
  | .binOp op t x y _ => some (do eqGuard op t x y (ρ x) (ρ y); binOp op t (ρ x) (ρ y))
  | .convert s d x => some (convert s d (ρ x))
  | .slice t x lo hi mx => some (Instr.sliceAt t (ρ x) (lo.map ρ) (hi.map ρ) (mx.map ρ))
  | .index t x i => some (Instr.index t (ρ x) (ρ i))
  | .unOp u _ x => some (Op.unary u (ρ x))
  | _ => none
def over (ov : Option Value) (v : Value) (ps : List Prop) : Out :=
  match ov with
  | some u => ⟨u, none, (v = u) :: ps⟩
  | none => ⟨v, none, ps⟩
def ents (ent : Nat → Option Cel) : List Nat → Option (List Cel)
  | [] => some []
  | e :: l => match ent e, ents ent l with
    | some c, some cs => some (c :: cs)
    | _, _ => none
def appOf (o : Op) : Option (Operand × Operand × TypeId × TypeId) :=
  match o with
  | .call c => match c.callee, c.args.toList, c.argTypes.toList with
    | .builtin .append, [s, x], [t, t'] => some (s, x, t, t')
    | _, _, _ => none
  | _ => none
theorem appOf_eq {o : Op} {s x : Operand} {t t' : TypeId} (h : appOf o = some (s, x, t, t')) : o = .call { callee := .builtin .append, args := #[s, x], argTypes := #[t, t'] } := by
  unfold appOf at h
  split at h
  · rename_i c
    split at h
    · rename_i h1 h2 h3
      cases h
      obtain ⟨cal, args, tys⟩ := c
      simp only at h1 h2 h3
      subst h1
      congr 2
      · exact Array.ext' h2
      · exact Array.ext' h3
    · cases h
  · cases h
/-- an empty block, as a row -/
def rowOf (P : Program) (c : Cel) : Cel :=
  match c with
  | .blk g [] T true => match P.info? T with
    | some i => .row (some ⟨g, 0, none⟩) 0 0 i.size [] T true
    | none => c
  | c => c
theorem rowOf_ok (P : Program) (c : Cel) : (rowOf P c).key = c.key ∧ (rowOf P c).mine = c.mine ∧ ∀ w, c.holds w → (rowOf P c).holds w := by
  unfold rowOf
  split
  · split
    · refine ⟨rfl, rfl, fun w h => ⟨by simp, .inr ⟨_, 0, #[], rfl, Nat.zero_le _, h, Nat.le_refl _, Nat.zero_le _, by simp, by simp⟩⟩⟩
    · exact ⟨rfl, rfl, fun _ h => h⟩
  · exact ⟨rfl, rfl, fun _ h => h⟩
/-- an append to a row -/
def evApp (P : Program) (t t' : TypeId) (s x : Value) (c f : Cel) (l : Lt) : Option Out :=
  match s, x, c with
  | .slice a n cap, .slice (some ⟨g, off, none⟩) m _, .row a' n' cap' size xs T true =>
    match P.underlying t, P.info? T, f.view with
    | some (.slice el), some i, some (g', cs) =>
      some ⟨.slice l.a (n + m) l.n, some (.row l.a (n + m) l.n size (xs ++ (cs.drop off).take (m * size)) T true),
        [t = t', el = T, a = a', n = n', cap = cap', g = g', i.size = size, (i.zero.map (·.cells.size)) = some size, 0 < size, off + m * size ≤ cs.length, ∀ u ∈ (cs.drop off).take (m * size), u.oneCell' = true, n + m ≤ maxLen, (n + m) * i.bytes ≤ 140737488355328]⟩
    | some (.slice el), some i, none => match f with
      | .vue g' o cs =>
        some ⟨.slice l.a (n + m) l.n, some (.row l.a (n + m) l.n size (xs ++ cs.take (m * size)) T true),
          [t = t', el = T, a = a', n = n', cap = cap', g = g', i.size = size, (i.zero.map (·.cells.size)) = some size, 0 < size, off = o ∧ m * size ≤ cs.length, ∀ u ∈ cs.take (m * size), u.oneCell' = true, n + m ≤ maxLen, (n + m) * i.bytes ≤ 140737488355328]⟩
      | _ => none
    | _, _, _ => none
  | _, _, _ => none
def evalOp (P : Program) (o : Oper) (an : Ann) (tm : Tmp → Option Value) (ent : Nat → Option Cel) (l : Lt) : Option Out :=
  if o.op.operands.all fun x => (opv tm x).isSome then
    match an.kind with
    | .pure => match arp P (execOp (fun x => (opv tm x).getD undef) o) with
      | some (.value v) => some (over an.ov v [])
      | _ => none
    | .read e => match o.op, ent e with
      | .load t x, some c => match evLoad P t ((opv tm x).getD undef) c an.ov with
        | some (v, ps) => some (over an.ov v ps)
        | none => none
      | _, _ => none
    | .write e => match o.op, ent e with
      | .store t x y, some c => match evStore P t ((opv tm x).getD undef) ((opv tm y).getD undef) c with
        | some (c', ps) => some ⟨undef, some c', ps⟩
        | none => none
      | _, _ => none
    | .new => match arn P l.b (execOp (fun x => (opv tm x).getD undef) o) with
      | some (.value v, c) => some ⟨v, some c, []⟩
      | _ => none
    | .idx => match o.op with
      | .indexAddr t x i => match evIdx P t ((opv tm x).getD undef) ((opv tm i).getD undef) with
        | some (v, ps) => some (over an.ov v ps)
        | none => none
      | _ => none
    | .sem v => match semOf o (fun x => (opv tm x).getD undef) with
      | some s => some ⟨v, none, [SemOb P s v]⟩
      | none => none
    | .app e f => match appOf o.op, ent e, ent f with
      | some (s, x, t, t'), some c, some c' => evApp P t t' ((opv tm s).getD undef) ((opv tm x).getD undef) (rowOf P c) c' l
      | _, _, _ => none
    | .call es v => match arp P (execOp (fun x => (opv tm x).getD undef) o), ents ent es with
      | some (.enter f args), some cs => some ⟨v, none, [CallOb P f args cs v]⟩
      | _, _ => none
    | .callN es v c => match arp P (execOp (fun x => (opv tm x).getD undef) o), ents ent es with
      | some (.enter f args), some cs => some ⟨v l, some (c l), [CallN P f args cs v c]⟩
      | _, _ => none
    | .callW e es v c => match arp P (execOp (fun x => (opv tm x).getD undef) o), ent e, ents ent es with
      | some (.enter f args), some c0, some cs => some ⟨v l, some (c l), [c0.mine = true, CallW P f args c0 cs v c]⟩
      | _, _, _ => none
  else none
def evalG (P : Program) (ops : Array Oper) (o : Oper) (an : Ann) (tm : Tmp → Option Value) (ent : Nat → Option Cel) (l : Lt) : Option Out :=
  match o.guard with
  | none => evalOp P o an tm ent l
  | some (g, want) =>
    match ((ops[g]?).bind (·.dst)).bind tm with
    | some (.bool b) =>
      if an.taken then (evalOp P o an tm ent l).map fun x => { x with ps := (b = want) :: x.ps }
      else match an.kind with
        | .pure => some ⟨undef, none, [b = !want]⟩
        | _ => none
    | some _ => match an.kind with
      | .pure => some ⟨undef, none, []⟩
      | _ => none
    | none => none
def Kind.acc : Kind → List Nat
  | .read e | .write e => [e]
  | .app e f => [e, f]
  | .call es _ | .callN es _ _ => es
  | .callW e es _ _ => e :: es
  | _ => []
/-- one that is written; one that is made -/
def Kind.mod : Kind → Option Nat
  | .write e | .app e _ | .callW e _ _ _ => some e
  | _ => none
def Kind.mk : Kind → Bool
  | .new | .callN .. => true
  | _ => false
def effect (k : Kind) (ent : Nat → Option Cel) (out : Out) (w w' : World) : Prop :=
  match k.mod, k.mk with
  | some e, _ => ∃ c c', ent e = some c ∧ out.ent = some c' ∧ c.mine = true ∧ c'.mine = true ∧ c'.holds w' ∧ (∀ k, c'.key = some k → c.key = some k ∨ w.heap.size ≤ k) ∧ w.grownBy w' c.key
  | none, true => ∃ c', out.ent = some c' ∧ c'.mine = true ∧ c'.holds w' ∧ (∀ k, c'.key = some k → w.heap.size ≤ k) ∧ w.grownBy w' none
  | none, false => w.grownBy w' none

theorem opv_eval {tm : Tmp → Option Value} {a : Act} {x : Operand} {v : Value} (h : opv tm x = some v) (ht : ∀ t, x = .tmp t → tm t = some v → a.tmps[t]? = some v) : a.eval x = v := by
  cases x with
  | tmp t =>
    have := ht t rfl h
    simp [Act.eval, this]
  | const u => simpa [opv, Act.eval] using h
  | global g => simpa [opv, Act.eval] using h
  | func f => simpa [opv, Act.eval] using h
theorem ents_holds {ent : Nat → Option Cel} {w : World} : ∀ {es : List Nat} {cs : List Cel}, ents ent es = some cs → (∀ e c, e ∈ es → ent e = some c → c.holds w) → ∀ c ∈ cs, c.holds w
  | [], cs, h, _, c, hc => by simp [ents] at h; subst h; cases hc
  | e :: l, cs, h, he, c, hc => by
    unfold ents at h
    split at h
    · rename_i c0 cs0 h1 h2
      cases h
      rcases List.mem_cons.1 hc with hc | hc
      · subst hc; exact he e _ (by simp) h1
      · exact ents_holds h2 (fun e' c' hm => he e' c' (List.mem_cons_of_mem _ hm)) c hc
    · cases h
theorem over_v {ov : Option Value} {v : Value} {ps : List Prop} (hp : AllP (over ov v ps).ps) : (over ov v ps).v = v ∧ (over ov v ps).ent = none ∧ AllP ps := by
  unfold over at *
  split
  · simp only [AllP] at hp
    exact ⟨hp.1.symm, rfl, hp.2⟩
  · exact ⟨rfl, rfl, hp⟩
theorem grown_refl (w : World) (r : Option Nat) : w.grownBy w r := ⟨rfl, rfl, rfl, Nat.le_refl _, fun _ _ _ => rfl⟩
theorem grown_of_below {w w' : World} (h : Below w.heap.size w w') : w.grownBy w' none := ⟨h.os, h.tape, h.output, h.size, fun k hk _ => h.block k hk⟩
theorem semOf_run {P : Program} {o : Oper} {ρ : Operand → Value} {s : Sem Value} {v : Value} (h : semOf o ρ = some s) (hs : SemOb P s v) (w : World) : (execOp ρ o).run P w = .ok (.value v) w := by
  have hr := hs w
  unfold semOf at h
  unfold execOp
  split at h <;> cases h <;> rename_i ho <;> simp only [ho] <;> rw [Sem.run_bind, hr] <;> rfl
/-- one operation, whatever it draws -/
theorem evalOp_sound {P : Program} {o : Oper} {an : Ann} {tm : Tmp → Option Value} {ent : Nat → Option Cel} {a : Act} {w : World} {K : Act → World → Prop} {Q : Exit → Act → World → Prop}
    (h : ∀ l, ∃ out, evalOp P o an tm ent l = some out ∧ AllP out.ps) (hs : ∀ cs b, o.op ≠ .select cs b)
    (ht : ∀ t v, .tmp t ∈ o.op.operands → tm t = some v → a.tmps[t]? = some v) (he : ∀ e c, e ∈ an.kind.acc → ent e = some c → c.holds w)
    (hK : ∀ l out w', evalOp P o an tm ent l = some out → effect an.kind ent out w w' → K (a.put o.dst out.v) w') : o.wp P a w K Q := by
  obtain ⟨out0, h0, hp0⟩ := h ⟨w.heap.size, none, 0⟩
  have hall : o.op.operands.all (fun x => (opv tm x).isSome) = true := by
    unfold evalOp at h0
    split at h0
    · assumption
    · cases h0
  have hev : ∀ x ∈ o.op.operands, a.eval x = (opv tm x).getD undef := by
    intro x hx
    have h1 := (Array.all_eq_true_iff_forall_mem.1 hall) x hx
    obtain ⟨v, hv⟩ := Option.isSome_iff_exists.1 h1
    rw [hv]
    exact opv_eval hv fun t e htm => ht t v (e ▸ hx) htm
  have hex : execOp a.eval o = execOp (fun x => (opv tm x).getD undef) o := execOp_congr o hs hev
  unfold Oper.wp
  rw [hex]
  unfold evalOp at h h0 hK
  simp only [hall, if_true] at h h0 hK
  cases hk : an.kind with
  | pure =>
    rw [hk] at hK
    simp only [hk] at h0 hK
    split at h0
    · rename_i v hv
      cases h0
      obtain ⟨e1, e2, _⟩ := over_v hp0
      rw [arp_run hv]
      have := hK ⟨0, none, 0⟩ (over an.ov v []) w (by rw [hv]) (grown_refl w none)
      rw [e1] at this
      exact this
    · cases h0
  | read e =>
    rw [hk] at he
    simp only [hk] at h0 hK
    split at h0
    · rename_i t x c ho hc
      split at h0
      · rename_i v ps hl
        cases h0
        obtain ⟨e1, e2, e3⟩ := over_v hp0
        have hr := evLoad_run hl e3 (he e c (by simp [Kind.acc]) hc)
        have : (execOp (fun x => (opv tm x).getD undef) o).run P w = .ok (.value v) w := by
          unfold execOp
          simp only [ho, Sem.run_bind, hr, Result.andThen_ok, Sem.run_pure]
        rw [this]
        have := hK ⟨0, none, 0⟩ _ w (by rw [ho, hc]; simp only; rw [hl]) (grown_refl w none)
        rw [e1] at this
        exact this
      · cases h0
    · cases h0
  | write e =>
    rw [hk] at he
    simp only [hk] at h0 hK
    split at h0
    · rename_i t x y c ho hc
      split at h0
      · rename_i c' ps hl
        cases h0
        obtain ⟨w', hr, r1, r2, r3, r4, r5⟩ := evStore_run hl hp0 (he e c (by simp [Kind.acc]) hc)
        have : (execOp (fun x => (opv tm x).getD undef) o).run P w = .ok .skip w' := by
          unfold execOp
          simp only [ho, Sem.run_bind, hr, Result.andThen_ok, Sem.run_pure]
        rw [this]
        exact hK ⟨0, none, 0⟩ _ w' (by rw [ho, hc]; simp only; rw [hl]) ⟨c, c', hc, rfl, r2, r3, r4, fun k hk => .inl (by rw [← r1]; exact hk), r5⟩
      · cases h0
    · cases h0
  | new =>
    simp only [hk] at h0 hK
    split at h0
    · rename_i v c hv
      cases h0
      obtain ⟨ob, hr, r1, r2, r3⟩ := arn_run hv
      rw [hr]
      exact hK ⟨w.heap.size, none, 0⟩ _ _ (by rw [hv]) ⟨c, rfl, r3, r1, fun k hk => by rw [r2] at hk; cases hk; exact Nat.le_refl _, World.grownBy_alloc w ob none⟩
    · cases h0
  | idx =>
    simp only [hk] at h0 hK
    split at h0
    · rename_i t x i ho
      split at h0
      · rename_i v ps hl
        cases h0
        obtain ⟨e1, e2, e3⟩ := over_v hp0
        have hr := evIdx_run hl e3 w
        have : (execOp (fun x => (opv tm x).getD undef) o).run P w = .ok (.value v) w := by
          unfold execOp
          simp only [ho, Sem.run_bind, hr, Result.andThen_ok, Sem.run_pure]
        rw [this]
        have := hK ⟨0, none, 0⟩ _ w (by rw [ho]; simp only; rw [hl]) (grown_refl w none)
        rw [e1] at this
        exact this
      · cases h0
    · cases h0
  | sem v =>
    simp only [hk] at h0 hK
    split at h0
    · rename_i s hso
      cases h0
      rw [semOf_run hso hp0.1 w]
      exact hK ⟨0, none, 0⟩ _ w (by rw [hso]) (grown_refl w none)
    · cases h0
  | app e f =>
    rw [hk] at he
    simp only [hk] at h h0 hK
    split at h0
    · rename_i s x t t' c c' hap hc hc'
      have ho1 := appOf_eq hap
      obtain ⟨hkey, hmine, hhold⟩ := rowOf_ok P c
      have hc2 := hhold w (he e c (by simp [Kind.acc]) hc)
      obtain ⟨c2, hrow⟩ : ∃ c2, rowOf P c = c2 := ⟨_, rfl⟩
      rw [hrow] at hkey hmine hc2 h0
      unfold evApp at h0
      split at h0
      · rename_i a0 n cap g off m cp a' n' cap' size xs T hsv hxv
        split at h0
        · rename_i el i g' cs hu hi hvw
          cases h0
          obtain ⟨p1, p2, p3, p4, p5, p6, p7, p8, p9, p10, p11, p12, p13, _⟩ := hp0
          subst p1 p2 p3 p4 p5 p6
          obtain ⟨z, hz, hz2⟩ := Option.map_eq_some_iff.1 p8
          have hown : w.ownsRow 0 el size (.slice a0 n cap) n xs := hc2
          have hcel := he f _ (by simp [Kind.acc]) hc'
          obtain ⟨v', w', r1, r2, r3, r4⟩ := run_append_mine (P := P) (ty := o.type) hu hi hz p7 rfl hz2 p9 hown (a := ⟨g, off, none⟩) (m := m) (c := cp) (news := (cs.drop off).take (m * size)) (by simp; omega)
            (fun j u hj => by
              have hadd : (⟨g, off, none⟩ : Addr).add j = ⟨g, off + j, none⟩ := by unfold Addr.add; split <;> simp_all
              rw [hadd]
              refine Cel.view_cell hvw hcel ?_
              rw [List.getElem?_take] at hj
              split at hj
              · rw [List.getElem?_drop] at hj; exact hj
              · cases hj) p11 p12 p13
          have : (execOp (fun x => (opv tm x).getD undef) o).run P w = .ok (.value v') w' := by
            unfold execOp
            simp only [ho1, resolve, invoke, builtin, Sem.run_bind, Sem.run_pure, Result.andThen_ok, List.map_toArray, List.map_cons, List.map_nil, hsv, hxv, r1]
          rw [this]
          obtain ⟨a2, c2, hv'⟩ : ∃ a2 c2, v' = .slice a2 (n + m) c2 := by
            rcases r2.2 with ⟨q1, q2⟩ | ⟨g2, cap2, cur, q1, _⟩
            · exact ⟨none, 0, by rw [q1, q2]⟩
            · exact ⟨_, _, q1⟩
          subst hv'
          have key : ∀ out, out.v = .slice a2 (n + m) c2 → out.ent = some (.row a2 (n + m) c2 size (xs ++ (cs.drop off).take (m * size)) el true) → effect (.app e f) ent out w w' := by
            intro out _ h2
            refine ⟨_, _, hc, h2, by rw [← hmine]; rfl, rfl, r2, ?_, ?_⟩
            all_goals rw [← hkey]
            · intro k hk
              have hk2 : (Value.slice a2 (n + m) c2).ownBlock = some k := by cases a2 <;> (simp [Cel.key, Value.ownBlock] at hk ⊢ <;> exact hk)
              refine (r4 k hk2).imp (fun q => ?_) id
              cases a0 <;> (simp [Cel.key, Value.ownBlock] at q ⊢ <;> exact q)
            · have : (Cel.row a0 n cap size xs el true).key = (Value.slice a0 n cap).ownBlock := by cases a0 <;> rfl
              rw [this]; exact r3
          obtain ⟨out1, o1, _⟩ := h ⟨0, a2, c2⟩
          have o2 := o1
          rw [hap, hc, hc'] at o2
          simp only [hrow] at o2
          simp only [evApp, hsv, hxv, hu, hi, hvw, Option.some.injEq] at o2
          have := hK ⟨0, a2, c2⟩ out1 w' o1 (key out1 (by rw [← o2]) (by rw [← o2]))
          rw [← o2] at this
          exact this
        · rename_i el i hu hi hvw
          split at h0
          case h_2 => cases h0
          rename_i g' o' cs
          cases h0
          obtain ⟨p1, p2, p3, p4, p5, p6, p7, p8, p9, ⟨p10', p10⟩, p11, p12, p13, _⟩ := hp0
          subst p1 p2 p3 p4 p5 p6 p10'
          obtain ⟨z, hz, hz2⟩ := Option.map_eq_some_iff.1 p8
          have hown : w.ownsRow 0 el size (.slice a0 n cap) n xs := hc2
          have hcel := he f _ (by simp [Kind.acc]) hc'
          obtain ⟨v', w', r1, r2, r3, r4⟩ := run_append_mine (P := P) (ty := o.type) hu hi hz p7 rfl hz2 p9 hown (a := ⟨g, off, none⟩) (m := m) (c := cp) (news := cs.take (m * size)) (by simp; omega)
            (fun j u hj => by
              have hadd : (⟨g, off, none⟩ : Addr).add j = ⟨g, off + j, none⟩ := by unfold Addr.add; split <;> simp_all
              rw [hadd]
              refine hcel.2 j u ?_
              rw [List.getElem?_take] at hj
              split at hj
              · exact hj
              · cases hj) p11 p12 p13
          have : (execOp (fun x => (opv tm x).getD undef) o).run P w = .ok (.value v') w' := by
            unfold execOp
            simp only [ho1, resolve, invoke, builtin, Sem.run_bind, Sem.run_pure, Result.andThen_ok, List.map_toArray, List.map_cons, List.map_nil, hsv, hxv, r1]
          rw [this]
          obtain ⟨a2, c2, hv'⟩ : ∃ a2 c2, v' = .slice a2 (n + m) c2 := by
            rcases r2.2 with ⟨q1, q2⟩ | ⟨g2, cap2, cur, q1, _⟩
            · exact ⟨none, 0, by rw [q1, q2]⟩
            · exact ⟨_, _, q1⟩
          subst hv'
          have key : ∀ out, out.v = .slice a2 (n + m) c2 → out.ent = some (.row a2 (n + m) c2 size (xs ++ cs.take (m * size)) el true) → effect (.app e f) ent out w w' := by
            intro out _ h2
            refine ⟨_, _, hc, h2, by rw [← hmine]; rfl, rfl, r2, ?_, ?_⟩
            all_goals rw [← hkey]
            · intro k hk
              have hk2 : (Value.slice a2 (n + m) c2).ownBlock = some k := by cases a2 <;> (simp [Cel.key, Value.ownBlock] at hk ⊢ <;> exact hk)
              refine (r4 k hk2).imp (fun q => ?_) id
              cases a0 <;> (simp [Cel.key, Value.ownBlock] at q ⊢ <;> exact q)
            · have : (Cel.row a0 n cap size xs el true).key = (Value.slice a0 n cap).ownBlock := by cases a0 <;> rfl
              rw [this]; exact r3
          obtain ⟨out1, o1, _⟩ := h ⟨0, a2, c2⟩
          have o2 := o1
          rw [hap, hc, hc'] at o2
          simp only [hrow] at o2
          simp only [evApp, hsv, hxv, hu, hi, hvw, Option.some.injEq] at o2
          have := hK ⟨0, a2, c2⟩ out1 w' o1 (key out1 (by rw [← o2]) (by rw [← o2]))
          rw [← o2] at this
          exact this
        · cases h0
      · cases h0
    · cases h0
  | call es v =>
    rw [hk] at he
    simp only [hk] at h0 hK
    split at h0
    · rename_i f args cs h1 h3
      cases h0
      rw [arp_run h1]
      show Calls P f args w _
      refine (hp0.1 w (ents_holds h3 fun e c hm hc => he e c (by simpa [Kind.acc] using hm) hc)).mono ?_
      rintro r w' ⟨rfl, hb⟩
      exact hK ⟨0, none, 0⟩ ⟨v, none, _⟩ w' (by rw [h1, h3]) (grown_of_below hb)
    · cases h0
  | callN es v c =>
    rw [hk] at he
    simp only [hk] at h0 hK
    split at h0
    · rename_i f args cs h1 h3
      cases h0
      rw [arp_run h1]
      show Calls P f args w _
      refine (hp0.1 w (ents_holds h3 fun e c hm hc => he e c (by simpa [Kind.acc] using hm) hc)).mono ?_
      rintro r w' ⟨l, rfl, q1, q2, q3, hb⟩
      exact hK l ⟨v l, some (c l), _⟩ w' (by rw [h1, h3]) ⟨c l, rfl, q2, q1, q3, grown_of_below hb⟩
    · cases h0
  | callW e0 es v c =>
    rw [hk] at he
    simp only [hk] at h0 hK
    split at h0
    · rename_i f args c0 cs h1 h2 h3
      cases h0
      rw [arp_run h1]
      show Calls P f args w _
      refine (hp0.2.1 w (he e0 c0 (by simp [Kind.acc]) h2) (ents_holds h3 fun e c hm hc => he e c (by simp [Kind.acc, hm]) hc)).mono ?_
      rintro r w' ⟨l, rfl, q1, q2, q3, hb⟩
      exact hK l ⟨v l, some (c l), _⟩ w' (by rw [h1, h2, h3]) ⟨c0, c l, h2, rfl, hp0.1, q2, q1, q3, hb⟩
    · cases h0
theorem evalG_sound {P : Program} {ops : Array Oper} {o : Oper} {i : Nat} {an : Ann} {tm : Tmp → Option Value} {ent : Nat → Option Cel} {a : Act} {w : World} {K : Act → World → Prop} {Q : Exit → Act → World → Prop}
    (hi : ops[i]? = some o) (h : ∀ l, ∃ out, evalG P ops o an tm ent l = some out ∧ AllP out.ps) (hs : ∀ cs b, o.op ≠ .select cs b)
    (ht : ∀ t v, t ∈ o.looksAt ops → tm t = some v → a.tmps[t]? = some v) (he : ∀ e c, e ∈ an.kind.acc → ent e = some c → c.holds w)
    (hK : ∀ l out w', evalG P ops o an tm ent l = some out → effect an.kind ent out w w' → K (a.put o.dst out.v) w') : wpOp P ops Q i K a w := by
  have ht1 : ∀ t v, .tmp t ∈ o.op.operands → tm t = some v → a.tmps[t]? = some v := fun t v hm => ht t v (by
    unfold Oper.looksAt
    exact List.mem_append_left _ (List.mem_filterMap.2 ⟨.tmp t, by simpa using hm, rfl⟩))
  unfold wpOp
  simp only [hi]
  unfold evalG at h hK
  cases hg : o.guard with
  | none =>
    simp only [hg] at h hK
    rw [show Region.wanted o (yielded ops a.tmps) = true by simp [Region.wanted, hg], if_pos rfl]
    exact .inl (evalOp_sound h hs ht1 he hK)
  | some gw =>
    obtain ⟨g, want⟩ := gw
    simp only [hg] at h hK
    have hy : ∀ u, ((ops[g]?).bind (·.dst)).bind tm = some u → yielded ops a.tmps g = match u with | .bool b => some b | _ => none := by
      intro u hu
      unfold yielded
      cases hd : (ops[g]?).bind (·.dst) with
      | none => rw [hd] at hu; cases hu
      | some d =>
        rw [hd] at hu
        have h1 : a.tmps[d]? = some u := ht d u (by
          unfold Oper.looksAt
          refine List.mem_append_right _ ?_
          simp [hg, hd]) hu
        simp only [Option.bind_some, h1]
        cases u <;> rfl
    cases hu : ((ops[g]?).bind (·.dst)).bind tm with
    | none => rw [hu] at h; obtain ⟨out, h1, _⟩ := h ⟨0, none, 0⟩; cases h1
    | some u =>
      have hy1 := hy u hu
      rw [hu] at h hK
      by_cases hb : ∃ b, u = .bool b
      · obtain ⟨b, rfl⟩ := hb
        simp only at hy1 h hK
        by_cases ht : an.taken = true
        · simp only [ht, if_true] at h hK
          have hb1 : b = want := by
            obtain ⟨out, h1, h2⟩ := h ⟨0, none, 0⟩
            obtain ⟨x, hx, rfl⟩ := Option.map_eq_some_iff.1 h1
            exact h2.1
          rw [show Region.wanted o (yielded ops a.tmps) = true by simp [Region.wanted, hg, hy1, hb1], if_pos rfl]
          refine .inl (evalOp_sound (fun l => ?_) hs ht1 he fun l x w' hx hw => ?_)
          · obtain ⟨out, h1, h2⟩ := h l
            obtain ⟨x, hx, rfl⟩ := Option.map_eq_some_iff.1 h1
            exact ⟨x, hx, h2.2⟩
          · exact hK l { x with ps := (b = want) :: x.ps } w' (by rw [hx]; rfl) (by revert hw; unfold effect; split <;> exact id)
        · simp only [ht, Bool.false_eq_true, if_false] at h hK
          cases hk : an.kind with
          | pure =>
            simp only [hk] at h hK
            obtain ⟨out, h1, h2⟩ := h ⟨0, none, 0⟩
            cases h1
            have p1 := h2.1
            rw [show Region.wanted o (yielded ops a.tmps) = false by simp [Region.wanted, hg, hy1, p1], if_neg (by simp)]
            exact hK ⟨0, none, 0⟩ _ w rfl (grown_refl w none)
          | _ => simp only [hk] at h; obtain ⟨out, h1, _⟩ := h ⟨0, none, 0⟩; cases h1
      · have hy2 : yielded ops a.tmps g = none := by
          rw [hy1]
          cases u with
          | bool b => exact absurd ⟨b, rfl⟩ hb
          | _ => rfl
        have e1 : ∀ l, (match (some u : Option Value) with
            | some (.bool b) => if an.taken then (evalOp P o an tm ent l).map fun x => { x with ps := (b = want) :: x.ps } else match an.kind with | .pure => some ⟨undef, none, [b = !want]⟩ | _ => none
            | some _ => match an.kind with | .pure => some ⟨undef, none, []⟩ | _ => none
            | none => none : Option Out) = match an.kind with | .pure => some ⟨undef, none, []⟩ | _ => none := by
          intro l
          cases u with
          | bool b => exact absurd ⟨b, rfl⟩ hb
          | _ => rfl
        cases hk : an.kind with
        | pure =>
          rw [show Region.wanted o (yielded ops a.tmps) = false by simp [Region.wanted, hg, hy2], if_neg (by simp)]
          have e2 := e1 ⟨0, none, 0⟩
          rw [hk] at e2
          exact hK ⟨0, none, 0⟩ ⟨undef, none, []⟩ w (by rw [hk]; exact e2) (by rw [hk]; exact grown_refl w none)
        | _ => exfalso; obtain ⟨out, h1, _⟩ := h ⟨0, none, 0⟩; have e2 := e1 ⟨0, none, 0⟩; rw [e2, hk] at h1; cases h1
end Ag
end Go.Proofs.Ytlpjnhoafaamkaa
