/-
  REGIONS BY EVALUATION: in whatever order the edges allow.
-/
import Derived.Test.YtlpjnhoafaamkaaAgO
set_option linter.unusedVariables false
set_option linter.unusedSimpArgs false
namespace Go.Proofs.Ytlpjnhoafaamkaa
open Go Go.RowKit
namespace Ag

structure St where
  tm : List (Option Value)
  es : List Cel
  ds : List Nat
def marks (ds : List Nat) : List Deferred := ds.map fun D => { target := .collected D, args := #[] }

section
variable (P : Program) (ops : Array Oper) (anns : List Ann) (σ : St)
def dstOf (j : Nat) : Option Tmp := (ops[j]?).bind (·.dst)
def wtr (t : Tmp) : Option Nat := (List.range ops.size).find? fun j => dstOf ops j == some t
def Kind.wt (m j : Nat) (k : Kind) : Option Nat :=
  match k.mod with
  | some e => some e
  | none => if k.mk then some (m + j) else none
def wtOf (m j : Nat) : Option Nat := (anns[j]?).bind (·.kind.wt m j)
def lastW (D : Nat → Bool) (e : Nat) : Option Nat := (List.range ops.size).reverse.find? fun j => D j && wtOf anns σ.es.length j == some e
def tmD (D : Nat → Bool) (g : Nat → Option Out) (t : Tmp) : Option Value :=
  match wtr ops t with
  | some j => if D j then (g j).map (·.v) else (σ.tm[t]?).join
  | none => (σ.tm[t]?).join
def entD (D : Nat → Bool) (g : Nat → Option Out) (e : Nat) : Option Cel :=
  match lastW ops anns σ D e with
  | some j => (g j).bind (·.ent)
  | none => σ.es[e]?
def stepF (k : Nat) (g : Nat → Option Out) (l : Lt) : Option Out :=
  match ops[k]?, anns[k]? with
  | some o, some an => evalG P ops o an (tmD ops σ (an.B.contains ·) g) (entD ops anns σ (an.B.contains ·) g) l
  | _, _ => none
def outs (L : Nat → Lt) : Nat → List (Option Out)
  | 0 => []
  | k + 1 => outs L k ++ [stepF P ops anns σ k (fun j => (outs L k).getD j none) (L k)]
def O (L : Nat → Lt) (k : Nat) : Option Out := stepF P ops anns σ k (fun j => (outs P ops anns σ L k).getD j none) (L k)

/-- the checks of the told orders -/
def chk : Bool :=
  anns.length == ops.size && ops.size > 0 &&
  (List.range ops.size).all fun i =>
    match ops[i]?, anns[i]? with
    | some o, some an =>
      (match o.op with | .select .. | .defer .. => false | _ => true) &&
      (o.after.all fun e => !Region.binds .any e || e.on < i) &&
      (an.B.all fun k => k < i && o.after.any fun e => Region.binds .any e && (e.on == k || ((anns[e.on]?).map (·.B.contains k)).getD false)) &&
      (match o.dst with | some d => d < σ.tm.length && wtr ops d == some i | none => true) &&
      ((o.looksAt ops).all fun t => match wtr ops t with
        | some j => j == i || an.B.contains j || ((anns[j]?).map (·.B.contains i)).getD false
        | none => true) &&
      ((List.range ops.size).all fun j => j == i || an.B.contains j || ((anns[j]?).map (·.B.contains i)).getD false ||
        match wtOf anns σ.es.length j with
        | some e => !(an.kind.acc.contains e) && wtOf anns σ.es.length i != some e
        | none => true)
    | _, _ => false
end

section
variable {P : Program} {ops : Array Oper} {anns : List Ann} {σ : St}
theorem outs_length (L : Nat → Lt) : ∀ k, (outs P ops anns σ L k).length = k
  | 0 => rfl
  | k + 1 => by simp [outs, outs_length L k]
theorem get_outs (L : Nat → Lt) {j : Nat} : ∀ {k}, j < k → (outs P ops anns σ L k).getD j none = O P ops anns σ L j
  | 0, h => by omega
  | k + 1, h => by
    have hl := outs_length (P := P) (ops := ops) (anns := anns) (σ := σ) L k
    by_cases e : j = k
    · subst e
      simp [outs, O, List.getD_eq_getElem?_getD, List.getElem?_append_right (Nat.le_of_eq hl), hl]
    · have h2 := get_outs L (show j < k by omega)
      rw [← h2]
      simp [outs, List.getD_eq_getElem?_getD, List.getElem?_append_left (show j < (outs P ops anns σ L k).length by omega)]

theorem tmD_congr {D : Nat → Bool} {g g' : Nat → Option Out} (h : ∀ j, D j = true → g j = g' j) (t : Tmp) : tmD ops σ D g t = tmD ops σ D g' t := by
  unfold tmD
  split
  · split
    · rename_i hd; rw [h _ hd]
    · rfl
  · rfl
theorem lastW_spec {D : Nat → Bool} {e j : Nat} (h : lastW ops anns σ D e = some j) : D j = true ∧ wtOf anns σ.es.length j = some e := by
  have := List.find?_some h
  simpa using this
theorem entD_congr {D : Nat → Bool} {g g' : Nat → Option Out} (h : ∀ j, D j = true → g j = g' j) (e : Nat) : entD ops anns σ D g e = entD ops anns σ D g' e := by
  unfold entD
  split
  · rename_i j hj; rw [h _ (lastW_spec hj).1]
  · rfl
theorem stepF_congr {k : Nat} {g g' : Nat → Option Out} {l : Lt} (h : ∀ an : Ann, anns[k]? = some an → ∀ j ∈ an.B, g j = g' j) : stepF P ops anns σ k g l = stepF P ops anns σ k g' l := by
  unfold stepF
  split
  · rename_i o an ho han
    have h' : ∀ j, an.B.contains j = true → g j = g' j := fun j hj => h an han j (by simpa using hj)
    rw [show tmD ops σ (an.B.contains ·) g = tmD ops σ (an.B.contains ·) g' from funext (tmD_congr h'), show entD ops anns σ (an.B.contains ·) g = entD ops anns σ (an.B.contains ·) g' from funext (entD_congr h')]
  · rfl
structure Chk (ops : Array Oper) (anns : List Ann) (σ : St) : Prop where
  len : anns.length = ops.size
  sel : ∀ (i : Nat) (o : Oper), ops[i]? = some o → ∀ cs b, o.op ≠ .select cs b
  dfr : ∀ (i : Nat) (o : Oper), ops[i]? = some o → ∀ c, o.op ≠ .defer c
  aft : ∀ (i : Nat) (o : Oper), ops[i]? = some o → ∀ e ∈ o.after, Region.binds .any e = true → e.on < i
  lt : ∀ (i : Nat) (an : Ann), anns[i]? = some an → ∀ k ∈ an.B, k < i
  pre : ∀ (i : Nat) (o : Oper) (an : Ann), ops[i]? = some o → anns[i]? = some an → ∀ k ∈ an.B, ∃ e ∈ o.after, Region.binds .any e = true ∧ (e.on = k ∨ ∃ an' : Ann, anns[e.on]? = some an' ∧ k ∈ an'.B)
  dst : ∀ (i : Nat) (o : Oper) (d : Tmp), ops[i]? = some o → o.dst = some d → d < σ.tm.length ∧ wtr ops d = some i
  tmps : ∀ (i : Nat) (o : Oper) (an : Ann) (t : Tmp) (j : Nat), ops[i]? = some o → anns[i]? = some an → t ∈ o.looksAt ops → wtr ops t = some j → j = i ∨ j ∈ an.B ∨ ∃ an' : Ann, anns[j]? = some an' ∧ i ∈ an'.B
  mem : ∀ (i j : Nat) (an : Ann) (e : Nat), anns[i]? = some an → i < ops.size → j < ops.size → wtOf anns σ.es.length j = some e → (e ∈ an.kind.acc ∨ wtOf anns σ.es.length i = some e) → j = i ∨ j ∈ an.B ∨ ∃ an' : Ann, anns[j]? = some an' ∧ i ∈ an'.B
theorem Chk.of (h : chk ops anns σ = true) : Chk ops anns σ := by
  unfold chk at h
  simp only [Bool.and_eq_true, beq_iff_eq, List.all_eq_true, List.mem_range] at h
  obtain ⟨⟨h0, _⟩, h⟩ := h
  have key : ∀ (i : Nat) (o : Oper) (an : Ann), ops[i]? = some o → anns[i]? = some an → _ := fun i o an ho han => by
    have := h i (Array.getElem?_eq_some_iff.1 ho).1
    rw [ho, han] at this
    simp only [Bool.and_eq_true] at this
    exact this
  have lk : ∀ (i : Nat) (o : Oper), ops[i]? = some o → ∃ an, anns[i]? = some an := fun i o ho => by
    have hi := (Array.getElem?_eq_some_iff.1 ho).1
    exact ⟨_, List.getElem?_eq_getElem (by omega)⟩
  have kl : ∀ (i : Nat) (an : Ann), anns[i]? = some an → ∃ o, ops[i]? = some o := fun i an han => by
    have hi := (List.getElem?_eq_some_iff.1 han).1
    exact ⟨_, Array.getElem?_eq_getElem (by omega)⟩
  have cont : ∀ j k : Nat, ((anns[j]?).map (fun x : Ann => x.B.contains k)).getD false = true → ∃ an' : Ann, anns[j]? = some an' ∧ k ∈ an'.B := by
    intro j k hh
    cases hj : anns[j]? with
    | none => rw [hj] at hh; cases hh
    | some an' => rw [hj] at hh; exact ⟨an', rfl, by simpa using hh⟩
  refine ⟨h0, ?_, ?_, ?_, ?_, ?_, ?_, ?_, ?_⟩
  · intro i o ho cs b hs
    obtain ⟨an, han⟩ := lk i o ho
    have := (key i o an ho han).1.1.1.1.1
    rw [hs] at this
    cases this
  · intro i o ho c hs
    obtain ⟨an, han⟩ := lk i o ho
    have := (key i o an ho han).1.1.1.1.1
    rw [hs] at this
    cases this
  · intro i o ho e he hb
    obtain ⟨an, han⟩ := lk i o ho
    have := (Array.all_eq_true_iff_forall_mem.1 (key i o an ho han).1.1.1.1.2) e he
    simp [hb] at this
    exact this
  · intro i an han k hk
    obtain ⟨o, ho⟩ := kl i an han
    have := (List.all_eq_true.1 (key i o an ho han).1.1.1.2) k hk
    simp only [Bool.and_eq_true, decide_eq_true_eq] at this
    exact this.1
  · intro i o an ho han k hk
    have := (List.all_eq_true.1 (key i o an ho han).1.1.1.2) k hk
    simp only [Bool.and_eq_true, decide_eq_true_eq] at this
    obtain ⟨e, he, hb⟩ := List.any_eq_true.1 (Array.any_toList.symm ▸ this.2 : o.after.toList.any _ = true)
    have he := Array.mem_toList_iff.1 he
    simp only [Bool.and_eq_true, Bool.or_eq_true, beq_iff_eq] at hb
    exact ⟨e, he, hb.1, hb.2.imp id (cont _ _)⟩
  · intro i o d ho hd
    obtain ⟨an, han⟩ := lk i o ho
    have := (key i o an ho han).1.1.2
    rw [hd] at this
    simpa using this
  · intro i o an t j ho han ht hw
    have := (List.all_eq_true.1 (key i o an ho han).1.2) t ht
    rw [hw] at this
    simp only [Bool.or_eq_true, beq_iff_eq] at this
    rcases this with (h1 | h1) | h1
    · exact .inl h1
    · exact .inr (.inl (by simpa using h1))
    · exact .inr (.inr (cont _ _ h1))
  · intro i j an e han hi hj hw ha
    obtain ⟨o, ho⟩ := kl i an han
    have := (List.all_eq_true.1 (key i o an ho han).2) j (by simpa using hj)
    rw [hw] at this
    simp only [Bool.or_eq_true, beq_iff_eq] at this
    rcases this with ((h1 | h1) | h1) | h1
    · exact .inl h1
    · exact .inr (.inl (by simpa using h1))
    · exact .inr (.inr (cont _ _ h1))
    · exfalso
      simp only [Bool.and_eq_true, Bool.not_eq_true', bne_iff_ne, ne_eq] at h1
      rcases ha with ha | ha
      · have : an.kind.acc.contains e = true := by simpa using ha
        rw [h1.1] at this
        cases this
      · exact h1.2 ha
theorem O_eq (C : Chk ops anns σ) (L : Nat → Lt) (k : Nat) : O P ops anns σ L k = stepF P ops anns σ k (O P ops anns σ L) (L k) :=
  stepF_congr fun an han j hj => get_outs L (C.lt k an han j hj)
/-- what is made of L hangs on what has been done alone -/
theorem O_dep (C : Chk ops anns σ) {D : Nat → Bool} {L L' : Nat → Lt} (hD : ∀ (j : Nat) (an : Ann), D j = true → anns[j]? = some an → ∀ k ∈ an.B, D k = true) (hL : ∀ j, D j = true → L j = L' j) :
    ∀ k, D k = true → O P ops anns σ L k = O P ops anns σ L' k := by
  intro k
  induction k using Nat.strongRecOn with
  | _ k ih =>
    intro hk
    rw [O_eq C, O_eq C, hL k hk]
    exact stepF_congr fun an han j hj => ih j (C.lt k an han j hj) (hD k an hk han j hj)

/-- the memory of a walk -/
structure Sim (w0 : World) (σ : St) (a : Act) (w : World) : Prop where
  def0 : a.defers = marks σ.ds
  size : a.tmps.size = σ.tm.length
  tm : ∀ (t : Nat) (v : Value), σ.tm[t]? = some (some v) → a.tmps[t]? = some v
  holds : ∀ (e : Nat) (c : Cel), σ.es[e]? = some c → c.holds w
  apart : ∀ (e e' : Nat) (c c' : Cel), σ.es[e]? = some c → σ.es[e']? = some c' → e ≠ e' → c.mine = true → ∀ k, c.key = some k → c'.key ≠ some k
  own : ∀ (e : Nat) (c : Cel), σ.es[e]? = some c → c.mine = true → ∀ k, c.key = some k → w0.heap.size ≤ k
  bel : Below w0.heap.size w0 w
structure Inv (P : Program) (ops : Array Oper) (anns : List Ann) (σ : St) (w0 : World) (D : Nat → Bool) (L : Nat → Lt) (a : Act) (w : World) : Prop where
  def0 : a.defers = marks σ.ds
  size : a.tmps.size = σ.tm.length
  tm : ∀ (t : Nat) (v : Value), tmD ops σ D (O P ops anns σ L) t = some v → a.tmps[t]? = some v
  holds : ∀ (e : Nat) (c : Cel), entD ops anns σ D (O P ops anns σ L) e = some c → c.holds w
  apart : ∀ (e e' : Nat) (c c' : Cel), entD ops anns σ D (O P ops anns σ L) e = some c → entD ops anns σ D (O P ops anns σ L) e' = some c' → e ≠ e' → c.mine = true → ∀ k, c.key = some k → c'.key ≠ some k
  own : ∀ (e : Nat) (c : Cel), entD ops anns σ D (O P ops anns σ L) e = some c → c.mine = true → ∀ k, c.key = some k → w0.heap.size ≤ k
  bel : Below w0.heap.size w0 w
theorem lastW_none {D : Nat → Bool} (h : ∀ j, D j = false) (e : Nat) : lastW ops anns σ D e = none := by
  unfold lastW
  rw [List.find?_eq_none]
  intro j _
  simp [h j]
theorem Inv.start {w0 : World} {a : Act} {w : World} {D : Nat → Bool} (h : Sim w0 σ a w) (hD : ∀ j, D j = false) (L : Nat → Lt) : Inv P ops anns σ w0 D L a w := by
  have e1 : ∀ e, entD ops anns σ D (O P ops anns σ L) e = σ.es[e]? := fun e => by unfold entD; rw [lastW_none hD]
  have e2 : ∀ t, tmD ops σ D (O P ops anns σ L) t = (σ.tm[t]?).join := fun t => by
    unfold tmD
    split
    · rename_i j _; rw [if_neg (by simp [hD j])]
    · rfl
  refine ⟨h.def0, h.size, ?_, ?_, ?_, ?_, h.bel⟩
  · intro t v hv
    rw [e2] at hv
    refine h.tm t v ?_
    cases hh : σ.tm[t]? with
    | none => rw [hh] at hv; cases hv
    | some x => rw [hh] at hv; simp at hv; rw [hv]
  · intro e c hc; rw [e1] at hc; exact h.holds e c hc
  · intro e e' c c' hc hc' hne hm; rw [e1] at hc hc'; exact h.apart e e' c c' hc hc' hne hm
  · intro e c hc ho; rw [e1] at hc; exact h.own e c hc ho
theorem find_congr' {α : Type} {p q : α → Bool} : ∀ {l : List α}, (∀ x ∈ l, p x = q x) → l.find? p = l.find? q
  | [], _ => rfl
  | x :: l, h => by
    simp only [List.find?_cons]
    rw [h x (by simp), find_congr' fun y hy => h y (List.mem_cons_of_mem _ hy)]
theorem lastW_congr {D D' : Nat → Bool} {e : Nat} (h : ∀ j, j < ops.size → wtOf anns σ.es.length j = some e → D j = D' j) : lastW ops anns σ D e = lastW ops anns σ D' e := by
  unfold lastW
  refine find_congr' fun j hj => ?_
  by_cases hw : wtOf anns σ.es.length j = some e
  · rw [h j (by simpa using hj) hw]
  · have : (wtOf anns σ.es.length j == some e) = false := by simpa using hw
    rw [this, Bool.and_false, Bool.and_false]
theorem lastW_max {D : Nat → Bool} {e i : Nat} (hi : i < ops.size) (hD : D i = true) (hw : wtOf anns σ.es.length i = some e) (hmax : ∀ j, j < ops.size → D j = true → wtOf anns σ.es.length j = some e → j ≤ i) : lastW ops anns σ D e = some i := by
  cases h : lastW ops anns σ D e with
  | none =>
    unfold lastW at h
    rw [List.find?_eq_none] at h
    have := h i (by simpa using hi)
    simp [hD, hw] at this
  | some j =>
    obtain ⟨h1, h2⟩ := lastW_spec h
    have hj : j < ops.size := by
      have := List.mem_of_find?_eq_some h
      simpa using this
    have hle := hmax j hj h1 h2
    by_cases e1 : j = i
    · rw [e1]
    · exfalso
      unfold lastW at h
      obtain ⟨_, as, bs, hsplit, hno⟩ := List.find?_eq_some_iff_append.1 h
      have hmem : i ∈ as := by
        have hi' : i ∈ (List.range ops.size).reverse := by simpa using hi
        rw [hsplit] at hi'
        rcases List.mem_append.1 hi' with h3 | h3
        · exact h3
        · rcases List.mem_cons.1 h3 with h4 | h4
          · exact absurd h4.symm e1
          · exfalso
            have hp : (List.range ops.size).reverse.Pairwise (fun x y => y < x) := by
              rw [List.pairwise_reverse]; exact List.pairwise_lt_range
            rw [hsplit] at hp
            have := (List.pairwise_append.1 hp).2.1
            have := (List.pairwise_cons.1 this).1 i h4
            omega
      have := hno i hmem
      simp [hD, hw] at this
def upd (L : Nat → Lt) (i : Nat) (b : Lt) : Nat → Lt := fun j => if j = i then b else L j
/-- one operation more -/
theorem Inv.step {w0 w w' : World} {a : Act} {D : Nat → Bool} {L : Nat → Lt} {i : Nat} {o : Oper} {an : Ann} {out : Out} {l : Lt} (C : Chk ops anns σ) (I : Inv P ops anns σ w0 D L a w)
    (ho : ops[i]? = some o) (han : anns[i]? = some an) (hDi : D i = false) (hcl : ∀ (j : Nat) (an' : Ann), D j = true → anns[j]? = some an' → ∀ k ∈ an'.B, D k = true) (hB : ∀ k ∈ an.B, D k = true)
    (hO : O P ops anns σ (upd L i l) i = some out) (heff : effect an.kind (entD ops anns σ D (O P ops anns σ (upd L i l))) out w w') :
    Inv P ops anns σ w0 (fun j => D j || j == i) (upd L i l) (a.put o.dst out.v) w' := by
  have hi : i < ops.size := (Array.getElem?_eq_some_iff.1 ho).1
  generalize hL' : upd L i l = L' at *
  have hdep : ∀ j, D j = true → O P ops anns σ L j = O P ops anns σ L' j := O_dep C hcl (fun j hj => by
    rw [← hL']; unfold upd; rw [if_neg (by rintro rfl; rw [hDi] at hj; cases hj)])
  have eT : ∀ t, tmD ops σ D (O P ops anns σ L) t = tmD ops σ D (O P ops anns σ L') t := fun t => tmD_congr hdep t
  have eE : ∀ e, entD ops anns σ D (O P ops anns σ L) e = entD ops anns σ D (O P ops anns σ L') e := fun e => entD_congr hdep e
  have It := I.tm; have Ih := I.holds; have Ia := I.apart; have Io := I.own
  simp only [eT] at It
  simp only [eE] at Ih Ia Io
  clear eT eE
  -- other entries
  have eO : ∀ e, wtOf anns σ.es.length i ≠ some e → entD ops anns σ (fun j => D j || j == i) (O P ops anns σ L') e = entD ops anns σ D (O P ops anns σ L') e := by
    intro e hne
    unfold entD
    rw [lastW_congr (D := fun j => D j || j == i) (D' := D) fun j _ hw => by
      by_cases h : j = i
      · subst h; exact absurd hw hne
      · simp [h]]
  have eN : ∀ e, wtOf anns σ.es.length i = some e → entD ops anns σ (fun j => D j || j == i) (O P ops anns σ L') e = out.ent := by
    intro e hw
    unfold entD
    rw [lastW_max hi (by simp) hw fun j hj hDj hwj => by
      by_cases h : j = i
      · omega
      · have hDj' : D j = true := by simpa [h] using hDj
        rcases C.mem i j an e han hi hj hwj (.inr hw) with h1 | h1 | ⟨an', h1, h2⟩
        · omega
        · have := C.lt i an han j h1; omega
        · have := hcl j an' hDj' h1 i h2
          rw [hDi] at this; cases this]
    simp only [hO, Option.bind_some]
  have hwt : wtOf anns σ.es.length i = an.kind.wt σ.es.length i := by unfold wtOf; rw [han]; rfl
  -- every entry behind it: an old one as it was, or the one that is written or made
  have hx : ∀ x cx, entD ops anns σ (fun j => D j || j == i) (O P ops anns σ L') x = some cx →
      (wtOf anns σ.es.length i ≠ some x ∧ entD ops anns σ D (O P ops anns σ L') x = some cx ∧ cx.holds w') ∨
      (wtOf anns σ.es.length i = some x ∧ cx.holds w' ∧ cx.mine = true ∧ ∀ k, cx.key = some k → w.heap.size ≤ k ∨ ∃ c0, entD ops anns σ D (O P ops anns σ L') x = some c0 ∧ c0.mine = true ∧ c0.key = some k) := by
    intro x cx hcx
    by_cases hw : wtOf anns σ.es.length i = some x
    · rw [eN x hw] at hcx
      refine .inr ⟨hw, ?_⟩
      rw [hwt] at hw
      unfold effect at heff
      unfold Kind.wt at hw
      split at heff
      · rename_i _ e hm
        rw [hm] at hw
        simp only [Option.some.injEq] at hw
        subst hw
        obtain ⟨c, c', h1, h2, h3, h4, h5, h6, h7⟩ := heff
        rw [h2] at hcx
        cases hcx
        exact ⟨h5, h4, fun k hk => (h6 k hk).elim (fun q => .inr ⟨c, h1, h3, q⟩) .inl⟩
      · obtain ⟨c', h2, h3, h4, h5, h6⟩ := heff
        rw [h2] at hcx
        cases hcx
        exact ⟨h4, h3, fun k hk => .inl (h5 k hk)⟩
      · rename_i hm hk
        rw [hm, hk] at hw
        cases hw
    · have hcx' := hcx
      rw [eO x hw] at hcx'
      refine .inl ⟨hw, hcx', Cel.kept (Ih x cx hcx') fun k hk => ?_⟩
      have hlt := Cel.lt (Ih x cx hcx') hk
      rw [hwt] at hw
      unfold effect at heff
      unfold Kind.wt at hw
      split at heff
      · rename_i _ e hm
        rw [hm] at hw
        obtain ⟨c, c', h1, h2, h3, h4, h5, h6, h7⟩ := heff
        exact h7.block k hlt fun q => Ia e x c cx h1 hcx' (fun z => hw (by rw [z])) h3 k q.symm hk
      · obtain ⟨c', h2, h3, h4, h5, h6⟩ := heff
        exact h6.block k hlt (by simp)
      · exact heff.block k hlt (by simp)
  refine ⟨by cases hd : o.dst <;> simpa [Act.put] using I.def0, by cases hd : o.dst <;> simpa [Act.put] using I.size, ?_, ?_, ?_, ?_, ?_⟩
  · intro t v hv
    have hput : ∀ u, o.dst ≠ some t → a.tmps[t]? = some u → (a.put o.dst out.v).tmps[t]? = some u := by
      intro u hne hu
      cases hd : o.dst with
      | none => simpa [Act.put] using hu
      | some d =>
        have : d ≠ t := fun e => hne (by rw [hd, e])
        simp [Act.put, Array.getElem?_setIfInBounds_ne this, hu]
    unfold tmD at hv
    split at hv
    · rename_i j hj
      by_cases h : j = i
      · subst h
        simp only [beq_self_eq_true, Bool.or_true, if_true, hO, Option.map_some, Option.some.injEq] at hv
        subst hv
        have hd : o.dst = some t := by
          have := List.find?_some hj
          simpa [dstOf, ho] using this
        have := (C.dst j o t ho hd).1
        rw [hd]
        simp [Act.put, I.size, this]
      · have hne : o.dst ≠ some t := fun e => by
          have := (C.dst i o t ho e).2
          rw [hj] at this; exact h (by simpa using this)
        refine hput v hne (It t v ?_)
        unfold tmD
        rw [hj]
        simpa [h] using hv
    · rename_i hj
      have hne : o.dst ≠ some t := fun e => by
        have := (C.dst i o t ho e).2
        rw [hj] at this; cases this
      refine hput v hne (It t v ?_)
      unfold tmD
      rw [hj]
      exact hv
  · intro e c hc
    rcases hx e c hc with h | h
    · exact h.2.2
    · exact h.2.1
  · intro e e' c c' hc hc' hne hmi k hk hk'
    rcases hx e c hc with ⟨a1, a2, a3⟩ | ⟨a1, a2, a3, a4⟩ <;> rcases hx e' c' hc' with ⟨b1, b2, b3⟩ | ⟨b1, b2, b3, b4⟩
    · exact Ia e e' c c' a2 b2 hne hmi k hk hk'
    · rcases b4 k hk' with q | ⟨c0, q1, q2, q3⟩
      · have := Cel.lt (Ih e c a2) hk; omega
      · exact Ia e e' c c0 a2 q1 hne hmi k hk q3
    · rcases a4 k hk with q | ⟨c0, q1, q2, q3⟩
      · have := Cel.lt (Ih e' c' b2) hk'; omega
      · exact Ia e e' c0 c' q1 b2 hne q2 k q3 hk'
    · rw [a1] at b1; exact hne (by simpa using b1)
  · intro e c hc hown k hk
    rcases hx e c hc with ⟨a1, a2, a3⟩ | ⟨a1, a2, a3, a4⟩
    · exact Io e c a2 hown k hk
    · rcases a4 k hk with q | ⟨c0, q1, q2, q3⟩
      · have := I.bel.size; omega
      · exact Io e c0 q1 q2 k q3
  · have hgr : ∀ r, w.grownBy w' r → (∀ k, r = some k → w0.heap.size ≤ k) → Below w0.heap.size w0 w' := fun r hg hr => I.bel.grown hg I.bel.size hr
    unfold effect at heff
    split at heff
    · obtain ⟨c, c', h1, h2, h3, h4, h5, h6, h7⟩ := heff
      exact hgr _ h7 fun k hk => Io _ c h1 h3 k hk
    · obtain ⟨c', h2, h3, h4, h5, h6⟩ := heff
      exact hgr _ h6 fun k hk => by cases hk
    · exact hgr _ heff fun k hk => by cases hk
/-- what has not been done -/
def undn (l : Array Bool) : Nat := l.toList.count false
theorem undn_set {l : Array Bool} {i : Nat} (h : l.getD i true = false) : undn (l.setIfInBounds i true) + 1 = undn l := by
  have h2 : i < l.size := by
    rcases Nat.lt_or_ge i l.size with h2 | h2
    · exact h2
    · simp [Array.getElem?_eq_none h2] at h
  have h3 : l[i] = false := by simpa [h2] using h
  unfold undn
  rw [Array.toList_setIfInBounds, List.count_set (by simpa using h2)]
  have h4 : l.toList[i]'(by simpa using h2) = false := by simpa using h3
  have h5 : 0 < l.toList.count false := List.count_pos_iff.2 (by rw [← h4]; exact List.getElem_mem _)
  rw [h4]
  have h6 : 0 < Array.count false l := by rw [← Array.count_toList]; exact h5
  simp
  omega
theorem undn_zero {l : Array Bool} (h : undn l = 0) {i : Nat} (hi : i < l.size) : l.getD i false = true := by
  have h1 : false ∉ l.toList := fun hm => by have := List.count_pos_iff.2 hm; unfold undn at h; omega
  cases hb : l[i] with
  | true => simp [hi, hb]
  | false => exact absurd (by rw [← hb]; simp) h1
/-- where nothing may come up all has come up -/
theorem all_done (C : Chk ops anns σ) {l : Array Bool} (hl : l.size = ops.size) (h : Region.ready .any ops l = []) : ∀ i, i < ops.size → l.getD i false = true := by
  intro i
  induction i using Nat.strongRecOn with
  | _ i ih =>
    intro hi
    cases hb : l.getD i false with
    | true => rfl
    | false =>
      exfalso
      have hm : i ∈ Region.ready .any ops l := by
        refine mem_ready.2 ⟨?_, ops[i], Array.getElem?_eq_getElem hi, fun e he hbd => ?_⟩
        · simp [show i < l.size by omega] at hb ⊢; exact hb
        · have := C.aft i _ (Array.getElem?_eq_getElem hi) e he hbd
          exact ih e.on this (by omega)
      rw [h] at hm
      cases hm
def Ok (P : Program) (ops : Array Oper) (anns : List Ann) (σ : St) : Prop := ∀ L k, k < ops.size → ∃ out, O P ops anns σ L k = some out ∧ AllP out.ps
theorem tm_step (C : Chk ops anns σ) {D : Nat → Bool} {g : Nat → Option Out} {i : Nat} {o : Oper} {an : Ann} (ho : ops[i]? = some o) (han : anns[i]? = some an) (hDi : D i = false)
    (hcl : ∀ (j : Nat) (an' : Ann), D j = true → anns[j]? = some an' → ∀ k ∈ an'.B, D k = true) (hB : ∀ k ∈ an.B, D k = true) {t : Tmp} (ht : t ∈ o.looksAt ops) :
    tmD ops σ (an.B.contains ·) g t = tmD ops σ D g t := by
  unfold tmD
  split
  · rename_i j hj
    by_cases h : j ∈ an.B
    · simp [h, hB j h]
    · have hD : D j = false := by
        rcases C.tmps i o an t j ho han ht hj with h1 | h1 | ⟨an', h1, h2⟩
        · subst h1; exact hDi
        · exact absurd h1 h
        · cases hd : D j with
          | false => rfl
          | true => have := hcl j an' hd h1 i h2; rw [hDi] at this; cases this
      simp [h, hD]
  · rfl
theorem ent_step (C : Chk ops anns σ) {D : Nat → Bool} {g : Nat → Option Out} {i : Nat} {o : Oper} {an : Ann} (ho : ops[i]? = some o) (han : anns[i]? = some an) (hDi : D i = false)
    (hcl : ∀ (j : Nat) (an' : Ann), D j = true → anns[j]? = some an' → ∀ k ∈ an'.B, D k = true) (hB : ∀ k ∈ an.B, D k = true) {e : Nat} (he : e ∈ an.kind.acc) :
    entD ops anns σ (an.B.contains ·) g e = entD ops anns σ D g e := by
  unfold entD
  rw [lastW_congr (D := (an.B.contains ·)) (D' := D) fun j hj hw => by
    by_cases h : j ∈ an.B
    · simp [h, hB j h]
    · have hD : D j = false := by
        rcases C.mem i j an e han (Array.getElem?_eq_some_iff.1 ho).1 hj hw (.inl he) with h1 | h1 | ⟨an', h1, h2⟩
        · subst h1; exact hDi
        · exact absurd h1 h
        · cases hd : D j with
          | false => rfl
          | true => have := hcl j an' hd h1 i h2; rw [hDi] at this; cases this
      simp [h, hD]]
theorem effect_ent {k : Kind} {ent ent' : Nat → Option Cel} {out : Out} {w w' : World} (h : ∀ e ∈ k.acc, ent e = ent' e) (he : effect k ent out w w') : effect k ent' out w w' := by
  unfold effect at *
  cases hm : k.mod with
  | none => rw [hm] at he; cases hk : k.mk <;> (rw [hk] at he; exact he)
  | some e =>
    rw [hm] at he
    obtain ⟨c, c', h1, h2⟩ := he
    exact ⟨c, c', by rw [← h e (by cases k <;> simp_all [Kind.mod, Kind.acc])]; exact h1, h2⟩
theorem wpOp_at (C : Chk ops anns σ) (hok : Ok P ops anns σ) {w0 w : World} {a : Act} {D : Nat → Bool} {L : Nat → Lt} {i : Nat} {K : Act → World → Prop} {Q : Exit → Act → World → Prop}
    (I : Inv P ops anns σ w0 D L a w) (hi : i < ops.size) (hDi : D i = false) (hcl : ∀ (j : Nat) (an' : Ann), D j = true → anns[j]? = some an' → ∀ k ∈ an'.B, D k = true)
    (hB : ∀ an, anns[i]? = some an → ∀ k ∈ an.B, D k = true) (hK : ∀ a' w' L', Inv P ops anns σ w0 (fun j => D j || j == i) L' a' w' → K a' w') : wpOp P ops Q i K a w := by
  have ho : ops[i]? = some ops[i] := Array.getElem?_eq_getElem hi
  have han : anns[i]? = some (anns[i]'(by rw [C.len]; exact hi)) := List.getElem?_eq_getElem (by rw [C.len]; exact hi)
  generalize ops[i] = o at *
  generalize anns[i]'(by rw [C.len]; exact hi) = an at *
  have hdep : ∀ l j, D j = true → O P ops anns σ L j = O P ops anns σ (upd L i l) j := fun l => O_dep C hcl (fun j hj => by
    unfold upd; rw [if_neg (by rintro rfl; rw [hDi] at hj; cases hj)])
  have hst : ∀ l, O P ops anns σ (upd L i l) i = evalG P ops o an (tmD ops σ (an.B.contains ·) (O P ops anns σ L)) (entD ops anns σ (an.B.contains ·) (O P ops anns σ L)) l := by
    intro l
    rw [O_eq C]
    have hLi : upd L i l i = l := by simp [upd]
    rw [hLi, stepF_congr (g' := O P ops anns σ L) fun an' han' j hj => by
      rw [han] at han'; cases han'
      exact (hdep l j (hB an han j hj)).symm]
    unfold stepF
    rw [ho, han]
  refine evalG_sound (an := an) (tm := tmD ops σ (an.B.contains ·) (O P ops anns σ L)) (ent := entD ops anns σ (an.B.contains ·) (O P ops anns σ L)) ho (fun l => ?_) (C.sel i o ho) ?_ ?_ ?_
  · obtain ⟨out, hO, hp⟩ := hok (upd L i l) i hi
    exact ⟨out, by rw [← hst]; exact hO, hp⟩
  · intro t v ht hv
    rw [tm_step C ho han hDi hcl (hB an han) ht] at hv
    exact I.tm t v hv
  · intro e c he hc
    rw [ent_step C ho han hDi hcl (hB an han) he] at hc
    exact I.holds e c hc
  · intro l out w' hev heff
    refine hK _ _ (upd L i l) (I.step C ho han hDi hcl (hB an han) ((hst l).trans hev) ?_)
    refine effect_ent (fun e he => ?_) heff
    rw [ent_step C ho han hDi hcl (hB an han) he]
    exact entD_congr (hdep l) e
theorem wpAny_eval (C : Chk ops anns σ) (hok : Ok P ops anns σ) {w0 : World} {Q : Exit → Act → World → Prop}
    (hQ : ∀ D L a w, (∀ i, i < ops.size → D i = true) → Inv P ops anns σ w0 D L a w → Q .normal a w) :
    ∀ (fuel : Nat) (l : Array Bool) (a : Act) (w : World) (L : Nat → Lt), l.size = ops.size → undn l = fuel →
      (∀ (j : Nat) (an : Ann), l.getD j false = true → anns[j]? = some an → ∀ k ∈ an.B, l.getD k false = true) →
      Inv P ops anns σ w0 (fun j => l.getD j false) L a w → wpAny P .any ops Q fuel l a w
  | 0, l, a, w, L, hl, hu, hcl, I => by
    have h : ∀ i, i < ops.size → l.getD i false = true := fun i hi => undn_zero hu (by omega)
    refine ⟨?_, hQ _ L a w h I⟩
    rw [List.eq_nil_iff_forall_not_mem]
    intro i hi
    obtain ⟨h1, o, h2, _⟩ := mem_ready.1 hi
    have h3 := (Array.getElem?_eq_some_iff.1 h2).1
    have := h i h3
    simp [show i < l.size by omega] at h1 this
    rw [h1] at this; cases this
  | fuel + 1, l, a, w, L, hl, hu, hcl, I => by
    refine ⟨fun h => hQ _ L a w (all_done C hl h) I, fun i hi => ?_⟩
    obtain ⟨h1, o, h2, h3⟩ := mem_ready.1 hi
    have hlt := (Array.getElem?_eq_some_iff.1 h2).1
    have hDi : l.getD i false = false := by simp [show i < l.size by omega] at h1 ⊢; exact h1
    have hB : ∀ an, anns[i]? = some an → ∀ k ∈ an.B, l.getD k false = true := by
      intro an han k hk
      obtain ⟨e, he, hb, h4⟩ := C.pre i o an h2 han k hk
      have h5 := h3 e he hb
      rcases h4 with h4 | ⟨an', h6, h7⟩
      · rw [← h4]; exact h5
      · exact hcl e.on an' h5 h6 k h7
    refine wpOp_at C hok I hlt hDi hcl hB fun a' w' L' I' => ?_
    have hset : ∀ j, (l.setIfInBounds i true).getD j false = (l.getD j false || j == i) := by
      intro j
      by_cases h : j = i
      · subst h; simp [show j < l.size by omega]
      · simp [Array.getElem?_setIfInBounds_ne (Ne.symm h), h]
    refine wpAny_eval C hok hQ fuel _ a' w' L' (by simpa using hl) ?_ ?_ ?_
    · have := undn_set h1; omega
    · intro j an hj han k hk
      rw [hset] at hj ⊢
      simp only [Bool.or_eq_true, beq_iff_eq] at hj ⊢
      rcases hj with hj | hj
      · exact .inl (hcl j an hj han k hk)
      · subst hj; exact .inl (hB an han k hk)
    · rw [show (fun j => (l.setIfInBounds i true).getD j false) = (fun j => l.getD j false || j == i) from funext hset]
      exact I'
theorem undn_false (n : Nat) : undn (Array.replicate n false) = n := by simp [undn]
/-- in the order of the text -/
theorem wpOps_eval (C : Chk ops anns σ) (hok : Ok P ops anns σ) {w0 : World} {Q : Exit → Act → World → Prop}
    (hQ : ∀ D L a w, (∀ i, i < ops.size → D i = true) → Inv P ops anns σ w0 D L a w → Q .normal a w) :
    ∀ (n k : Nat) (a : Act) (w : World) (L : Nat → Lt), k + n = ops.size → Inv P ops anns σ w0 (fun j => decide (j < k)) L a w → wpOps P ops Q (List.range' k n) a w
  | 0, k, a, w, L, hk, I => hQ _ L a w (fun i hi => by simp; omega) I
  | n + 1, k, a, w, L, hk, I => by
    rw [List.range'_succ, wpOps_cons]
    refine wpOp_at C hok I (by omega) (by simp) ?_ ?_ fun a' w' L' I' => ?_
    · intro j an hj han x hx
      have := C.lt j an han x hx
      simp at hj ⊢; omega
    · intro an han x hx
      have := C.lt k an han x hx
      simpa using this
    · refine wpOps_eval C hok hQ n (k + 1) a' w' L' (by omega) ?_
      rw [show (fun j => decide (j < k + 1)) = (fun j => decide (j < k) || j == k) from funext fun j => by
        rw [Bool.eq_iff_iff]; simp; omega]
      exact I'
end
end Ag
end Go.Proofs.Ytlpjnhoafaamkaa
