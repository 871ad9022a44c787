/-
  AN EXECUTOR, checked once: what is known of memory, and what a step does to it.
-/
import Derived.Test.YtlpjnhoafaamkaaExA
set_option linter.unusedVariables false
set_option linter.unusedSimpArgs false
namespace Go.Proofs.Ytlpjnhoafaamkaa
open Go Go.RowKit
namespace Ex

/-- a block that is known whole; a row that begins with xs and may grow -/
inductive Ent where
  | obj (o : Obj)
  | row (xs : List Value) (size : Nat) (T : TypeId)
  | loop (tm : Tr Value) (L : Nat) (ps : Array Tmp) (assign body : Code) (st : LoopState) (pend : Option Code) (D : Nat)
def mren (ρ : Nm) (e : MapEntry) : MapEntry := { key := ren ρ e.key, val := ren ρ e.val, born := e.born }
def oren (ρ : Nm) : Obj → Obj
  | .cells c T f => .cells (c.map (ren ρ)) T f
  | .map es k => .map (es.map (mren ρ)) k
  | .mapIter m s seen st => .mapIter (m.map ρ.b) s seen st
  | o => o
def Ent.holds (ρ : Nm) (w : World) (e : Nat) : Ent → Prop
  | .obj o => w.heap[ρ.b e]? = some (oren ρ o)
  | .row xs s T => ∃ cur : Array Value, w.heap[ρ.b e]? = some (.cells cur T (0, 0)) ∧ xs.length ≤ cur.size ∧ cur.size = ρ.n e * s ∧ ρ.n e ≤ maxLen ∧ cur.toList.take xs.length = xs.map (ren ρ)
  | .loop tm L ps A B st pend D => ∃ (fn : FuncId) (tmps : Array Value), tmps.size = L ∧ (∀ t v, tm.get t = some v → tmps[t]? = some (ren ρ v)) ∧ w.heap[ρ.b e]? = some (.loop { state := st, pending := pend, fn := fn, tmps := tmps, params := ps, assign := A, body := B, defers := ρ.b D })
def dep : Nat := 12
def idsM : List MapEntry → Option (List Nat)
  | [] => some []
  | e :: l => match idsV dep e.key, idsV dep e.val, idsM l with
    | some a, some b, some c => some (a ++ b ++ c)
    | _, _, _ => none
def idsE : Ent → Option (List Nat)
  | .obj (.cells c _ _) => idsL (idsV dep) c.toList
  | .obj (.map es _) => idsM es.toList
  | .obj (.mapIter (some m) _ _ _) => some [m]
  | .obj (.mapIter none _ _ _) => some []
  | .obj (.stringIter _ _) => some []
  | .obj (.deferred _) => some []
  | .obj _ => none
  | .row xs _ _ => idsL (idsV dep) xs
  | .loop .. => none
/-- a value bears no names but those of p -/
def Sup (p : Nat → Prop) (v : Value) : Prop := ∀ ρ ρ' : Nm, (∀ i, p i → alike ρ ρ' i) → ren ρ v = ren ρ' v
theorem Sup.mono {p q : Nat → Prop} {v : Value} (h : Sup p v) (hpq : ∀ i, p i → q i) : Sup q v := fun ρ ρ' ha => h ρ ρ' fun i hi => ha i (hpq i hi)
theorem Sup.of {p : Nat → Prop} {d : Nat} {v : Value} {l : List Nat} (h : idsV d v = some l) (hp : ∀ i ∈ l, p i) : Sup p v := fun ρ ρ' ha => ids_ren d v l h fun i hi => ha i (hp i hi)
def SupE (p : Nat → Prop) : Ent → Prop
  | .obj (.cells c _ _) => ∀ v ∈ c.toList, Sup p v
  | .obj (.map es _) => ∀ e ∈ es.toList, Sup p e.key ∧ Sup p e.val
  | .obj (.mapIter m _ _ _) => ∀ i, m = some i → p i
  | .obj (.stringIter _ _) => True
  | .obj (.deferred _) => True
  | .obj _ => False
  | .row xs _ _ => ∀ v ∈ xs, Sup p v
  | .loop tm _ _ _ _ _ _ D => (∀ t v, tm.get t = some v → Sup p v) ∧ p D
theorem SupE.mono {p q : Nat → Prop} {c : Ent} (h : SupE p c) (hpq : ∀ i, p i → q i) : SupE q c := by
  cases c with
  | obj o => cases o with
    | cells c T f => exact fun v hv => (h v hv).mono hpq
    | map es k => exact fun e he => ⟨(h e he).1.mono hpq, (h e he).2.mono hpq⟩
    | mapIter m s a b => exact fun i hi => hpq i (h i hi)
    | _ => exact h
  | row xs s T => exact fun v hv => (h v hv).mono hpq
  | loop => exact ⟨fun t v hv => (h.1 t v hv).mono hpq, hpq _ h.2⟩
theorem idsL_sup {p : Nat → Prop} {d : Nat} : ∀ {vs : List Value} {l : List Nat}, idsL (idsV d) vs = some l → (∀ i ∈ l, p i) → ∀ v ∈ vs, Sup p v
  | [], l, h, hp, v, hv => by cases hv
  | u :: vs, l, h, hp, v, hv => by
    unfold idsL at h
    split at h
    · cases h
    · rename_i a ha
      split at h
      · cases h
      · rename_i b hb
        cases h
        rcases List.mem_cons.1 hv with rfl | hv
        · exact Sup.of ha fun i hi => hp i (List.mem_append_left _ hi)
        · exact idsL_sup hb (fun i hi => hp i (List.mem_append_right _ hi)) v hv
theorem idsM_sup {p : Nat → Prop} : ∀ {es : List MapEntry} {l : List Nat}, idsM es = some l → (∀ i ∈ l, p i) → ∀ e ∈ es, Sup p e.key ∧ Sup p e.val
  | [], l, h, hp, v, hv => by cases hv
  | u :: es, l, h, hp, e, he => by
    unfold idsM at h
    split at h
    · rename_i a b c ha hb hc
      cases h
      rcases List.mem_cons.1 he with rfl | he
      · exact ⟨Sup.of ha fun i hi => hp i (by simp [hi]), Sup.of hb fun i hi => hp i (by simp [hi])⟩
      · exact idsM_sup hc (fun i hi => hp i (by simp [hi])) e he
    · cases h
theorem SupE.of {p : Nat → Prop} {c : Ent} {l : List Nat} (h : idsE c = some l) (hp : ∀ i ∈ l, p i) : SupE p c := by
  cases c with
  | obj o => cases o with
    | cells c T f => exact idsL_sup h hp
    | map es k => exact idsM_sup h hp
    | mapIter m s a b => cases m with
      | none => exact fun i hi => by cases hi
      | some m => simp only [idsE, Option.some.injEq] at h; subst h; exact fun i hi => by cases hi; exact hp m (by simp)
    | stringIter => trivial
    | deferred => trivial
    | _ => simp [idsE] at h
  | row xs s T => exact idsL_sup h hp
  | loop => cases h
theorem sup_map {p : Nat → Prop} {ρ ρ' : Nm} {vs : List Value} (h : ∀ v ∈ vs, Sup p v) (ha : ∀ i, p i → alike ρ ρ' i) : vs.map (ren ρ) = vs.map (ren ρ') :=
  List.map_congr_left fun v hv => h v hv ρ ρ' ha
theorem sup_arr {p : Nat → Prop} {ρ ρ' : Nm} {xs : Array Value} (h : ∀ v ∈ xs.toList, Sup p v) (ha : ∀ i, p i → alike ρ ρ' i) : xs.map (ren ρ) = xs.map (ren ρ') := by
  apply Array.ext'
  simp only [Array.toList_map]
  exact sup_map h ha
theorem holds_sup {p : Nat → Prop} {ρ ρ' : Nm} {w : World} {e : Nat} {c : Ent} (hs : SupE p c) (h : ∀ i, p i → alike ρ ρ' i) (he : alike ρ ρ' e) (hh : c.holds ρ w e) : c.holds ρ' w e := by
  cases c with
  | obj o =>
    unfold Ent.holds at hh ⊢
    rw [← he.1, hh]
    congr 1
    cases o with
    | cells c T f => simp only [oren]; rw [sup_arr hs h]
    | map es k =>
      simp only [oren]
      congr 1
      apply Array.ext'
      simp only [Array.toList_map]
      refine List.map_congr_left fun e he => ?_
      unfold mren
      rw [(hs e he).1 ρ ρ' h, (hs e he).2 ρ ρ' h]
    | mapIter m s seen st => cases m with
      | none => rfl
      | some m => simp [oren, (h m (hs m rfl)).1]
    | stringIter => rfl
    | deferred => rfl
    | _ => exact hs.elim
  | row xs s T =>
    obtain ⟨cur, h1, h2, h3, h4, h5⟩ := hh
    refine ⟨cur, by rw [← he.1]; exact h1, h2, by rw [← he.2]; exact h3, by rw [← he.2]; exact h4, ?_⟩
    rw [h5]
    exact sup_map hs h
  | loop tm L ps A B st pend D =>
    obtain ⟨fn, tmps, h1, h2, h3⟩ := hh
    refine ⟨fn, tmps, h1, fun t v hv => ?_, ?_⟩
    · rw [← hs.1 t v hv ρ ρ' h]; exact h2 t v hv
    · rw [← he.1, ← (h _ hs.2).1]; exact h3
theorem holds_lt {ρ : Nm} {w : World} {e : Nat} {c : Ent} (hh : c.holds ρ w e) : ρ.b e < w.heap.size := by
  cases c with
  | obj o => exact (Array.getElem?_eq_some_iff.1 hh).1
  | row xs s T => obtain ⟨cur, h1, _⟩ := hh; exact (Array.getElem?_eq_some_iff.1 h1).1
  | loop => obtain ⟨fn, tmps, _, _, h1⟩ := hh; exact (Array.getElem?_eq_some_iff.1 h1).1
theorem holds_kept {ρ : Nm} {w w' : World} {e : Nat} {c : Ent} (hk : w'.heap[ρ.b e]? = w.heap[ρ.b e]?) (hh : c.holds ρ w e) : c.holds ρ w' e := by
  cases c with
  | obj o => exact hk.trans hh
  | row xs s T => obtain ⟨cur, h1, h2⟩ := hh; exact ⟨cur, hk.trans h1, h2⟩
  | loop => obtain ⟨fn, tmps, h1, h2, h3⟩ := hh; exact ⟨fn, tmps, h1, h2, hk.trans h3⟩
structure SimH (ρ : Nm) (H : Nat → Option Ent) (w : World) : Prop where
  holds : ∀ e c, H e = some c → c.holds ρ w e
  inj : ∀ e e' c c', H e = some c → H e' = some c' → e ≠ e' → ρ.b e ≠ ρ.b e'
/-- all is as it was but for some blocks -/
structure Keep (S : Nat → Prop) (w w' : World) : Prop where
  os : w'.os = w.os
  tape : w'.tape = w.tape
  output : w'.output = w.output
  size : w.heap.size ≤ w'.heap.size
  block : ∀ k, k < w.heap.size → ¬ S k → w'.heap[k]? = w.heap[k]?
theorem Keep.refl {S : Nat → Prop} (w : World) : Keep S w w := ⟨rfl, rfl, rfl, Nat.le_refl _, fun _ _ _ => rfl⟩
theorem Keep.trans {S S1 S2 : Nat → Prop} {w w1 w2 : World} (h1 : Keep S1 w w1) (h2 : Keep S2 w1 w2) (i1 : ∀ k, k < w.heap.size → S1 k → S k) (i2 : ∀ k, k < w.heap.size → S2 k → S k) : Keep S w w2 :=
  ⟨h2.os.trans h1.os, h2.tape.trans h1.tape, h2.output.trans h1.output, Nat.le_trans h1.size h2.size, fun k hk hn =>
    (h2.block k (Nat.lt_of_lt_of_le hk h1.size) fun q => hn (i2 k hk q)).trans (h1.block k hk fun q => hn (i1 k hk q))⟩
theorem Keep.mono {S S1 : Nat → Prop} {w w1 : World} (h1 : Keep S1 w w1) (i1 : ∀ k, k < w.heap.size → S1 k → S k) : Keep S w w1 :=
  ⟨h1.os, h1.tape, h1.output, h1.size, fun k hk hn => h1.block k hk fun q => hn (i1 k hk q)⟩
theorem Keep.drew {S : Nat → Prop} (w : World) : Keep S w w.drew := ⟨rfl, rfl, rfl, Nat.le_refl _, fun _ _ _ => rfl⟩
theorem Keep.grown {w w' : World} {r : Option Nat} {S : Nat → Prop} (h : w.grownBy w' r) (hs : ∀ k, r = some k → S k) : Keep S w w' :=
  ⟨h.os, h.tape, h.output, h.size, fun k hk hn => h.block k hk fun q => hn (hs k q.symm)⟩
theorem Keep.below {w w' : World} {S : Nat → Prop} (h : Below w.heap.size w w') : Keep S w w' := ⟨h.os, h.tape, h.output, h.size, fun k hk _ => h.block k hk⟩
theorem Keep.to_below {w w' : World} {S : Nat → Prop} (h : Keep S w w') (hs : ∀ k, k < w.heap.size → ¬ S k) : Below w.heap.size w w' := ⟨h.os, h.tape, h.output, h.size, fun k hk => h.block k hk (hs k hk)⟩

abbrev Wr := List (Nat × Option Ent)
def wrGet : Wr → Nat → Option (Option Ent)
  | [], _ => none
  | (e, c) :: l, x => bif Nat.beq e x then some c else wrGet l x
def upd (H : Nat → Option Ent) (wr : Wr) (e : Nat) : Option Ent :=
  match wrGet wr e with
  | some c => c
  | none => H e
/-- what a step does to memory: names lo to hi are new; wr is written -/
structure Eff (ρ ρ' : Nm) (lo hi : Nat) (A : Nat → Option Ent) (wr : Wr) (w w' : World) : Prop where
  agree : ∀ i, ¬ (lo ≤ i ∧ i < hi) → alike ρ ρ' i
  keep : Keep (fun k => ∃ e c, wrGet wr e = some c ∧ e < lo ∧ (A e).isSome ∧ ρ.b e = k) w w'
  hold : ∀ e c, wrGet wr e = some (some c) → c.holds ρ' w' e
  inj : ∀ e e' c c', wrGet wr e = some (some c) → wrGet wr e' = some (some c') → e ≠ e' → ρ'.b e ≠ ρ'.b e'
  old : ∀ e c, wrGet wr e = some c → (lo ≤ e ∧ e < hi) ∨ (e < lo ∧ (A e).isSome)
  fresh : ∀ e c, lo ≤ e → wrGet wr e = some (some c) → w.heap.size ≤ ρ'.b e ∨ ∃ e0, e0 < lo ∧ wrGet wr e0 = some none ∧ (A e0).isSome ∧ ρ.b e0 = ρ'.b e
theorem Eff.mono {ρ ρ' : Nm} {lo hi : Nat} {A B : Nat → Option Ent} {wr : Wr} {w w' : World} (E : Eff ρ ρ' lo hi A wr w w') (h : ∀ e, (A e).isSome → (B e).isSome) : Eff ρ ρ' lo hi B wr w w' :=
  ⟨E.agree, E.keep.mono fun k _ ⟨e, c, h1, h2, h3, h4⟩ => ⟨e, c, h1, h2, h e h3, h4⟩, E.hold, E.inj, fun e c q => (E.old e c q).imp id fun z => ⟨z.1, h e z.2⟩, fun e c h1 h2 => (E.fresh e c h1 h2).imp id fun ⟨e0, a, b, c, d⟩ => ⟨e0, a, b, h e0 c, d⟩⟩
theorem frame {ρ ρ' : Nm} {lo hi : Nat} {H : Nat → Option Ent} {wr : Wr} {w w' : World} (s : SimH ρ H w) (E : Eff ρ ρ' lo hi H wr w w')
    (hn : ∀ e, lo ≤ e → e < hi → H e = none) (hs : ∀ e c, H e = some c → wrGet wr e = none → SupE (fun i => ¬ (lo ≤ i ∧ i < hi)) c) : SimH ρ' (upd H wr) w' := by
  have far : ∀ e c, H e = some c → ¬ (lo ≤ e ∧ e < hi) := fun e c h1 h2 => by rw [hn e h2.1 h2.2] at h1; cases h1
  have hx : ∀ e c, upd H wr e = some c → (wrGet wr e = some (some c)) ∨ (wrGet wr e = none ∧ H e = some c) := by
    intro e c h
    unfold upd at h
    split at h
    · rename_i c' hc; subst h; exact .inl hc
    · rename_i hc; exact .inr ⟨hc, h⟩
  -- an old thing that is not written lies in no block that is written or new
  have apart : ∀ e e' c c', wrGet wr e = some (some c) → wrGet wr e' = none → H e' = some c' → ρ'.b e ≠ ρ'.b e' := by
    intro e e' c c' h1 h2 h3
    have hne : e ≠ e' := fun q => by subst q; rw [h1] at h2; cases h2
    rw [← (E.agree e' (far e' c' h3)).1]
    have hlt := holds_lt (s.holds e' c' h3)
    rcases E.old e _ h1 with ho | ⟨ho, ha⟩
    · rcases E.fresh e c ho.1 h1 with q | ⟨e0, q1, q2, q3, q4⟩
      · omega
      · rw [← q4]
        obtain ⟨c0, hc0⟩ := Option.isSome_iff_exists.1 q3
        exact s.inj e0 e' c0 c' hc0 h3 fun z => by subst z; rw [q2] at h2; cases h2
    · rw [← (E.agree e (by omega)).1]
      obtain ⟨c0, hc0⟩ := Option.isSome_iff_exists.1 ha
      exact s.inj e e' c0 c' hc0 h3 hne
  refine ⟨fun e c h => ?_, fun e e' c c' h h' hne => ?_⟩
  · rcases hx e c h with h1 | ⟨h1, h2⟩
    · exact E.hold e c h1
    · have h3 := s.holds e c h2
      refine holds_sup (hs e c h2 h1) (fun i hi => E.agree i hi) (E.agree e (far e c h2)) (holds_kept (E.keep.block _ (holds_lt h3) ?_) h3)
      rintro ⟨e0, c0, q1, q2, q3, q4⟩
      obtain ⟨c1, hc1⟩ := Option.isSome_iff_exists.1 q3
      exact s.inj e0 e c1 c hc1 h2 (fun z => by subst z; rw [q1] at h1; cases h1) q4
  · rcases hx e c h with h1 | ⟨h1, h2⟩ <;> rcases hx e' c' h' with h1' | ⟨h1', h2'⟩
    · exact E.inj e e' c c' h1 h1' hne
    · exact apart e e' c c' h1 h1' h2'
    · exact (apart e' e c' c h1' h1 h2).symm
    · rw [← (E.agree e (far e c h2)).1, ← (E.agree e' (far e' c' h2')).1]
      exact s.inj e e' c c' h2 h2' hne
/-- nothing is written -/
theorem Eff.nothing (ρ : Nm) (lo hi : Nat) (A : Nat → Option Ent) {w w' : World} (h : ∀ S, Keep S w w') : Eff ρ ρ lo hi A [] w w' :=
  ⟨fun _ _ => ⟨rfl, rfl⟩, h _, fun e c h => (by cases h), fun e e' c c' h => (by cases h), fun e c h => (by cases h), fun e c _ h => (by cases h)⟩
theorem wrGet_one {e : Nat} {c : Option Ent} {x : Nat} {y : Option Ent} (h : wrGet [(e, c)] x = some y) : x = e ∧ y = c := by
  unfold wrGet at h
  cases hb : Nat.beq e x with
  | true => rw [hb] at h; cases h; exact ⟨(Nat.eq_of_beq_eq_true hb).symm, rfl⟩
  | false => rw [hb] at h; cases h
theorem wrGet_self (e : Nat) (c : Option Ent) (l : Wr) : wrGet ((e, c) :: l) e = some c := by
  unfold wrGet
  rw [show Nat.beq e e = true from Nat.beq_refl e]
  rfl
/-- a new block -/
def Nm.with (ρ : Nm) (lo b n : Nat) : Nm := ⟨fun i => bif Nat.beq i lo then b else ρ.b i, fun i => bif Nat.beq i lo then n else ρ.n i⟩
theorem with_self (ρ : Nm) (lo b n : Nat) : (ρ.with lo b n).b lo = b ∧ (ρ.with lo b n).n lo = n := by
  unfold Nm.with
  simp [show Nat.beq lo lo = true from Nat.beq_refl lo]
theorem with_far (ρ : Nm) (lo b n : Nat) {i : Nat} (h : ¬ (lo ≤ i ∧ i < lo + 1)) : alike ρ (ρ.with lo b n) i := by
  have : Nat.beq i lo = false := by
    cases hb : Nat.beq i lo with
    | false => rfl
    | true => have := Nat.eq_of_beq_eq_true hb; omega
  unfold alike Nm.with
  simp [this]
theorem Eff.made (ρ : Nm) (lo n : Nat) (A : Nat → Option Ent) {w w' : World} {c : Ent} (hk : ∀ S, Keep S w w') (hc : c.holds (ρ.with lo w.heap.size n) w' lo) : Eff ρ (ρ.with lo w.heap.size n) lo (lo + 1) A [(lo, some c)] w w' := by
  refine ⟨fun i h => with_far ρ lo _ n h, hk _, ?_, ?_, ?_, ?_⟩
  · intro e c' h
    obtain ⟨rfl, h2⟩ := wrGet_one h
    cases h2
    exact hc
  · intro e e' c c' h h' hne
    exact absurd ((wrGet_one h).1.trans (wrGet_one h').1.symm) hne
  · intro e c' h
    obtain ⟨rfl, h2⟩ := wrGet_one h
    exact .inl ⟨Nat.le_refl _, Nat.lt_succ_self _⟩
  · intro e c' _ h
    obtain ⟨rfl, h2⟩ := wrGet_one h
    exact .inl (by rw [(with_self ρ e _ n).1]; exact Nat.le_refl _)
/-- a known block, written -/
theorem Eff.wrote (ρ : Nm) (lo : Nat) (A : Nat → Option Ent) {w w' : World} {e : Nat} {c : Ent} (he : e < lo) (hA : (A e).isSome) (hk : w.grownBy w' (some (ρ.b e))) (hc : c.holds ρ w' e) : Eff ρ ρ lo lo A [(e, some c)] w w' := by
  refine ⟨fun i _ => ⟨rfl, rfl⟩, Keep.grown hk fun k hk => ?_, ?_, ?_, ?_, ?_⟩
  · cases hk
    exact ⟨e, _, wrGet_self e _ _, he, hA, rfl⟩
  · intro e' c' h
    obtain ⟨rfl, h2⟩ := wrGet_one h
    cases h2
    exact hc
  · intro e1 e' c c' h h' hne
    exact absurd ((wrGet_one h).1.trans (wrGet_one h').1.symm) hne
  · intro e1 c' h
    obtain ⟨rfl, h2⟩ := wrGet_one h
    exact .inr ⟨he, hA⟩
  · intro e1 c' h1 h
    obtain ⟨rfl, h2⟩ := wrGet_one h
    omega
end Ex
end Go.Proofs.Ytlpjnhoafaamkaa
