/-
  AN EXECUTOR, checked once: a region, in whatever order its edges allow.
-/
import Derived.Test.YtlpjnhoafaamkaaExU
set_option linter.unusedVariables false
set_option linter.unusedSimpArgs false
namespace Go.Proofs.Ytlpjnhoafaamkaa
open Go Go.RowKit
namespace Ex

/-- a call as it began: its memory, and the names of things of its caller's that it may have written -/
structure Base where
  w : World
  ρ : Nm
  n : Nat
  H : Nat → Option Ent
def Base.touch (B : Base) (md : Nat → Prop) (k : Nat) : Prop := ∃ e, md e ∧ e < B.n ∧ (B.H e).isSome ∧ B.ρ.b e = k
structure SimC (B : Base) (md : Nat → Prop) (ρ : Nm) (H : Nat → Option Ent) (w : World) : Prop where
  sim : SimH ρ H w
  agree : ∀ i, i < B.n → alike B.ρ ρ i
  liv : ∀ e, e < B.n → (H e).isSome → (B.H e).isSome
  own : ∀ e, B.n ≤ e → (H e).isSome → B.w.heap.size ≤ ρ.b e ∨ B.touch md (ρ.b e)
  keep : Keep (B.touch md) B.w w
theorem alike.trans {ρ ρ' ρ'' : Nm} {i : Nat} (h : alike ρ ρ' i) (k : alike ρ' ρ'' i) : alike ρ ρ'' i := ⟨h.1.trans k.1, h.2.trans k.2⟩
theorem stepC {B : Base} {md : Nat → Prop} {ρ ρ' : Nm} {H : Nat → Option Ent} {w w' : World} {lo hi : Nat} {wr : Wr} (s : SimC B md ρ H w) (E : Eff ρ ρ' lo hi H wr w w') (hB : B.n ≤ lo) (hmd : ∀ e, e < B.n → (wrGet wr e).isSome → md e)
    (hn : ∀ e, lo ≤ e → e < hi → H e = none) (hs : ∀ e c, H e = some c → wrGet wr e = none → SupE (fun i => ¬ (lo ≤ i ∧ i < hi)) c) : SimC B md ρ' (upd H wr) w' := by
  have hx : ∀ e, (upd H wr e).isSome → (∃ c, wrGet wr e = some (some c)) ∨ (wrGet wr e = none ∧ (H e).isSome) := by
    intro e h
    unfold upd at h
    split at h
    · rename_i c hc
      obtain ⟨c', rfl⟩ := Option.isSome_iff_exists.1 h
      exact .inl ⟨c', hc⟩
    · rename_i hc; exact .inr ⟨hc, h⟩
  -- where a thing that is written lay
  have old : ∀ e, e < lo → (H e).isSome → (wrGet wr e).isSome → B.w.heap.size ≤ ρ.b e ∨ B.touch md (ρ.b e) := by
    intro e he hl hw
    by_cases hb : e < B.n
    · exact .inr ⟨e, hmd e hb hw, hb, s.liv e hb hl, (s.agree e hb).1⟩
    · exact s.own e (by omega) hl
  refine ⟨frame s.sim E hn hs, fun i hi => (s.agree i hi).trans (E.agree i (by omega)), ?_, ?_, ?_⟩
  · intro e he h
    rcases hx e h with ⟨c, h1⟩ | ⟨h1, h2⟩
    · rcases E.old e _ h1 with q | q
      · omega
      · exact s.liv e he q.2
    · exact s.liv e he h2
  · intro e he h
    rcases hx e h with ⟨c, h1⟩ | ⟨h1, h2⟩
    · by_cases hl : lo ≤ e
      · rcases E.fresh e c hl h1 with q | ⟨e0, q1, q2, q3, q4⟩
        · exact .inl (Nat.le_trans s.keep.size q)
        · rw [← q4]
          exact old e0 q1 q3 (by rw [q2]; rfl)
      · rcases E.old e _ h1 with q | q
        · omega
        · rw [← (E.agree e (by omega)).1]
          exact old e q.1 q.2 (by rw [h1]; rfl)
    · by_cases hl : lo ≤ e ∧ e < hi
      · rw [hn e hl.1 hl.2] at h2; cases h2
      · rw [← (E.agree e hl).1]
        exact s.own e he h2
  · refine s.keep.trans E.keep (fun k _ h => h) ?_
    rintro k hk ⟨e, c, q1, q2, q3, q4⟩
    rcases old e q2 q3 (by rw [q1]; rfl) with h | h
    · omega
    · rw [q4] at h; exact h

/-- what an operation came to, in the order of the text -/
structure Rc where
  v : Value
  wr : Wr
  acc : List Nat
  new : Nat
  deriving Inhabited
section
variable (ops : Array Oper) (rs : Nat → Rc) (tm0 : Nat → Option Value) (H0 : Nat → Option Ent) (n0 : Nat)
def dstOf (j : Nat) : Option Tmp := (ops[j]?).bind (·.dst)
def nT : Nat → Nat
  | 0 => n0
  | i + 1 => nT i + (rs i).new
def tmD (D : Nat → Bool) : Nat → Nat → Option Value
  | 0, t => tm0 t
  | i + 1, t => if D i = true ∧ dstOf ops i = some t then some (rs i).v else tmD D i t
def HD (D : Nat → Bool) : Nat → Nat → Option Ent
  | 0 => H0
  | i + 1 => if D i = true then upd (HD D i) (rs i).wr else HD D i
abbrev tmT := tmD ops rs tm0 (fun _ => true)
abbrev HT := HD rs H0 (fun _ => true)
end
section
variable {ops : Array Oper} {rs : Nat → Rc} {tm0 : Nat → Option Value} {H0 : Nat → Option Ent} {n0 : Nat}
theorem tmD_agree {D : Nat → Bool} {i t : Nat} : ∀ m, (∀ j, j < m → dstOf ops j = some t → (D j = true ↔ j < i)) → tmD ops rs tm0 D m t = tmT ops rs tm0 (min m i) t
  | 0, _ => by simp [tmD]
  | m + 1, h => by
    have ih := tmD_agree (D := D) (i := i) (t := t) m fun j hj => h j (by omega)
    by_cases hd : dstOf ops m = some t
    · have hm := h m (by omega) hd
      by_cases hlt : m < i
      · rw [show min (m + 1) i = m + 1 by omega]
        simp [tmD, hd, hm.2 hlt]
      · have : D m = false := by
          cases hq : D m with
          | false => rfl
          | true => exact absurd (hm.1 hq) hlt
        rw [show min (m + 1) i = min m i by omega, ← ih]
        simp [tmD, this]
    · have e : tmD ops rs tm0 D (m + 1) t = tmD ops rs tm0 D m t := by simp [tmD, hd]
      rw [e, ih]
      by_cases hlt : m < i
      · rw [show min (m + 1) i = m + 1 by omega, show min m i = m by omega]
        simp [tmD, hd]
      · rw [show min (m + 1) i = min m i by omega]
theorem upd_none {H : Nat → Option Ent} {wr : Wr} {e : Nat} (h : wrGet wr e = none) : upd H wr e = H e := by unfold upd; rw [h]
theorem HD_agree {D : Nat → Bool} {i e : Nat} : ∀ m, (∀ j, j < m → (wrGet (rs j).wr e).isSome → (D j = true ↔ j < i)) → HD rs H0 D m e = HT rs H0 (min m i) e
  | 0, _ => by simp [HD]
  | m + 1, h => by
    have ih := HD_agree (D := D) (i := i) (e := e) m fun j hj => h j (by omega)
    cases hd : wrGet (rs m).wr e with
    | some c =>
      have hm := h m (by omega) (by rw [hd]; rfl)
      by_cases hlt : m < i
      · rw [show min (m + 1) i = m + 1 by omega]
        simp [HD, upd, hd, hm.2 hlt]
      · have : D m = false := by
          cases hq : D m with
          | false => rfl
          | true => exact absurd (hm.1 hq) hlt
        rw [show min (m + 1) i = min m i by omega, ← ih]
        simp [HD, this]
    | none =>
      have e1 : HD rs H0 D (m + 1) e = HD rs H0 D m e := by
        simp only [HD]
        split
        · exact upd_none hd
        · rfl
      rw [e1, ih]
      by_cases hlt : m < i
      · rw [show min (m + 1) i = m + 1 by omega, show min m i = m by omega]
        simp [HD, upd_none hd]
      · rw [show min (m + 1) i = min m i by omega]
theorem tmD_add {D : Nat → Bool} {i t : Nat} (hD : D i = false) : ∀ m, (∀ j, i < j → j < m → D j = true → dstOf ops i = some t → dstOf ops j ≠ some t) → tmD ops rs tm0 (fun j => D j || j == i) m t = if i < m ∧ dstOf ops i = some t then some (rs i).v else tmD ops rs tm0 D m t
  | 0, _ => by simp [tmD]
  | m + 1, h => by
    have ih := tmD_add hD (t := t) m fun j h1 h2 => h j h1 (by omega)
    by_cases hm : m = i
    · subst hm
      by_cases hd : dstOf ops m = some t
      · simp [tmD, hd]
      · rw [if_neg (by simp [hd])]
        simp only [tmD, hd, and_false, if_false]
        rw [ih, if_neg (by omega)]
    · have e1 : (D m || m == i) = D m := by simp [hm]
      by_cases hd : dstOf ops i = some t
      · by_cases hlt : i < m
        · rw [if_pos ⟨by omega, hd⟩]
          simp only [tmD, e1]
          rw [if_neg (fun q => h m hlt (by omega) q.1 hd q.2), ih, if_pos ⟨hlt, hd⟩]
        · rw [if_neg (by omega)]
          have ih' := ih
          rw [if_neg (by omega)] at ih'
          simp only [tmD, e1, ih']
      · rw [if_neg (by simp [hd])]
        rw [if_neg (by simp [hd])] at ih
        simp only [tmD, e1]
        rw [ih]
theorem HD_add {D : Nat → Bool} {i e : Nat} (hD : D i = false) : ∀ m, (∀ j, i < j → j < m → D j = true → (wrGet (rs i).wr e).isSome → wrGet (rs j).wr e = none) → HD rs H0 (fun j => D j || j == i) m e = if i < m then upd (HD rs H0 D m) (rs i).wr e else HD rs H0 D m e
  | 0, _ => by simp [HD]
  | m + 1, h => by
    have ih := HD_add hD (e := e) m fun j h1 h2 => h j h1 (by omega)
    by_cases hm : m = i
    · subst hm
      rw [if_pos (by omega)]
      rw [if_neg (by omega)] at ih
      simp only [HD, beq_self_eq_true, Bool.or_true, if_true, hD, Bool.false_eq_true, if_false]
      unfold upd
      rw [ih]
    · have e1 : (D m || m == i) = D m := by simp [hm]
      by_cases hlt : i < m
      · rw [if_pos (by omega)]
        rw [if_pos hlt] at ih
        simp only [HD, e1]
        split
        · rename_i hdm
          cases hw : wrGet (rs i).wr e with
          | none =>
            rw [upd_none hw] at ih
            rw [upd_none hw]
            unfold upd
            rw [ih]
          | some c =>
            have := h m hlt (by omega) hdm (by rw [hw]; rfl)
            rw [upd_none this, ih]
            unfold upd
            rw [hw]
        · exact ih
      · rw [if_neg (by omega)]
        rw [if_neg (by omega)] at ih
        simp only [HD, e1]
        split
        · unfold upd; rw [ih]
        · exact ih
end
def OpOK (P : Program) (ops : Array Oper) (i : Nat) (tm : Nat → Option Value) (H : Nat → Option Ent) (n : Nat) (r : Rc) : Prop :=
  ∀ o, ops[i]? = some o → ∀ (ρ : Nm) (a : Act) (w : World) (K : Act → World → Prop) (Q : Exit → Act → World → Prop), (∀ t ∈ o.looksAt ops, ∀ v, tm t = some v → a.tmps[t]? = some (ren ρ v)) → Pre ρ H n r.acc w →
    (∀ ρ' w', Eff ρ ρ' n (n + r.new) (resA r.acc H) r.wr w w' → K (a.put o.dst (ren ρ' r.v)) w') → wpOp P ops Q i K a w
/-- the names that an operation's results may bear -/
def names (rs : Nat → Rc) (n0 : Nat) (Bf : Nat → Nat → Bool) (i x : Nat) : Prop := x < n0 ∨ ∃ k, (k = i ∨ Bf i k = true) ∧ nT rs n0 k ≤ x ∧ x < nT rs n0 (k + 1)
/-- a run in the order of the text, and what its operations have in common -/
structure TR (P : Program) (ops : Array Oper) (rs : Nat → Rc) (tm0 : Nat → Option Value) (H0 : Nat → Option Ent) (n0 L : Nat) (Bf : Nat → Nat → Bool) : Prop where
  ok : ∀ i, i < ops.size → OpOK P ops i (tmT ops rs tm0 i) (HT rs H0 i) (nT rs n0 i) (rs i)
  fit : ∀ i, i < ops.size → ∀ e c, HT rs H0 i e = some c → FitE (nT rs n0 i) c ∧ e < nT rs n0 i
  fit0 : ∀ e c, H0 e = some c → FitE n0 c ∧ e < n0
  tm0 : ∀ t v, tm0 t = some v → Fit n0 v
  wrlt : ∀ i, i < ops.size → ∀ e, (wrGet (rs i).wr e).isSome → e < nT rs n0 (i + 1)
  supv : ∀ i, i < ops.size → Sup (names rs n0 Bf i) (rs i).v
  supe : ∀ i, i < ops.size → ∀ e c, wrGet (rs i).wr e = some (some c) → SupE (names rs n0 Bf i) c
  sel : ∀ (i : Nat) (o : Oper), ops[i]? = some o → (∀ cs b, o.op ≠ .select cs b) ∧ ∀ c, o.op ≠ .defer c
  aft : ∀ (i : Nat) (o : Oper), ops[i]? = some o → ∀ e ∈ o.after, Region.binds .any e = true → e.on < i
  blt : ∀ i k, i < ops.size → Bf i k = true → k < i
  pre : ∀ (i : Nat) (o : Oper) (k : Nat), ops[i]? = some o → Bf i k = true → ∃ e ∈ o.after, Region.binds .any e = true ∧ (e.on = k ∨ Bf e.on k = true)
  dst : ∀ i t, i < ops.size → dstOf ops i = some t → t < L
  tmps : ∀ (i j : Nat) (o : Oper) (t : Tmp), ops[i]? = some o → j < ops.size → (t ∈ o.looksAt ops ∨ o.dst = some t) → dstOf ops j = some t → j = i ∨ Bf i j = true ∨ Bf j i = true
  mem : ∀ i j e, i < ops.size → j < ops.size → (e ∈ (rs i).acc ∨ (wrGet (rs i).wr e).isSome ∨ nT rs n0 i ≤ e ∧ e < nT rs n0 (i + 1)) → (wrGet (rs j).wr e).isSome → j = i ∨ Bf i j = true ∨ Bf j i = true
structure Inv (B : Base) (md : Nat → Prop) (ops : Array Oper) (rs : Nat → Rc) (tm0 : Nat → Option Value) (H0 : Nat → Option Ent) (L : Nat) (ds : List Deferred) (ρ0 : Nm) (n0 : Nat) (D : Nat → Bool) (ρ : Nm) (a : Act) (w : World) : Prop where
  def0 : a.defers = ds
  size : a.tmps.size = L
  tm : ∀ t v, tmD ops rs tm0 D ops.size t = some v → a.tmps[t]? = some (ren ρ v)
  sim : SimC B md ρ (HD rs H0 D ops.size) w
  agr : ∀ i, i < n0 → alike ρ0 ρ i
theorem nT_mono {rs : Nat → Rc} {n0 : Nat} {i j : Nat} (h : i ≤ j) : nT rs n0 i ≤ nT rs n0 j := by
  induction h with
  | refl => exact Nat.le_refl _
  | step _ ih => exact Nat.le_trans ih (Nat.le_add_right _ _)
section
variable {P : Program} {ops : Array Oper} {rs : Nat → Rc} {tm0 : Nat → Option Value} {H0 : Nat → Option Ent} {n0 L : Nat} {Bf : Nat → Nat → Bool} {B : Base} {md : Nat → Prop} {ds : List Deferred} {ρ0 : Nm}
theorem HD_from {D : Nat → Bool} {e : Nat} {c : Ent} : ∀ m, HD rs H0 D m e = some c → H0 e = some c ∨ ∃ j, j < m ∧ D j = true ∧ wrGet (rs j).wr e = some (some c)
  | 0, h => .inl h
  | m + 1, h => by
    simp only [HD] at h
    split at h
    · rename_i hd
      unfold upd at h
      split at h
      · rename_i c' hc
        subst h
        exact .inr ⟨m, by omega, hd, hc⟩
      · exact (HD_from m h).imp id fun ⟨j, h1, h2⟩ => ⟨j, by omega, h2⟩
    · exact (HD_from m h).imp id fun ⟨j, h1, h2⟩ => ⟨j, by omega, h2⟩
theorem tmD_from {D : Nat → Bool} {t : Nat} {v : Value} : ∀ m, tmD ops rs tm0 D m t = some v → tm0 t = some v ∨ ∃ j, j < m ∧ D j = true ∧ v = (rs j).v
  | 0, h => .inl h
  | m + 1, h => by
    simp only [tmD] at h
    split at h
    · rename_i hd
      cases h
      exact .inr ⟨m, by omega, hd.1, rfl⟩
    · exact (tmD_from m h).imp id fun ⟨j, h1, h2⟩ => ⟨j, by omega, h2⟩
/-- what D has made bears none of the names that i makes -/
theorem names_far (T : TR P ops rs tm0 H0 n0 L Bf) {D : Nat → Bool} {i j : Nat} (hi : i < ops.size) (hj : j < ops.size) (hDi : D i = false) (hDj : D j = true) (hcl : ∀ j k, j < ops.size → D j = true → Bf j k = true → D k = true) {x : Nat} (h : names rs n0 Bf j x) : ¬ (nT rs n0 i ≤ x ∧ x < nT rs n0 (i + 1)) := by
  rcases h with h | ⟨k, h1, h2, h3⟩
  · have : n0 ≤ nT rs n0 i := nT_mono (Nat.zero_le i)
    omega
  · have hk : D k = true := by
      rcases h1 with rfl | h1
      · exact hDj
      · exact hcl j k hj hDj h1
    have hne : k ≠ i := fun e => by rw [e, hDi] at hk; cases hk
    rcases Nat.lt_or_gt_of_ne hne with hlt | hlt
    · have : nT rs n0 (k + 1) ≤ nT rs n0 i := nT_mono hlt
      omega
    · have : nT rs n0 (i + 1) ≤ nT rs n0 k := nT_mono hlt
      omega
theorem at_tm (T : TR P ops rs tm0 H0 n0 L Bf) {D : Nat → Bool} {i : Nat} {o : Oper} (ho : ops[i]? = some o) (hDi : D i = false) (hcl : ∀ j k, j < ops.size → D j = true → Bf j k = true → D k = true) (hB : ∀ k, Bf i k = true → D k = true) {t : Nat} (ht : t ∈ o.looksAt ops) :
    tmD ops rs tm0 D ops.size t = tmT ops rs tm0 i t := by
  have hi : i < ops.size := (Array.getElem?_eq_some_iff.1 ho).1
  have := tmD_agree (rs := rs) (tm0 := tm0) (D := D) (i := i) (t := t) ops.size fun j hj hd => by
    rcases T.tmps i j o t ho hj (.inl ht) hd with h | h | h
    · subst h; simp [hDi]
    · have := T.blt i j hi h; simp [hB j h, this]
    · have := T.blt j i hj h
      constructor
      · intro hDj; have := hcl j i hj hDj h; rw [hDi] at this; cases this
      · intro; omega
  rw [show min ops.size i = i by omega] at this
  exact this
theorem at_mem (T : TR P ops rs tm0 H0 n0 L Bf) {D : Nat → Bool} {i : Nat} (hi : i < ops.size) (hDi : D i = false) (hcl : ∀ j k, j < ops.size → D j = true → Bf j k = true → D k = true) (hB : ∀ k, Bf i k = true → D k = true) {e : Nat} (he : e ∈ (rs i).acc) :
    HD rs H0 D ops.size e = HT rs H0 i e := by
  have := HD_agree (rs := rs) (H0 := H0) (D := D) (i := i) (e := e) ops.size fun j hj hd => by
    rcases T.mem i j e hi hj (.inl he) hd with h | h | h
    · subst h; simp [hDi]
    · have := T.blt i j hi h; simp [hB j h, this]
    · have := T.blt j i hj h
      constructor
      · intro hDj; have := hcl j i hj hDj h; rw [hDi] at this; cases this
      · intro; omega
  rw [show min ops.size i = i by omega] at this
  exact this
theorem Inv.step (T : TR P ops rs tm0 H0 n0 L Bf) (hBn : B.n ≤ n0) (hmd : ∀ i, i < ops.size → ∀ e, e < B.n → (wrGet (rs i).wr e).isSome → md e) {D : Nat → Bool} {ρ ρ' : Nm} {a : Act} {w w' : World} {i : Nat} {o : Oper} (I : Inv B md ops rs tm0 H0 L ds ρ0 n0 D ρ a w) (ho : ops[i]? = some o) (hDi : D i = false)
    (hcl : ∀ j k, j < ops.size → D j = true → Bf j k = true → D k = true) (hB : ∀ k, Bf i k = true → D k = true) (E : Eff ρ ρ' (nT rs n0 i) (nT rs n0 (i + 1)) (resA (rs i).acc (HT rs H0 i)) (rs i).wr w w') :
    Inv B md ops rs tm0 H0 L ds ρ0 n0 (fun j => D j || j == i) ρ' (a.put o.dst (ren ρ' (rs i).v)) w' := by
  have hi : i < ops.size := (Array.getElem?_eq_some_iff.1 ho).1
  have hdst : dstOf ops i = o.dst := by unfold dstOf; rw [ho]; rfl
  have hn0 : n0 ≤ nT rs n0 i := nT_mono (Nat.zero_le i)
  have E' : Eff ρ ρ' (nT rs n0 i) (nT rs n0 (i + 1)) (HD rs H0 D ops.size) (rs i).wr w w' := E.mono fun e he => by
    obtain ⟨c, hc⟩ := Option.isSome_iff_exists.1 he
    obtain ⟨h1, h2⟩ := resA_some hc
    rw [at_mem T hi hDi hcl hB h1, h2]
    rfl
  have hH : HD rs H0 (fun j => D j || j == i) ops.size = upd (HD rs H0 D ops.size) (rs i).wr := by
    funext e
    rw [HD_add hDi ops.size fun j h1 h2 h3 h4 => ?_, if_pos hi]
    cases hw : wrGet (rs j).wr e with
    | none => rfl
    | some c =>
      exfalso
      rcases T.mem i j e hi h2 (.inr (.inl h4)) (by rw [hw]; rfl) with h | h | h
      · omega
      · have := T.blt i j hi h; omega
      · have := hcl j i h2 h3 h; rw [hDi] at this; cases this
  have hT : ∀ t, tmD ops rs tm0 (fun j => D j || j == i) ops.size t = if o.dst = some t then some (rs i).v else tmD ops rs tm0 D ops.size t := by
    intro t
    rw [tmD_add hDi ops.size fun j h1 h2 h3 h4 h5 => ?_, hdst]
    · simp [hi]
    · rcases T.tmps i j o t ho h2 (.inr (by rw [← hdst]; exact h4)) h5 with h | h | h
      · omega
      · have := T.blt i j hi h; omega
      · have := hcl j i h2 h3 h; rw [hDi] at this; cases this
  have agr : ∀ x, ¬ (nT rs n0 i ≤ x ∧ x < nT rs n0 (i + 1)) → alike ρ ρ' x := E.agree
  refine ⟨by cases hd : o.dst <;> simpa [Act.put] using I.def0, by cases hd : o.dst <;> simpa [Act.put] using I.size, ?_, ?_, fun x hx => (I.agr x hx).trans (agr x (by omega))⟩
  · intro t v hv
    rw [hT] at hv
    split at hv
    · rename_i hd
      cases hv
      have := T.dst i t hi (by rw [hdst]; exact hd)
      rw [hd]
      simp [Act.put, I.size, this]
    · rename_i hd
      have h1 := I.tm t v hv
      have h2 : ren ρ v = ren ρ' v := by
        rcases tmD_from _ hv with h | ⟨j, h3, h4, rfl⟩
        · exact T.tm0 t v h ρ ρ' fun x hx => agr x (by omega)
        · exact T.supv j h3 ρ ρ' fun x hx => agr x (names_far T hi h3 hDi h4 hcl hx)
      rw [← h2]
      cases hd2 : o.dst with
      | none => simpa [Act.put] using h1
      | some d =>
        have : d ≠ t := fun e => hd (by rw [hd2, e])
        simp [Act.put, Array.getElem?_setIfInBounds_ne this, h1]
  · rw [hH]
    refine stepC I.sim E' (Nat.le_trans hBn hn0) (fun e h1 h2 => hmd i hi e h1 h2) ?_ ?_
    · intro e h1 h2
      have := HD_agree (rs := rs) (H0 := H0) (D := D) (i := 0) (e := e) ops.size fun j hj hd => by
        have hf : D j = false := by
          cases hq : D j with
          | false => rfl
          | true =>
            exfalso
            rcases T.mem i j e hi hj (.inr (.inr ⟨h1, h2⟩)) hd with h | h | h
            · rw [h, hDi] at hq; cases hq
            · have h5 := T.blt i j hi h
              have h6 := T.wrlt j hj e hd
              have : nT rs n0 (j + 1) ≤ nT rs n0 i := nT_mono h5
              omega
            · have := hcl j i hj hq h; rw [hDi] at this; cases this
        simp [hf]
      rw [this, Nat.min_zero]
      show H0 e = none
      cases hq : H0 e with
      | none => rfl
      | some c => have := (T.fit0 e c hq).2; omega
    · intro e c hc hw
      rcases HD_from _ hc with h | ⟨j, h3, h4, h5⟩
      · exact (T.fit0 e c h).1.mono fun x hx => by omega
      · exact (T.supe j h3 e c h5).mono fun x hx => names_far T hi h3 hDi h4 hcl hx
/-- what has not been done -/
def undn (l : Array Bool) : Nat := l.toList.count false
theorem undn_set {l : Array Bool} {i : Nat} (h : l.getD i true = false) : undn (l.setIfInBounds i true) + 1 = undn l := by
  have h2 : i < l.size := by
    rcases Nat.lt_or_ge i l.size with h2 | h2
    · exact h2
    · simp [Array.getElem?_eq_none h2] at h
  have h3 : l[i] = false := by simpa [h2] using h
  unfold undn
  rw [Array.toList_setIfInBounds, List.count_set (by simpa using h2)]
  have h4 : l.toList[i]'(by simpa using h2) = false := by simpa using h3
  have h5 : 0 < l.toList.count false := List.count_pos_iff.2 (by rw [← h4]; exact List.getElem_mem _)
  rw [h4]
  have h6 : 0 < Array.count false l := by rw [← Array.count_toList]; exact h5
  simp
  omega
theorem undn_zero {l : Array Bool} (h : undn l = 0) {i : Nat} (hi : i < l.size) : l.getD i false = true := by
  have h1 : false ∉ l.toList := fun hm => by have := List.count_pos_iff.2 hm; unfold undn at h; omega
  cases hb : l[i] with
  | true => simp [hi, hb]
  | false => exact absurd (by rw [← hb]; simp) h1
theorem all_done (T : TR P ops rs tm0 H0 n0 L Bf) {l : Array Bool} (hl : l.size = ops.size) (h : Region.ready .any ops l = []) : ∀ i, i < ops.size → l.getD i false = true := by
  intro i
  induction i using Nat.strongRecOn with
  | _ i ih =>
    intro hi
    cases hb : l.getD i false with
    | true => rfl
    | false =>
      exfalso
      have hm : i ∈ Region.ready .any ops l := by
        refine mem_ready.2 ⟨?_, ops[i], Array.getElem?_eq_getElem hi, fun e he hbd => ?_⟩
        · simp [show i < l.size by omega] at hb ⊢; exact hb
        · have := T.aft i _ (Array.getElem?_eq_getElem hi) e he hbd
          exact ih e.on this (by omega)
      rw [h] at hm
      cases hm
theorem wpOp_at (T : TR P ops rs tm0 H0 n0 L Bf) (hBn : B.n ≤ n0) (hmd : ∀ i, i < ops.size → ∀ e, e < B.n → (wrGet (rs i).wr e).isSome → md e) {D : Nat → Bool} {ρ : Nm} {a : Act} {w : World} {i : Nat} {K : Act → World → Prop} {Q : Exit → Act → World → Prop}
    (I : Inv B md ops rs tm0 H0 L ds ρ0 n0 D ρ a w) (hi : i < ops.size) (hDi : D i = false) (hcl : ∀ j k, j < ops.size → D j = true → Bf j k = true → D k = true) (hB : ∀ k, Bf i k = true → D k = true)
    (hK : ∀ ρ' a' w', Inv B md ops rs tm0 H0 L ds ρ0 n0 (fun j => D j || j == i) ρ' a' w' → K a' w') : wpOp P ops Q i K a w := by
  have ho : ops[i]? = some ops[i] := Array.getElem?_eq_getElem hi
  refine T.ok i hi ops[i] ho ρ a w K Q ?_ ?_ ?_
  · intro t ht v hv
    exact I.tm t v (by rw [at_tm T ho hDi hcl hB ht]; exact hv)
  · refine ⟨⟨fun e c hc => ?_, fun e e' c c' hc hc' hne => ?_⟩, T.fit i hi⟩
    · obtain ⟨h1, h2⟩ := resA_some hc
      exact I.sim.sim.holds e c (by rw [at_mem T hi hDi hcl hB h1]; exact h2)
    · obtain ⟨h1, h2⟩ := resA_some hc
      obtain ⟨h3, h4⟩ := resA_some hc'
      exact I.sim.sim.inj e e' c c' (by rw [at_mem T hi hDi hcl hB h1]; exact h2) (by rw [at_mem T hi hDi hcl hB h3]; exact h4) hne
  · intro ρ' w' E
    exact hK _ _ _ (I.step T hBn hmd ho hDi hcl hB E)
theorem wpAny_ex (T : TR P ops rs tm0 H0 n0 L Bf) (hBn : B.n ≤ n0) (hmd : ∀ i, i < ops.size → ∀ e, e < B.n → (wrGet (rs i).wr e).isSome → md e) {Q : Exit → Act → World → Prop}
    (hQ : ∀ D ρ a w, (∀ i, i < ops.size → D i = true) → Inv B md ops rs tm0 H0 L ds ρ0 n0 D ρ a w → Q .normal a w) :
    ∀ (fuel : Nat) (l : Array Bool) (ρ : Nm) (a : Act) (w : World), l.size = ops.size → undn l = fuel → (∀ j k, j < ops.size → l.getD j false = true → Bf j k = true → l.getD k false = true) →
      Inv B md ops rs tm0 H0 L ds ρ0 n0 (fun j => l.getD j false) ρ a w → wpAny P .any ops Q fuel l a w
  | 0, l, ρ, a, w, hl, hu, hcl, I => by
    have h : ∀ i, i < ops.size → l.getD i false = true := fun i hi => undn_zero hu (by omega)
    refine ⟨?_, hQ _ ρ a w h I⟩
    rw [List.eq_nil_iff_forall_not_mem]
    intro i hi
    obtain ⟨h1, o, h2, _⟩ := mem_ready.1 hi
    have h3 := (Array.getElem?_eq_some_iff.1 h2).1
    have := h i h3
    simp [show i < l.size by omega] at h1 this
    rw [h1] at this; cases this
  | fuel + 1, l, ρ, a, w, hl, hu, hcl, I => by
    refine ⟨fun h => hQ _ ρ a w (all_done T hl h) I, fun i hi => ?_⟩
    obtain ⟨h1, o, h2, h3⟩ := mem_ready.1 hi
    have hlt := (Array.getElem?_eq_some_iff.1 h2).1
    have hDi : l.getD i false = false := by simp [show i < l.size by omega] at h1 ⊢; exact h1
    have hB : ∀ k, Bf i k = true → l.getD k false = true := by
      intro k hk
      obtain ⟨e, he, hb, h4⟩ := T.pre i o k h2 hk
      have h5 := h3 e he hb
      rcases h4 with h4 | h4
      · rw [← h4]; exact h5
      · exact hcl e.on k (Nat.lt_trans (T.aft i o h2 e he hb) hlt) h5 h4
    refine wpOp_at T hBn hmd I hlt hDi hcl hB fun ρ' a' w' I' => ?_
    have hset : ∀ j, (l.setIfInBounds i true).getD j false = (l.getD j false || j == i) := by
      intro j
      by_cases h : j = i
      · subst h; simp [show j < l.size by omega]
      · simp [Array.getElem?_setIfInBounds_ne (Ne.symm h), h]
    refine wpAny_ex T hBn hmd hQ fuel _ ρ' a' w' (by simpa using hl) ?_ ?_ ?_
    · have := undn_set h1; omega
    · intro j k hj hjd hk
      rw [hset] at hjd ⊢
      simp only [Bool.or_eq_true, beq_iff_eq] at hjd ⊢
      rcases hjd with hjd | hjd
      · exact .inl (hcl j k hj hjd hk)
      · subst hjd; exact .inl (hB k hk)
    · rw [show (fun j => (l.setIfInBounds i true).getD j false) = (fun j => l.getD j false || j == i) from funext hset]
      exact I'
theorem Inv.start {w : World} {a : Act} {D : Nat → Bool} (hD : ∀ j, D j = false) (h1 : a.defers = ds) (h2 : a.tmps.size = L) (h3 : ∀ t v, tm0 t = some v → a.tmps[t]? = some (ren ρ0 v)) (h4 : SimC B md ρ0 H0 w) : Inv B md ops rs tm0 H0 L ds ρ0 n0 D ρ0 a w := by
  have e1 : ∀ m, HD rs H0 D m = H0 := by
    intro m
    induction m with
    | zero => rfl
    | succ m ih => simp [HD, hD, ih]
  have e2 : ∀ m t, tmD ops rs tm0 D m t = tm0 t := by
    intro m t
    induction m with
    | zero => rfl
    | succ m ih => simp [tmD, hD, ih]
  exact ⟨h1, h2, fun t v hv => h3 t v (by rw [e2] at hv; exact hv), by rw [e1]; exact h4, fun i _ => ⟨rfl, rfl⟩⟩
end
end Ex
end Go.Proofs.Ytlpjnhoafaamkaa
