/-
  AN EXECUTOR, checked once: what it says of a call holds.
-/
import Derived.Test.YtlpjnhoafaamkaaExJ
set_option linter.unusedVariables false
set_option linter.unusedSimpArgs false
namespace Go.Proofs.Ytlpjnhoafaamkaa
open Go Go.RowKit
namespace Ex

theorem itsOf_get {ops : Array Oper} {rs : Nat → Rc} {n0 : Nat} : ∀ (l : List Oper) (rl : List Rc) (k n : Nat) (T : Tr It), ops.toList.drop k = l → rl.length = l.length → (∀ j, j < rl.length → rs (k + j) = rl.getD j default) → nT rs n0 k = n → k + l.length ≤ LIM →
    (∀ j, j < k → (itsOf k n l rl T).get j = T.get j) ∧ ∀ j, k ≤ j → j < k + l.length → ∃ o bm, ops[j]? = some o ∧ (itsOf k n l rl T).get j = some ⟨o, rs j, nT rs n0 j, bm⟩
  | [], rl, k, n, T, hl, hlen, hrs, hn, hlim => by
    have : itsOf k n [] rl T = T := by unfold itsOf; cases rl <;> rfl
    rw [this]
    exact ⟨fun j _ => rfl, fun j h1 h2 => by simp at h2; omega⟩
  | o :: l, [], k, n, T, hl, hlen, hrs, hn, hlim => by simp at hlen
  | o :: l, r :: rl, k, n, T, hl, hlen, hrs, hn, hlim => by
    have ho : ops[k]? = some o := by
      have := congrArg (fun l : List Oper => l[0]?) hl
      simp only [List.getElem?_drop, Nat.add_zero, List.getElem?_cons_zero] at this
      rw [← Array.getElem?_toList]
      exact this
    have hl' : ops.toList.drop (k + 1) = l := by
      have := congrArg List.tail hl
      simpa using this
    have hrk : rs k = r := by have := hrs 0 (by simp); simpa using this
    simp only [List.length_cons] at hlim
    obtain ⟨h1, h2⟩ := itsOf_get (rs := rs) (n0 := n0) l rl (k + 1) (n + r.new) (T.set k (some ⟨o, r, n, bmOf T o⟩)) hl' (by simpa using hlen) (fun j hj => by
      have := hrs (j + 1) (by simp; omega)
      rw [show k + 1 + j = k + (j + 1) by omega, this]
      simp) (by show nT rs n0 k + (rs k).new = _; rw [hn, hrk]) (by omega)
    refine ⟨fun j hj => ?_, fun j hj1 hj2 => ?_⟩
    · show (itsOf (k + 1) (n + r.new) l rl _).get j = _
      rw [h1 j (by omega), Tr.get_set _ _ _ (by omega), if_neg (by omega)]
    · show ∃ o bm, _ ∧ (itsOf (k + 1) (n + r.new) l rl _).get j = _
      by_cases e : j = k
      · subst e
        refine ⟨o, bmOf T o, ho, ?_⟩
        rw [h1 j (by omega), Tr.get_set _ _ _ (by omega), if_pos rfl, hn, hrk]
      · exact h2 j (by omega) (by simp only [List.length_cons] at hj2; omega)
theorem bm_fold {T : Tr It} {k : Nat} : ∀ (l : List Edge) (s : Nat), Nat.testBit (l.foldl (fun s e => bif Region.binds .any e then s ||| (2 ^ e.on ||| (match T.get e.on with | some it => it.bm | none => 0)) else s) s) k = true →
    Nat.testBit s k = true ∨ ∃ e ∈ l, Region.binds .any e = true ∧ (e.on = k ∨ ∃ it, T.get e.on = some it ∧ Nat.testBit it.bm k = true)
  | [], s, h => .inl h
  | e :: l, s, h => by
    simp only [List.foldl_cons] at h
    rcases bm_fold l _ h with h1 | ⟨e', h1, h2⟩
    · cases hb : Region.binds .any e with
      | false => rw [hb] at h1; exact .inl h1
      | true =>
        rw [hb] at h1
        simp only [cond_true, Nat.testBit_or, Bool.or_eq_true] at h1
        rcases h1 with h1 | h1 | h1
        · exact .inl h1
        · refine .inr ⟨e, by simp, hb, .inl ?_⟩
          rw [Nat.testBit_two_pow] at h1
          simpa using h1
        · cases hq : T.get e.on with
          | none => rw [hq] at h1; simp at h1
          | some it => rw [hq] at h1; exact .inr ⟨e, by simp, hb, .inr ⟨it, hq, h1⟩⟩
    · exact .inr ⟨e', List.mem_cons_of_mem _ h1, h2⟩
theorem hasN_true {l : List Nat} {x : Nat} (h : x ∈ l) : hasN l x = true := List.any_eq_true.2 ⟨x, h, Nat.beq_refl x⟩
theorem wrKeys {wr : Wr} {e : Nat} (h : (wrGet wr e).isSome) : e ∈ keysOf wr := by
  obtain ⟨c, hc⟩ := Option.isSome_iff_exists.1 h
  exact List.mem_map.2 ⟨_, wrGet_mem hc, rfl⟩
theorem idsWr_get : ∀ {wr : Wr} {l : List Nat} {e : Nat} {c : Ent}, idsWr wr = some l → wrGet wr e = some (some c) → ∃ k, idsE c = some k ∧ ∀ i ∈ k, i ∈ l
  | [], l, e, c, h, hg => by cases hg
  | (x, none) :: wr, l, e, c, h, hg => by
    change (bif Nat.beq x e then some none else wrGet wr e) = some (some c) at hg
    cases hb : Nat.beq x e with
    | true => rw [hb] at hg; cases hg
    | false => rw [hb] at hg; exact idsWr_get (wr := wr) h hg
  | (x, some y) :: wr, l, e, c, h, hg => by
    change (bif Nat.beq x e then some (some y) else wrGet wr e) = some (some c) at hg
    unfold idsWr at h
    split at h
    · rename_i a b ha hbb
      cases h
      cases hb : Nat.beq x e with
      | true => rw [hb] at hg; cases hg; exact ⟨a, ha, fun i hi => List.mem_append_left _ hi⟩
      | false =>
        rw [hb] at hg
        obtain ⟨k, h1, h2⟩ := idsWr_get (wr := wr) hbb hg
        exact ⟨k, h1, fun i hi => List.mem_append_right _ (h2 i hi)⟩
    · cases h
structure NoC (ops : Array Oper) (i j : It) : Prop where
  dst : ∀ t, i.o.dst = some t → j.o.dst ≠ some t
  look : ∀ t, t ∈ i.o.looksAt ops → j.o.dst ≠ some t
  look' : ∀ t, t ∈ j.o.looksAt ops → i.o.dst ≠ some t
  mem : ∀ e, (wrGet j.r.wr e).isSome → e ∉ i.r.acc ∧ ¬ (wrGet i.r.wr e).isSome ∧ ¬ (i.lo ≤ e ∧ e < i.lo + i.r.new)
  mem' : ∀ e, (wrGet i.r.wr e).isSome → e ∉ j.r.acc ∧ ¬ (wrGet j.r.wr e).isSome ∧ ¬ (j.lo ≤ e ∧ e < j.lo + j.r.new)
theorem noConf_ok {ops : Array Oper} {i j : It} (h : noConf ops i j = true) : NoC ops i j := by
  unfold noConf at h
  simp only [Bool.and_eq_true] at h
  obtain ⟨⟨⟨h1, h2⟩, h3⟩, h4⟩ := h
  have mem : ∀ (a b : It), (keysOf b.r.wr).all (fun e => !hasN a.r.acc e && !hasN (keysOf a.r.wr) e && !(Nat.ble a.lo e && Nat.blt e (a.lo + a.r.new))) = true → ∀ e, (wrGet b.r.wr e).isSome → e ∉ a.r.acc ∧ ¬ (wrGet a.r.wr e).isSome ∧ ¬ (a.lo ≤ e ∧ e < a.lo + a.r.new) := by
    intro a b h e he
    have := (List.all_eq_true.1 h) e (wrKeys he)
    simp only [Bool.and_eq_true, Bool.not_eq_true'] at this
    refine ⟨fun q => ?_, fun q => ?_, fun q => ?_⟩
    · rw [hasN_true q] at this; cases this.1.1
    · rw [hasN_true (wrKeys q)] at this; cases this.1.2
    · have h5 := this.2
      rw [Nat.ble_eq_true_of_le q.1, show Nat.blt e (a.lo + a.r.new) = true from Nat.ble_eq_true_of_le q.2] at h5
      cases h5
  refine ⟨fun t ht hj => ?_, fun t ht hj => ?_, fun t ht hi => ?_, mem i j h3, mem j i h4⟩
  · rw [hj] at h1
    simp only [Bool.and_eq_true, Bool.not_eq_true'] at h1
    rw [ht] at h1
    have := h1.2
    simp only [Bool.not_eq_true'] at this
    rw [show Nat.beq t t = true from Nat.beq_refl t] at this
    cases this
  · rw [hj] at h1
    simp only [Bool.and_eq_true, Bool.not_eq_true'] at h1
    rw [hasN_true ht] at h1
    cases h1.1
  · rw [hi] at h2
    simp only [Bool.not_eq_true'] at h2
    rw [hasN_true ht] at h2
    cases h2
theorem wpAnyIn_of {P : Program} {ops : Array Oper} {l : Nat} {R : Exit → Act → World → Prop} (hq : ¬ LetsOut R) (hd : ∀ (i : Nat) (o : Oper), ops[i]? = some o → ∀ c, o.op ≠ .defer c) : ∀ (fuel : Nat) (listed : Array Bool) (a : Act) (w : World), wpAny P .any ops R fuel listed a w → wpAnyIn (fen (some l)) 0 P .any ops R fuel listed a w
  | 0, _, _, _, h => h
  | fuel + 1, listed, a, w, h => ⟨h.1, fun i hi => by
    obtain ⟨_, o, ho, _⟩ := mem_ready.1 hi
    exact wpOp_lift (ro := some l) ho (hd i o ho) hq (wpOp_mono (fun a' w' h' => wpAnyIn_of hq hd fuel _ a' w' h') (h.2 i hi))⟩
theorem exDraw_sound {P : Program} {callF : CallF} (hc : CallSound P callF) (hm : P.follows .mixedOrders = true) : DrawSound P (exDraw P callF) := by
  intro ops σ σ' id h W
  unfold exDraw at h
  cases hlim : Nat.blt ops.size LIM with
  | false => rw [hlim] at h; cases h
  | true =>
    rw [hlim] at h
    have hlim : ops.size < LIM := Nat.le_of_ble_eq_true hlim
    simp only [cond_true] at h
    split at h
    · cases h
    rename_i rl σ1 hrun
    cases hchk : (List.range ops.size).all (chkIt (itsOf 0 σ.n ops.toList rl .nil) ops σ.n) with
    | false => rw [hchk] at h; cases h
    | true =>
      rw [hchk] at h
      cases h
      obtain ⟨rs, hrs⟩ : ∃ rs : Nat → Rc, (fun i => rl.getD i default) = rs := ⟨_, rfl⟩
      obtain ⟨s1, s2, s3, s4, s5, s6, s7, s8, s9⟩ := drawOps_spec (rs := rs) (tm0 := σ.tm.get) (H0 := σ.M.get) (n0 := σ.n) hc ops.toList 0 σ rl σ' rfl (Nat.zero_le _) hrun (fun j _ => by rw [← hrs]; simp) rfl rfl rfl W
      obtain ⟨_, its⟩ := itsOf_get (ops := ops) (rs := rs) (n0 := σ.n) ops.toList rl 0 σ.n .nil rfl s1 (fun j _ => by rw [← hrs]; simp) rfl (by simp; omega)
      generalize hT : itsOf 0 σ.n ops.toList rl .nil = T at its hchk
      have its : ∀ j, j < ops.size → ∃ o bm, ops[j]? = some o ∧ T.get j = some ⟨o, rs j, nT rs σ.n j, bm⟩ := fun j hj => its j (Nat.zero_le _) (by simpa using hj)
      have chk : ∀ i, i < ops.size → ∀ o, ops[i]? = some o → ∀ bm, T.get i = some ⟨o, rs i, nT rs σ.n i, bm⟩ → ((∀ cs b, o.op ≠ .select cs b) ∧ ∀ c, o.op ≠ .defer c) ∧ (∀ e ∈ o.after, Region.binds .any e = true → e.on < i) ∧ bm = bmOf T o ∧
          (∀ j, j < i → ∃ jt, T.get j = some jt ∧ (Nat.testBit bm j = true ∨ NoC ops ⟨o, rs i, nT rs σ.n i, bm⟩ jt)) ∧ ∃ a b, idsV dep (rs i).v = some a ∧ idsWr (rs i).wr = some b ∧ (∀ x ∈ a, nameOk T σ.n i bm x = true) ∧ ∀ x ∈ b, nameOk T σ.n i bm x = true := by
        intro i hi o ho bm hti
        have := (List.all_eq_true.1 hchk) i (List.mem_range.2 hi)
        unfold chkIt at this
        rw [hti] at this
        simp only [Bool.and_eq_true] at this
        obtain ⟨⟨⟨⟨c1, c2⟩, c3⟩, c4⟩, c5⟩ := this
        refine ⟨?_, ?_, Nat.eq_of_beq_eq_true c3, ?_, ?_⟩
        · refine ⟨fun cs b e => ?_, fun c e => ?_⟩ <;> (rw [e] at c1; cases c1)
        · intro e he hb
          have := (List.all_eq_true.1 c2) e (by simpa using he)
          simp only [hb, Bool.not_true, Bool.false_or] at this
          exact Nat.le_of_ble_eq_true this
        · intro j hj
          have := (List.all_eq_true.1 c4) j (List.mem_range.2 hj)
          split at this
          · rename_i jt hjt
            rw [Bool.or_eq_true] at this
            exact ⟨jt, hjt, this.imp (fun h => h) noConf_ok⟩
          · cases this
        · split at c5
          · rename_i a b ha hb
            rw [Bool.and_eq_true] at c5
            exact ⟨a, b, ha, hb, fun x hx => (List.all_eq_true.1 c5.1) x hx, fun x hx => (List.all_eq_true.1 c5.2) x hx⟩
          · cases c5
      let Bf : Nat → Nat → Bool := fun i k => match T.get i with | some it => Nat.testBit it.bm k | none => false
      have hBf : ∀ i o bm, T.get i = some ⟨o, rs i, nT rs σ.n i, bm⟩ → ∀ k, Bf i k = Nat.testBit bm k := by
        intro i o bm h k
        show (match T.get i with | some it => Nat.testBit it.bm k | none => false) = _
        rw [h]
      have pre : ∀ (i : Nat) (o : Oper) (k : Nat), ops[i]? = some o → Bf i k = true → ∃ e ∈ o.after, Region.binds .any e = true ∧ (e.on = k ∨ Bf e.on k = true) := by
        intro i o k ho hb
        have hi : i < ops.size := (Array.getElem?_eq_some_iff.1 ho).1
        obtain ⟨o', bm, ho', hti⟩ := its i hi
        rw [ho] at ho'
        cases ho'
        rw [hBf i o bm hti] at hb
        obtain ⟨_, _, c3, _⟩ := chk i hi o ho bm hti
        rw [c3] at hb
        rcases bm_fold _ _ hb with q | ⟨e, q1, q2, q3⟩
        · simp at q
        · refine ⟨e, by simpa using q1, q2, q3.imp (fun h => h) ?_⟩
          rintro ⟨it, h1, h2⟩
          show (match T.get e.on with | some it => Nat.testBit it.bm k | none => false) = true
          rw [h1]
          exact h2
      have aft : ∀ (i : Nat) (o : Oper), ops[i]? = some o → ∀ e ∈ o.after, Region.binds .any e = true → e.on < i := by
        intro i o ho
        have hi : i < ops.size := (Array.getElem?_eq_some_iff.1 ho).1
        obtain ⟨o', bm, ho', hti⟩ := its i hi
        rw [ho] at ho'
        cases ho'
        exact (chk i hi o ho bm hti).2.1
      have blt : ∀ i k, i < ops.size → Bf i k = true → k < i := by
        intro i
        induction i using Nat.strongRecOn with
        | _ i ih =>
          intro k hi hb
          obtain ⟨o, ho⟩ : ∃ o, ops[i]? = some o := ⟨_, Array.getElem?_eq_getElem hi⟩
          obtain ⟨e, h1, h2, h3⟩ := pre i o k ho hb
          have h4 := aft i o ho e h1 h2
          rcases h3 with rfl | h3
          · exact h4
          · exact Nat.lt_trans (ih e.on h4 k (Nat.lt_trans h4 hi) h3) h4
      have conf : ∀ i j o o' bm bm', i < ops.size → j < ops.size → T.get i = some ⟨o, rs i, nT rs σ.n i, bm⟩ → T.get j = some ⟨o', rs j, nT rs σ.n j, bm'⟩ → ops[i]? = some o → ops[j]? = some o' → j = i ∨ Bf i j = true ∨ Bf j i = true ∨ NoC ops ⟨o, rs i, nT rs σ.n i, bm⟩ ⟨o', rs j, nT rs σ.n j, bm'⟩ ∨ NoC ops ⟨o', rs j, nT rs σ.n j, bm'⟩ ⟨o, rs i, nT rs σ.n i, bm⟩ := by
        intro i j o o' bm bm' hi hj hti htj ho ho'
        rcases Nat.lt_trichotomy j i with hlt | heq | hgt
        · obtain ⟨jt, q1, q2⟩ := (chk i hi o ho bm hti).2.2.2.1 j hlt
          rw [htj] at q1
          cases q1
          rcases q2 with q2 | q2
          · exact .inr (.inl (by rw [hBf i o bm hti]; exact q2))
          · exact .inr (.inr (.inr (.inl q2)))
        · exact .inl heq
        · obtain ⟨jt, q1, q2⟩ := (chk j hj o' ho' bm' htj).2.2.2.1 i hgt
          rw [hti] at q1
          cases q1
          rcases q2 with q2 | q2
          · exact .inr (.inr (.inl (by rw [hBf j o' bm' htj]; exact q2)))
          · exact .inr (.inr (.inr (.inr q2)))
      have nam : ∀ i, i < ops.size → ∀ o bm, T.get i = some ⟨o, rs i, nT rs σ.n i, bm⟩ → ∀ x, nameOk T σ.n i bm x = true → names rs σ.n Bf i x := by
        intro i hi o bm hti x hx
        unfold nameOk at hx
        rw [Bool.or_eq_true] at hx
        rcases hx with hx | hx
        · exact .inl (Nat.le_of_ble_eq_true hx)
        · obtain ⟨k, hk, hx⟩ := List.any_eq_true.1 hx
          have hk := List.mem_range.1 hk
          rw [Bool.and_eq_true, Bool.or_eq_true] at hx
          obtain ⟨h1, h2⟩ := hx
          obtain ⟨ok, bk, _, htk⟩ := its k (by omega)
          rw [htk] at h2
          simp only [Bool.and_eq_true] at h2
          refine .inr ⟨k, ?_, Nat.le_of_ble_eq_true h2.1, Nat.le_of_ble_eq_true h2.2⟩
          rcases h1 with h1 | h1
          · exact .inl (Nat.eq_of_beq_eq_true h1)
          · exact .inr (by rw [hBf i o bm hti]; exact h1)
      have TT : TR P ops rs σ.tm.get σ.M.get σ.n σ.L Bf := by
        refine ⟨fun i hi => (s9 i (Nat.zero_le _) hi).1, fun i hi => (s9 i (Nat.zero_le _) hi).2.1, W.fitm, W.fitt, fun i hi => (s9 i (Nat.zero_le _) hi).2.2.1, ?_, ?_, ?_, aft, blt, pre, fun i t hi h => (s9 i (Nat.zero_le _) hi).2.2.2.1 t h, ?_, ?_⟩
        · intro i hi
          obtain ⟨o, bm, ho, hti⟩ := its i hi
          obtain ⟨_, _, _, _, a, b, h1, h2, h3, h4⟩ := chk i hi o ho bm hti
          exact Sup.of h1 fun x hx => nam i hi o bm hti x (h3 x hx)
        · intro i hi e c hec
          obtain ⟨o, bm, ho, hti⟩ := its i hi
          obtain ⟨_, _, _, _, a, b, h1, h2, h3, h4⟩ := chk i hi o ho bm hti
          obtain ⟨k, q1, q2⟩ := idsWr_get h2 hec
          exact SupE.of q1 fun x hx => nam i hi o bm hti x (h4 x (q2 x hx))
        · intro i o ho
          have hi : i < ops.size := (Array.getElem?_eq_some_iff.1 ho).1
          obtain ⟨o', bm, ho', hti⟩ := its i hi
          rw [ho] at ho'
          cases ho'
          exact (chk i hi o ho bm hti).1
        · intro i j o t ho hj hlook hdj
          have hi : i < ops.size := (Array.getElem?_eq_some_iff.1 ho).1
          obtain ⟨o1, bm, ho1, hti⟩ := its i hi
          rw [ho] at ho1
          cases ho1
          obtain ⟨o', bm', ho', htj⟩ := its j hj
          have hdj' : o'.dst = some t := by unfold dstOf at hdj; rw [ho'] at hdj; exact hdj
          rcases conf i j o o' bm bm' hi hj hti htj ho ho' with q | q | q | q | q
          · exact .inl q
          · exact .inr (.inl q)
          · exact .inr (.inr q)
          · exfalso
            rcases hlook with hl | hl
            · exact q.look t hl hdj'
            · exact q.dst t hl hdj'
          · exfalso
            rcases hlook with hl | hl
            · exact q.look' t hl hdj'
            · exact q.dst t hdj' hl
        · intro i j e hi hj hacc hwr
          obtain ⟨o, bm, ho, hti⟩ := its i hi
          obtain ⟨o', bm', ho', htj⟩ := its j hj
          rcases conf i j o o' bm bm' hi hj hti htj ho ho' with q | q | q | q | q
          · exact .inl q
          · exact .inr (.inl q)
          · exact .inr (.inr q)
          · exfalso
            obtain ⟨z1, z2, z3⟩ := q.mem e hwr
            rcases hacc with hl | hl | hl
            · exact z1 hl
            · exact z2 hl
            · exact z3 hl
          · exfalso
            obtain ⟨z1, z2, z3⟩ := q.mem' e hwr
            rcases hacc with hl | hl | hl
            · exact z1 hl
            · exact z2 hl
            · exact z3 hl
      refine ⟨s5, by rw [← s4]; exact nT_mono (Nat.zero_le _), s6, fun B ρ a w ro hB s => ?_⟩
      have hQ : ∀ D ρ' a' w', (∀ i, i < ops.size → D i = true) → Inv B (· ∈ σ'.md) ops rs σ.tm.get σ.M.get σ.L (marks ρ σ.ds) ρ σ.n D ρ' a' w' → Post B σ.n σ' .normal ρ .normal a' w' := by
        intro D ρ' a' w' hall I
        have e1 : HD rs σ.M.get D ops.size = σ'.M.get := by
          rw [← s3]
          funext e
          have := HD_agree (rs := rs) (H0 := σ.M.get) (D := D) (i := ops.size) (e := e) ops.size fun j hj _ => by simp [hall j hj, hj]
          rw [Nat.min_self] at this
          exact this
        have e2 : ∀ t, tmD ops rs σ.tm.get D ops.size t = σ'.tm.get t := by
          intro t
          rw [← s2]
          have := tmD_agree (ops := ops) (rs := rs) (tm0 := σ.tm.get) (D := D) (i := ops.size) (t := t) ops.size fun j hj _ => by simp [hall j hj, hj]
          rw [Nat.min_self] at this
          exact this
        refine ⟨rfl, ρ', ⟨?_, by rw [I.size, s6], fun t v hv => I.tm t v (by rw [e2]; exact hv), by have := I.sim; rw [e1] at this; exact this⟩, I.agr⟩
        rw [I.def0, s7]
        exact marks_alike W.ds I.agr
      have hany : wpAny P .any ops (Post B σ.n σ' .normal ρ) ops.size (Array.replicate ops.size false) a w.drew := by
        refine wpAny_ex TT hB (fun i hi e _ he => (s9 i (Nat.zero_le _) hi).2.2.2.2 e he) hQ _ _ ρ _ _ (by simp) (by simp [undn]) (fun j k hj hjd => by simp [Array.getD] at hjd) ?_
        have e1 : (fun j => (Array.replicate ops.size false).getD j false) = fun _ => false := funext fun j => by simp [Array.getD]
        rw [e1]
        refine Inv.start (fun _ => rfl) s.def0 s.size s.tm ?_
        have s' := s.sim.mono s8
        exact ⟨⟨fun e c h => holds_kept rfl (s'.sim.holds e c h), s'.sim.inj⟩, s'.agree, s'.liv, s'.own, s'.keep.trans (Keep.drew w) (fun k _ h => h) (fun k _ h => h)⟩
      cases ro with
      | none => exact wpIn_wide.2 (wp_region_any hm hany)
      | some l =>
        exact wpIn_region_any hm (wpAnyIn_of (noOut (e := .normal) trivial) (fun i o ho => (TT.sel i o ho).2) _ _ _ _ hany)
/-- a call of so many calls one within the other -/
def exCall (P : Program) (fuel : Nat) : Nat → CallF
  | 0 => fun _ _ _ _ => none
  | d + 1 => exCallB P (exCall P fuel d) (exDraw P (exCall P fuel d)) fuel
theorem exCall_sound {P : Program} (hm : P.follows .mixedOrders = true) (fuel : Nat) : ∀ d, CallSound P (exCall P fuel d)
  | 0 => fun f args M n r h => by cases h
  | d + 1 => exCallB_sound (exCall_sound hm fuel d) (exDraw_sound (exCall_sound hm fuel d) hm) fuel
/-- A CALL THAT THE EXECUTOR HAS RUN returns what it says, and leaves what there was -/
theorem ran {P : Program} (hm : P.follows .mixedOrders = true) (fuel d : Nat) {f : FuncId} {v : Value} (h : (exCall P fuel d f [] .nil 0).any (fun r => match idsV dep r.v with | some [] => true | _ => false) = true) (hv : (exCall P fuel d f [] .nil 0).map (·.v) = some v) (w : World) : Calls P f #[] w fun r w' => r = .returned v ∧ Below w.heap.size w w' := by
  cases hr : exCall P fuel d f [] .nil 0 with
  | none => rw [hr] at hv; cases hv
  | some r =>
    rw [hr] at h hv
    cases hv
    have hg : gnd r.v = true := h
    obtain ⟨_, x⟩ := exCall_sound hm fuel d f [] .nil 0 r hr ⟨fun e c hc => by simp [Tr.get] at hc⟩ (fun v hv => by cases hv)
    refine (x ⟨id, id⟩ w ⟨fun e c hc => by simp [Tr.get] at hc, fun e e' c c' hc => by simp [Tr.get] at hc⟩).mono ?_
    rintro e w' ⟨ρ', rfl, t⟩
    refine ⟨by rw [gnd_ren hg], t.keep.to_below fun k _ ⟨e, _, h1, _⟩ => by simp at h1⟩
end Ex
end Go.Proofs.Ytlpjnhoafaamkaa
