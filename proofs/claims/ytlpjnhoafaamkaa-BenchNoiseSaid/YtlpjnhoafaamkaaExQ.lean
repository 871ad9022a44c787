/-
  AN EXECUTOR, checked once: append, copy and what is made.
-/
import Derived.Test.YtlpjnhoafaamkaaExP
set_option linter.unusedVariables false
set_option linter.unusedSimpArgs false
namespace Go.Proofs.Ytlpjnhoafaamkaa
open Go Go.RowKit
namespace Ex

abbrev Fit (n : Nat) (v : Value) : Prop := Sup (· < n) v
abbrev FitE (n : Nat) (c : Ent) : Prop := SupE (· < n) c
theorem fit_map {ρ ρ' : Nm} {n : Nat} {vs : List Value} (h : ∀ v ∈ vs, Fit n v) (ha : ∀ i, i < n → alike ρ ρ' i) : vs.map (ren ρ) = vs.map (ren ρ') := sup_map h ha
theorem with_alike (ρ : Nm) (lo b n : Nat) {i : Nat} (h : i < lo) : alike ρ (ρ.with lo b n) i := with_far ρ lo b n (by omega)
theorem fit_cells {n : Nat} {c : Ent} {l : List Value} (h : FitE n c) (hc : c.cells = some l) : ∀ v ∈ l, Fit n v := by
  cases c with
  | obj o => cases o with
    | cells c T f => cases hc; exact h
    | _ => cases hc
  | row xs s T => cases hc; exact h
  | loop => cases hc
theorem cellsAt_mem {l xs : List Value} {off n : Nat} (h : cellsAt l off n = some xs) : ∀ v ∈ xs, v ∈ l := by
  unfold cellsAt at h
  cases hb : Nat.ble (off + n) l.length with
  | false => rw [hb] at h; cases h
  | true =>
    rw [hb] at h
    cases h
    exact fun v hv => List.mem_of_mem_drop (List.mem_of_mem_take hv)
/-- an append to a slice of one's own -/
theorem run_append_mine {P : Program} {w : World} {t ty e : TypeId} {i : TypeInfo} {z : Value} {size bytes : Nat} (ht : P.underlying t = some (.slice e)) (hi : P.info? e = some i) (hz : i.zero = some z)
    (hsize : i.size = size) (hby : i.bytes = bytes) (hzs : z.cells.size = size) (hsz : 0 < size)
    {v : Value} {n : Nat} {xs : List Value} (hown : w.ownsRow 0 e size v n xs)
    {a : Addr} {m c : Nat} {news : List Value} (hl : news.length = m * size) (hnews : ∀ j u, news[j]? = some u → w.cell? (a.add j) = some u) (h1 : ∀ u ∈ news, u.oneCell' = true)
    (h63 : n + m ≤ maxLen) (hbytes : (n + m) * bytes ≤ 140737488355328) :
    ∃ v' w', (Builtin.append_ #[t, t] ty #[v, .slice (some a) m c]).run P w = .ok v' w' ∧ w'.ownsRow 0 e size v' (n + m) (xs ++ news) ∧ w.grownBy w' v.ownBlock ∧ (∀ k, v'.ownBlock = some k → v.ownBlock = some k ∨ w.heap.size ≤ k) := by
  rcases hown.2 with ⟨rfl, rfl⟩ | ⟨g, cap, cur, rfl, hbg, hg, hnc, hcm, hcs, htake⟩
  · have hx : xs = [] := List.eq_nil_of_length_eq_zero (by simpa using hown.1)
    subst hx
    obtain ⟨v', w', r1, r2, r3, r4⟩ := run_append_own (P := P) w w.heap.size t ty e i z size bytes ht hi hz hsize hby hzs hsz _ 0 [] (World.ownsRow_nil w w.heap.size e size) a m c news hl hnews h1 h63 hbytes (Nat.le_refl _)
    refine ⟨v', w', r1, ⟨r2.1, ?_⟩, r3, fun k hk => .inr ?_⟩
    · rcases r2.2 with q | ⟨g, cap, cur, q1, q2, q3⟩
      · exact .inl q
      · exact .inr ⟨g, cap, cur, q1, Nat.zero_le _, q3⟩
    · rcases r2.2 with ⟨q, _⟩ | ⟨g, cap, cur, q1, q2, q3⟩
      · rw [q] at hk; simp [Value.ownBlock] at hk
      · rw [q1] at hk; simp [Value.ownBlock] at hk; omega
  · obtain ⟨v', w', r1, r2, r3, r4⟩ := run_append_own (P := P) w 0 t ty e i z size bytes ht hi hz hsize hby hzs hsz _ n xs hown a m c news hl hnews h1 h63 hbytes (Nat.zero_le _)
    refine ⟨v', w', r1, r2, r3, fun k hk => ?_⟩
    by_cases hroom : n + m ≤ cap
    · have hfit : n * i.size + news.length ≤ cur.size := by rw [hl, hsize, hcs, ← Nat.add_mul]; exact Nat.mul_le_mul_right _ hroom
      have hr := run_append_room (P := P) w t ty e i ht hi g n cap cur hg a m c news (by rw [hsize]; exact hl) hnews h1 hroom hfit
      rw [hr] at r1
      cases r1
      exact .inl hk
    · have holds : ∀ j u, xs[j]? = some u → w.cell? ((⟨g, 0, none⟩ : Addr).add j) = some u := hown.cells (g := g) rfl
      have h63' : ((n + m : Nat) : Int) ≤ 9223372036854775807 := by simp only [maxLen] at h63; omega
      have hr := run_append_grow (P := P) w t ty e i z ht hi hz ⟨g, 0, none⟩ n cap xs (by rw [hsize]; exact hown.1) holds a m c news (by rw [hsize]; exact hl) hnews (by omega) h63' (by rw [hby]; exact growslice_fits (by omega) hbytes)
      rw [hr] at r1
      cases r1
      simp [Value.ownBlock] at hk
      exact .inr (by omega)
/-- the slice of a new row -/
def rowV (n len : Nat) : Value := .slice (some ⟨n, 0, none⟩) len (CB + n * CD)
theorem rowV_ren {ρ : Nm} (n len g cap : Nat) : ren (ρ.with n g cap) (rowV n len) = .slice (some ⟨g, 0, none⟩) len cap := by
  unfold rowV
  have h1 : capN (ρ.with n g cap) (CB + n * CD) = cap := by
    unfold capN
    rw [if_neg (by omega), Nat.add_sub_cancel_left, Nat.mul_div_cancel _ (by decide), Nat.mul_mod_left, Nat.sub_zero, (with_self ρ n g cap).2]
  simp [aren, h1, (with_self ρ n g cap).1]
theorem rowE {ρ : Nm} {w : World} {n g cap : Nat} {len size : Nat} {T : TypeId} {xs : List Value} (hx : ∀ v ∈ xs, Fit n v) (hl : 0 < len) (h : w.ownsRow 0 T size (.slice (some ⟨g, 0, none⟩) len cap) len (xs.map (ren ρ))) : (Ent.row xs size T).holds (ρ.with n g cap) w n := by
  rcases h.2 with ⟨h1, _⟩ | ⟨g', cap', cur, h1, h2, h3, h4, h5, h6, h7⟩
  · cases h1
  · cases h1
    have hlen := h.1
    rw [List.length_map] at hlen
    refine ⟨cur, by rw [(with_self ρ n g cap).1]; exact h3, ?_, by rw [(with_self ρ n g cap).2]; exact h6, by rw [(with_self ρ n g cap).2]; exact h5, ?_⟩
    · rw [hlen, h6]; exact Nat.mul_le_mul_right _ h4
    · rw [hlen, h7]
      exact fit_map hx fun i hi => with_alike ρ n g cap hi
structure App (P : Program) (t e : TypeId) (size bytes : Nat) : Prop where
  und : P.underlying t = some (.slice e)
  inf : ∃ i z, P.info? e = some i ∧ i.zero = some z ∧ i.size = size ∧ i.bytes = bytes ∧ z.cells.size = size
  pos : 0 < size
/-- the kind of a slice's elements -/
def appT (P : Program) (t : TypeId) : Option (TypeId × Nat × Nat) :=
  match P.underlying t with
  | some (.slice e) => match P.info? e with
    | some i => match i.zero with
      | some z => bif Nat.beq z.cells.size i.size && Nat.blt 0 i.size then some (e, i.size, i.bytes) else none
      | none => none
    | none => none
  | _ => none
theorem appT_ok {P : Program} {t e : TypeId} {size bytes : Nat} (h : appT P t = some (e, size, bytes)) : App P t e size bytes := by
  unfold appT at h
  split at h
  · rename_i e' hu
    split at h
    · rename_i i hi
      split at h
      · rename_i z hz
        cases hb : (Nat.beq z.cells.size i.size && Nat.blt 0 i.size) with
        | false => rw [hb] at h; cases h
        | true =>
          rw [hb] at h
          cases h
          simp only [Bool.and_eq_true] at hb
          exact ⟨hu, ⟨i, z, hi, hz, rfl, rfl, Nat.eq_of_beq_eq_true hb.1⟩, Nat.le_of_ble_eq_true hb.2⟩
      · cases h
    · cases h
  · cases h
/-- what is appended -/
def srcOf (H : Nat → Option Ent) (size : Nat) (x : Value) : Option (Nat × List Value × List Nat) :=
  match x with
  | .slice none 0 0 => some (0, [], [])
  | .slice (some ⟨f, off, none⟩) 0 _ => some (0, [], [])
  | .slice (some ⟨f, off, none⟩) m _ => match (H f).bind Ent.cells with
    | some l => match cellsAt l off (m * size) with
      | some xs => bif xs.all (·.oneCell') then some (m, xs, [f]) else none
      | none => none
    | none => none
  | _ => none
def small (n bytes : Nat) : Bool := Nat.ble n 1000000000 && Nat.ble (n * bytes) 140737488355328
def evAppend (P : Program) (t : TypeId) (s x : Value) (H : Nat → Option Ent) (n : Nat) : Option Res :=
  match appT P t with
  | none => none
  | some (e, size, bytes) => match srcOf H size x with
    | none => none
    | some (0, _, _) => match s with
      | .slice a k c => bif Nat.ble k c && capOk s then some (.val s [] [] 0) else match a with
        | some ⟨b, 0, none⟩ => match H b with
          | some (.row xs sz T) => bif Nat.beq c (CB + b * CD) && Nat.ble (k * sz) xs.length && Nat.blt 0 sz then some (.val s [] [b] 0) else none
          | _ => none
        | _ => none
      | _ => none
    | some (m + 1, news, acc) => match s with
      | .slice none 0 0 => bif small (m + 1) bytes then some (.val (rowV n (m + 1)) [(n, some (.row news size e))] acc 1) else none
      | .slice (some ⟨b, 0, none⟩) k c => bif small (k + (m + 1)) bytes then
        match H b with
        | some (.row xs sz T) => bif Nat.beq sz size && Nat.beq T e && Nat.beq c (CB + b * CD) && Nat.ble (k * size) xs.length then
            some (.val (rowV n (k + (m + 1))) [(b, none), (n, some (.row (xs.take (k * size) ++ news) size e))] (b :: acc) 1) else none
        | some (.obj (.cells cs T (0, 0))) => bif Nat.beq T e && Nat.blt c CB && Nat.beq cs.size (c * size) && Nat.ble k c then
            bif Nat.ble (k + (m + 1)) c then (putAt cs.toList (k * size) news).map fun l => .val (.slice (some ⟨b, 0, none⟩) (k + (m + 1)) c) [(b, some (.obj (.cells l.toArray T (0, 0))))] (b :: acc) 0
            else some (.val (rowV n (k + (m + 1))) [(n, some (.row (cs.toList.take (k * size) ++ news) size e))] (b :: acc) 1)
          else none
        | _ => none
        else none
      | _ => none
theorem resA_mem {acc : List Nat} {H : Nat → Option Ent} {e : Nat} (h : e ∈ acc) : resA acc H e = H e := by
  unfold resA
  have : acc.any (Nat.beq e ·) = true := List.any_eq_true.2 ⟨e, h, Nat.beq_refl e⟩
  rw [this]
  rfl
theorem resA_some {acc : List Nat} {H : Nat → Option Ent} {e : Nat} {c : Ent} (h : resA acc H e = some c) : e ∈ acc ∧ H e = some c := by
  unfold resA at h
  cases hb : acc.any (Nat.beq e ·) with
  | false => rw [hb] at h; cases h
  | true =>
    rw [hb] at h
    obtain ⟨x, hx, hxe⟩ := List.any_eq_true.1 hb
    exact ⟨(Nat.eq_of_beq_eq_true hxe) ▸ hx, h⟩
/-- what is known of the memory that a step looks at -/
structure Pre (ρ : Nm) (H : Nat → Option Ent) (n : Nat) (acc : List Nat) (w : World) : Prop where
  sim : SimH ρ (resA acc H) w
  fit : ∀ e c, H e = some c → FitE n c ∧ e < n
theorem Pre.holds {ρ : Nm} {H : Nat → Option Ent} {n : Nat} {acc : List Nat} {w : World} (h : Pre ρ H n acc w) {e : Nat} {c : Ent} (he : e ∈ acc) (hc : H e = some c) : c.holds ρ w e :=
  h.sim.holds e c (by rw [resA_mem he]; exact hc)
theorem srcOf_zero {H : Nat → Option Ent} {size : Nat} {x : Value} {xs : List Value} {acc : List Nat} (h : srcOf H size x = some (0, xs, acc)) : (∃ a c, x = .slice a 0 c) := by
  unfold srcOf at h
  split at h
  · exact ⟨_, _, rfl⟩
  · exact ⟨_, _, rfl⟩
  · rename_i f off m c hm
    split at h
    · split at h
      · rename_i xs' _
        cases hb : (xs'.all fun x => x.oneCell') <;> rw [hb] at h
        · cases h
        · cases h; exact ⟨_, _, rfl⟩
      · cases h
    · cases h
  · cases h
theorem srcOf_succ {H : Nat → Option Ent} {size : Nat} {x : Value} {m : Nat} {xs : List Value} {acc : List Nat} (h : srcOf H size x = some (m + 1, xs, acc)) : ∃ f off c l e, x = .slice (some ⟨f, off, none⟩) (m + 1) c ∧ H f = some e ∧ e.cells = some l ∧ cellsAt l off ((m + 1) * size) = some xs ∧ (∀ u ∈ xs, u.oneCell' = true) ∧ acc = [f] := by
  unfold srcOf at h
  split at h
  · cases h
  · cases h
  · rename_i f off m' c hm
    split at h
    · rename_i l hl
      split at h
      · rename_i xs' hx
        cases hb : (xs'.all fun x => x.oneCell') <;> rw [hb] at h
        · cases h
        · cases h
          obtain ⟨e, he, hel⟩ := Option.bind_eq_some_iff.1 hl
          exact ⟨f, off, c, l, e, rfl, he, hel, hx, fun u hu => (List.all_eq_true.1 hb) u hu, rfl⟩
      · cases h
    · cases h
  · cases h
theorem app_nothing {P : Program} {w : World} {t e : TypeId} {size bytes : Nat} (A : App P t e size bytes) (ty : TypeId) (a : Option Addr) (k c : Nat) (hk : k ≤ c) (b : Option Addr) (c' : Nat) :
    (Builtin.append_ #[t, t] ty #[.slice a k c, .slice b 0 c']).run P w = .ok (.slice a k c) w := by
  obtain ⟨i, z, hi, hz, h1, h2, h3⟩ := A.inf
  cases a <;> cases b <;> simp [Builtin.append_, run_underlying A.und, sizeOf, typeInfo, hi, Builtin.lenOf, hk, Builtin.firstCells, loadCells, loadCellsFrom, storeCells]
theorem made_row {ρ : Nm} {w w' : World} {n g cap : Nat} {len size : Nat} {T : TypeId} {xs : List Value} {A : Nat → Option Ent} {old : Option Nat} (hx : ∀ v ∈ xs, Fit n v) (hl : 0 < len) (ho : w'.ownsRow 0 T size (.slice (some ⟨g, 0, none⟩) len cap) len (xs.map (ren ρ)))
    (hb : w.heap.size ≤ g) (hg : ∀ S, Keep S w w') : Eff ρ (ρ.with n g cap) n (n + 1) A [(n, some (.row xs size T))] w w' := by
  refine ⟨fun i h => with_far ρ n _ _ h, hg _, ?_, ?_, ?_, ?_⟩
  · intro e c' h
    obtain ⟨rfl, h2⟩ := wrGet_one h
    cases h2
    exact rowE hx hl ho
  · intro e e' c c' h h' hne
    exact absurd ((wrGet_one h).1.trans (wrGet_one h').1.symm) hne
  · intro e c' h
    obtain ⟨rfl, h2⟩ := wrGet_one h
    exact .inl ⟨Nat.le_refl _, Nat.lt_succ_self _⟩
  · intro e c' _ h
    obtain ⟨rfl, h2⟩ := wrGet_one h
    exact .inl (by rw [(with_self ρ e _ _).1]; exact hb)
theorem owns_slice {w : World} {T : TypeId} {size : Nat} {v : Value} {len : Nat} {xs : List Value} (h : w.ownsRow 0 T size v len xs) (hl : 0 < len) : ∃ g cap, v = .slice (some ⟨g, 0, none⟩) len cap := by
  rcases h.2 with ⟨_, h2⟩ | ⟨g, cap, cur, h1, _⟩
  · omega
  · exact ⟨g, cap, h1⟩
theorem append_good {P : Program} {t ty : TypeId} {s x : Value} {H : Nat → Option Ent} {n : Nat} {v : Value} {wr : Wr} {acc : List Nat} {new : Nat} (h : evAppend P t s x H n = some (.val v wr acc new)) {ρ : Nm} {w : World} (p : Pre ρ H n acc w) :
    ∃ ρ' w', (Builtin.append_ #[t, t] ty #[ren ρ s, ren ρ x]).run P w = .ok (ren ρ' v) w' ∧ Eff ρ ρ' n (n + new) (resA acc H) wr w w' := by
  unfold evAppend at h
  split at h
  · cases h
  rename_i e size bytes hA
  have A := appT_ok hA
  split at h
  · cases h
  · -- nothing is appended
    rename_i xs acc' hs
    obtain ⟨b, c', rfl⟩ := srcOf_zero hs
    have hx : ∃ b2 c2, ren ρ (.slice b 0 c') = .slice b2 0 c2 := by cases b <;> simp
    obtain ⟨b2, c2, hx⟩ := hx
    split at h
    · rename_i a k c
      cases hb : (Nat.ble k c && capOk (.slice a k c)) with
      | true =>
        rw [hb] at h
        cases h
        simp only [Bool.and_eq_true] at hb
        have hk : k ≤ c := Nat.le_of_ble_eq_true hb.1
        refine ⟨ρ, w, ?_, Eff.nothing ρ _ _ _ fun S => Keep.refl w⟩
        rw [hx]
        cases a with
        | none => simp only [ren_nilslice]; exact app_nothing A ty _ _ _ hk _ _
        | some a => simp only [ren_slice, capN_lt hb.2]; exact app_nothing A ty _ _ _ hk _ _
      | false =>
        rw [hb] at h
        simp only [cond_false] at h
        split at h
        · rename_i b'
          split at h
          · rename_i xs' sz T hc
            cases hb2 : (Nat.beq c (CB + b' * CD) && Nat.ble (k * sz) xs'.length && Nat.blt 0 sz) with
            | false => rw [hb2] at h; cases h
            | true =>
              rw [hb2] at h
              cases h
              simp only [Bool.and_eq_true] at hb2
              obtain ⟨⟨q1, q2⟩, q3⟩ := hb2
              have q1 := Nat.eq_of_beq_eq_true q1
              have q2 := Nat.le_of_ble_eq_true q2
              have q3 : 0 < sz := Nat.le_of_ble_eq_true q3
              refine ⟨ρ, w, ?_, Eff.nothing ρ _ _ _ fun S => Keep.refl w⟩
              rw [hx]
              obtain ⟨cur, r1, r2, r3, r4, r5⟩ := p.holds (by simp) hc
              have hcap : capN ρ c = ρ.n b' := by
                unfold capN
                rw [q1, if_neg (by omega), Nat.add_sub_cancel_left, Nat.mul_div_cancel _ (by decide), Nat.mul_mod_left, Nat.sub_zero]
              simp only [ren_slice, hcap]
              refine app_nothing A ty _ _ _ ?_ _ _
              rcases Nat.lt_or_ge (ρ.n b') k with hlt | hge
              · exfalso
                have : (ρ.n b' + 1) * sz ≤ k * sz := Nat.mul_le_mul_right _ hlt
                rw [Nat.add_mul] at this
                omega
              · exact hge
          · cases h
        · cases h
    · cases h
  · -- something is
    rename_i m news acc' hs
    obtain ⟨f, off, cx, l, ex, rfl, hf, hfl, hcl, h1, rfl⟩ := srcOf_succ hs
    obtain ⟨i, z, hi, hz, i1, i2, i3⟩ := A.inf
    have h1' : ∀ u ∈ news.map (ren ρ), u.oneCell' = true := by
      intro u hu
      obtain ⟨y, hy, rfl⟩ := List.mem_map.1 hu
      rw [oneCell_ren]; exact h1 y hy
    have fitn : ∀ u ∈ news, Fit n u := fun u hu => fit_cells (p.fit f ex hf).1 hfl u (cellsAt_mem hcl u hu)
    have key : f ∈ acc → (news.map (ren ρ)).length = (m + 1) * size ∧ ∀ j u, (news.map (ren ρ))[j]? = some u → w.cell? ((⟨ρ.b f, off, none⟩ : Addr).add j) = some u := fun hm => by
      have := cellsAt_run (P := P) (p.holds hm hf) hfl hcl
      exact ⟨by rw [List.length_map]; exact this.1, this.2.1⟩
    simp only [ren_slice, aren]
    have fin : ∀ (s' : Value) (k : Nat) (olds : List Value), f ∈ acc → (∀ u ∈ olds, Fit n u) → w.ownsRow 0 e size s' k (olds.map (ren ρ)) → small (k + (m + 1)) bytes = true → ∃ g cap w', (Builtin.append_ #[t, t] ty #[s', .slice (some ⟨ρ.b f, off, none⟩) (m + 1) (capN ρ cx)]).run P w = .ok (ren (ρ.with n g cap) (rowV n (k + (m + 1)))) w' ∧
        w'.ownsRow 0 e size (.slice (some ⟨g, 0, none⟩) (k + (m + 1)) cap) (k + (m + 1)) ((olds ++ news).map (ren ρ)) ∧ w.grownBy w' s'.ownBlock ∧ (s'.ownBlock = some g ∨ w.heap.size ≤ g) := by
      intro s' k olds hm ho hown hsm
      unfold small at hsm
      simp only [Bool.and_eq_true] at hsm
      have b1 : k + (m + 1) ≤ maxLen := Nat.le_trans (Nat.le_of_ble_eq_true hsm.1) (by decide)
      obtain ⟨v', w', r1, r2, r3, r4⟩ := run_append_mine (P := P) (ty := ty) A.und hi hz i1 i2 i3 A.pos hown (c := capN ρ cx) (key hm).1 (key hm).2 h1' b1 (Nat.le_of_ble_eq_true hsm.2)
      obtain ⟨g, cap, rfl⟩ := owns_slice r2 (by omega)
      refine ⟨g, cap, w', by rw [r1, rowV_ren], by rw [List.map_append]; exact r2, r3, r4 g rfl⟩
    split at h
    · -- to nil
      cases hb : small (m + 1) bytes with
      | false => rw [hb] at h; cases h
      | true =>
        rw [hb] at h
        cases h
        obtain ⟨g, cap, w', r1, r2, r3, r4⟩ := fin (.slice none 0 0) 0 [] (by simp) (fun u hu => by cases hu) ⟨by simp, .inl ⟨rfl, rfl⟩⟩ (by simpa using hb)
        simp only [Nat.zero_add, List.nil_append] at r1 r2
        refine ⟨_, w', by simpa using r1, made_row (old := none) fitn (by omega) r2 (r4.resolve_left (by simp [Value.ownBlock])) fun S => Keep.grown r3 fun k hk => by simp [Value.ownBlock] at hk⟩
    · rename_i b k c
      cases hb : small (k + (m + 1)) bytes with
      | false => rw [hb] at h; cases h
      | true =>
        rw [hb] at h
        simp only [cond_true] at h
        split at h
        · -- to a row
          rename_i xs sz T hH
          cases hb2 : (Nat.beq sz size && Nat.beq T e && Nat.beq c (CB + b * CD) && Nat.ble (k * size) xs.length) with
          | false => rw [hb2] at h; cases h
          | true =>
            rw [hb2] at h
            cases h
            simp only [Bool.and_eq_true] at hb2
            obtain ⟨⟨⟨q1, q2⟩, q3⟩, q4⟩ := hb2
            have q1 := Nat.eq_of_beq_eq_true q1
            have q2 := Nat.eq_of_beq_eq_true q2
            have q3 := Nat.eq_of_beq_eq_true q3
            have q4 := Nat.le_of_ble_eq_true q4
            subst q1 q2
            obtain ⟨cur, r1, r2, r3, r4, r5⟩ := p.holds (by simp) hH
            have hcap : capN ρ c = ρ.n b := by
              unfold capN
              rw [q3, if_neg (by omega), Nat.add_sub_cancel_left, Nat.mul_div_cancel _ (by decide), Nat.mul_mod_left, Nat.sub_zero]
            have hlt : b < n := (p.fit b _ hH).2
            have hfx : ∀ u ∈ xs, Fit n u := fit_cells (p.fit b _ hH).1 rfl
            have hown : w.ownsRow 0 T sz (.slice (some ⟨ρ.b b, 0, none⟩) k (ρ.n b)) k ((xs.take (k * sz)).map (ren ρ)) := by
              refine ⟨by simp; omega, .inr ⟨ρ.b b, ρ.n b, cur, rfl, Nat.zero_le _, r1, ?_, r4, r3, ?_⟩⟩
              · rcases Nat.lt_or_ge (ρ.n b) k with hl | hg
                · exfalso
                  have : (ρ.n b + 1) * sz ≤ k * sz := Nat.mul_le_mul_right _ hl
                  rw [Nat.add_mul] at this
                  have := A.pos
                  omega
                · exact hg
              · have := congrArg (List.take (k * sz)) r5
                rw [List.take_take, Nat.min_eq_left q4] at this
                rw [this, List.map_take]
            obtain ⟨g, cap, w', s1, s2, s3, s4⟩ := fin _ k (xs.take (k * sz)) (by simp) (fun u hu => hfx u (List.mem_of_mem_take hu)) hown hb
            refine ⟨_, w', by simp only [ren_slice, aren, hcap]; exact s1, ?_⟩
            have hall : ∀ u ∈ xs.take (k * sz) ++ news, Fit n u := by
              intro u hu
              rcases List.mem_append.1 hu with h | h
              · exact hfx u (List.mem_of_mem_take h)
              · exact fitn u h
            have hrow := rowE hall (by omega) s2
            have hAb : (resA (b :: [f]) H b).isSome = true := by rw [resA_mem (by simp), hH]; rfl
            have g1 : wrGet [(b, none), (n, some (.row (xs.take (k * sz) ++ news) sz T))] b = some none := wrGet_self _ _ _
            have two : ∀ {y c'}, wrGet [(b, none), (n, some (.row (xs.take (k * sz) ++ news) sz T))] y = some c' → (y = b ∧ c' = none) ∨ (y = n ∧ c' = some (.row (xs.take (k * sz) ++ news) sz T)) := by
              intro y c' hy
              unfold wrGet at hy
              cases hbb : Nat.beq b y with
              | true => rw [hbb] at hy; cases hy; exact .inl ⟨(Nat.eq_of_beq_eq_true hbb).symm, rfl⟩
              | false => rw [hbb] at hy; exact .inr (wrGet_one hy)
            refine ⟨fun i h => with_far ρ n _ _ h, ?_, ?_, ?_, ?_, ?_⟩
            · refine Keep.grown s3 fun j hj => ?_
              simp only [Value.ownBlock, Option.some.injEq] at hj
              exact ⟨b, none, g1, hlt, hAb, hj⟩
            · intro y c' hy
              rcases two hy with ⟨_, h2⟩ | ⟨rfl, h2⟩
              · cases h2
              · cases h2; exact hrow
            · intro y y' c1 c2 hy hy' hne
              rcases two hy with ⟨_, h2⟩ | ⟨rfl, h2⟩
              · cases h2
              · rcases two hy' with ⟨_, h2'⟩ | ⟨rfl, h2'⟩
                · cases h2'
                · exact absurd rfl hne
            · intro y c' hy
              rcases two hy with ⟨rfl, h2⟩ | ⟨rfl, h2⟩
              · exact .inr ⟨hlt, hAb⟩
              · exact .inl ⟨Nat.le_refl _, Nat.lt_succ_self _⟩
            · intro y c' hle hy
              rcases two hy with ⟨rfl, h2⟩ | ⟨rfl, h2⟩
              · cases h2
              · rw [(with_self ρ y g cap).1]
                rcases s4 with q | q
                · simp only [Value.ownBlock, Option.some.injEq] at q
                  exact .inr ⟨b, hlt, g1, hAb, q⟩
                · exact .inl q
        · -- to a block that is known whole
          rename_i cs T hH
          cases hb2 : (Nat.beq T e && Nat.blt c CB && Nat.beq cs.size (c * size) && Nat.ble k c) with
          | false => rw [hb2] at h; cases h
          | true =>
            rw [hb2] at h
            simp only [cond_true] at h
            simp only [Bool.and_eq_true] at hb2
            obtain ⟨⟨⟨q1, q2⟩, q3⟩, q4⟩ := hb2
            have q1 := Nat.eq_of_beq_eq_true q1
            have q3 := Nat.eq_of_beq_eq_true q3
            have q4 := Nat.le_of_ble_eq_true q4
            subst q1
            have hfx : ∀ u ∈ cs.toList, Fit n u := fit_cells (p.fit b _ hH).1 rfl
            have hlt : b < n := (p.fit b _ hH).2
            cases hroom : Nat.ble (k + (m + 1)) c with
            | true =>
              rw [hroom] at h
              obtain ⟨l', hl', hle⟩ := Option.map_eq_some_iff.1 h
              cases hle
              have hold := p.holds (e := b) (by simp) hH
              have hroom := Nat.le_of_ble_eq_true hroom
              have hlen := (key (by simp)).1
              have hput : Ent.put (.obj (.cells cs T (0, 0))) (k * size) news = some (.obj (.cells l'.toArray T (0, 0))) := by unfold Ent.put; simp only [hl', Option.map_some]
              obtain ⟨w', s1, s2, s3⟩ := put_run (P := P) hold hput h1
              have hfit : k * i.size + (news.map (ren ρ)).length ≤ (cs.map (ren ρ)).size := by
                rw [hlen, i1, Array.size_map, q3, ← Nat.add_mul]; exact Nat.mul_le_mul_right _ hroom
              have hr := run_append_room (P := P) w t ty T i A.und hi (ρ.b b) k c (cs.map (ren ρ)) hold ⟨ρ.b f, off, none⟩ (m + 1) (capN ρ cx) (news.map (ren ρ)) (by rw [hlen, i1]) (key (by simp)).2 h1' hroom hfit
              refine ⟨ρ, w.setRow (ρ.b b) _, by simp only [ren_slice, aren, capN_lt q2]; exact hr, ?_⟩
              have hw : w.setRow (ρ.b b) ((cs.map (ren ρ)).toList.take (k * i.size) ++ news.map (ren ρ) ++ (cs.map (ren ρ)).toList.drop (k * i.size + (news.map (ren ρ)).length)).toArray = w' := by
                have hr2 := run_storeCells_mid (P := P) (ρ.b b) (k * size) T (news.map (ren ρ)) 0 (cs.map (ren ρ)) w hold (by rw [i1] at hfit; simpa using hfit) h1'
                rw [hr2] at s1
                cases s1
                rw [i1]
                simp
              rw [hw]
              exact Eff.wrote ρ n _ hlt (by rw [resA_mem (by simp), hH]; rfl) s3 s2
            | false =>
              rw [hroom] at h
              cases h
              have hroom : c < k + (m + 1) := by
                rcases Nat.lt_or_ge c (k + (m + 1)) with h | h
                · exact h
                · have := Nat.ble_eq_true_of_le h; rw [this] at hroom; cases hroom
              have hold := p.holds (e := b) (by simp) hH
              have hkc : k * size ≤ cs.size := by rw [q3]; exact Nat.mul_le_mul_right _ q4
              have hcb : c ≤ maxLen := by
                have : c < CB := Nat.le_of_ble_eq_true q2
                unfold small at hb
                simp only [Bool.and_eq_true] at hb
                have := Nat.le_of_ble_eq_true hb.1
                have : maxLen = 9223372036854775807 := rfl
                omega
              have hown : w.ownsRow 0 T size (.slice (some ⟨ρ.b b, 0, none⟩) k c) k ((cs.toList.take (k * size)).map (ren ρ)) := by
                refine ⟨by simp; omega, .inr ⟨ρ.b b, c, cs.map (ren ρ), rfl, Nat.zero_le _, hold, q4, hcb, by simpa using q3, ?_⟩⟩
                simp
              have hcell : ∀ j u, ((cs.toList.take (k * size)).map (ren ρ))[j]? = some u → w.cell? ((⟨ρ.b b, 0, none⟩ : Addr).add j) = some u := hown.cells (g := ρ.b b) rfl
              obtain ⟨g, cap, w', s1, s2, s3, s4⟩ := fin _ k (cs.toList.take (k * size)) (by simp) (fun u hu => hfx u (List.mem_of_mem_take hu)) hown hb
              have hlen := (key (by simp)).1
              have hsm := hb
              unfold small at hsm
              simp only [Bool.and_eq_true] at hsm
              have hb1 := Nat.le_of_ble_eq_true hsm.1
              have hgr := run_append_grow (P := P) w t ty T i z A.und hi hz ⟨ρ.b b, 0, none⟩ k c ((cs.toList.take (k * size)).map (ren ρ)) (by rw [i1]; exact hown.1) hcell ⟨ρ.b f, off, none⟩ (m + 1) (capN ρ cx) (news.map (ren ρ)) (by rw [hlen, i1]) (key (by simp)).2 hroom (by omega) (by rw [i2]; exact growslice_fits hroom (Nat.le_of_ble_eq_true hsm.2))
              rw [hgr] at s1
              rw [rowV_ren] at s1
              simp only [Result.ok.injEq, Value.slice.injEq, Option.some.injEq, Addr.mk.injEq] at s1
              obtain ⟨⟨⟨e1, _⟩, _, e2⟩, e3⟩ := s1
              have hall : ∀ u ∈ cs.toList.take (k * size) ++ news, Fit n u := by
                intro u hu
                rcases List.mem_append.1 hu with h | h
                · exact hfx u (List.mem_of_mem_take h)
                · exact fitn u h
              refine ⟨ρ.with n g cap, w', by simp only [ren_slice, aren, capN_lt q2]; rw [hgr, rowV_ren, e1, e3, e2], made_row (old := none) hall (by omega) s2 (by omega) fun S => ?_⟩
              subst e3
              exact ⟨rfl, rfl, rfl, by simp [World.alloc], fun j hj _ => by rw [heap_alloc_old _ _ _ (by simpa using hj)]; rfl⟩
        · cases h
    · cases h
end Ex
end Go.Proofs.Ytlpjnhoafaamkaa
