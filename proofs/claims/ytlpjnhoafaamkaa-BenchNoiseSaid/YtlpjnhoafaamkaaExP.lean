/-
  AN EXECUTOR, checked once: operations with memory.
-/
import Derived.Test.YtlpjnhoafaamkaaExO
import Derived.Deep.Upon
set_option linter.unusedVariables false
set_option linter.unusedSimpArgs false
namespace Go.Proofs.Ytlpjnhoafaamkaa
open Go Go.RowKit
namespace Ex

def Ent.cells : Ent → Option (List Value)
  | .obj (.cells c _ _) => some c.toList
  | .row xs _ _ => some xs
  | _ => none
theorem ent_cell {ρ : Nm} {w : World} {e : Nat} {c : Ent} {l : List Value} (hh : c.holds ρ w e) (hc : c.cells = some l) {j : Nat} {u : Value} (hu : l[j]? = some u) : w.cell? ⟨ρ.b e, j, none⟩ = some (ren ρ u) := by
  unfold World.cell?
  cases c with
  | obj o =>
    cases o with
    | cells c T f =>
      cases hc
      rw [show w.heap[(⟨ρ.b e, j, none⟩ : Addr).block]? = _ from hh]
      simp only [oren, Option.isSome_none, Bool.false_eq_true, if_false, Array.getElem?_map]
      rw [← Array.getElem?_toList, hu]
      rfl
    | _ => cases hc
  | row xs s T =>
    cases hc
    obtain ⟨cur, h1, h2, _, _, h5⟩ := hh
    rw [show w.heap[(⟨ρ.b e, j, none⟩ : Addr).block]? = _ from h1]
    simp only [Option.isSome_none, Bool.false_eq_true, if_false]
    have hj : j < l.length := (List.getElem?_eq_some_iff.1 hu).1
    have h6 : (cur.toList.take l.length)[j]? = some (ren ρ u) := by rw [h5, List.getElem?_map, hu]; rfl
    rw [List.getElem?_take_of_lt hj] at h6
    rw [← Array.getElem?_toList]
    exact h6
  | loop => cases hc
theorem addr_add (b off n : Nat) : (⟨b, off, none⟩ : Addr).add n = ⟨b, off + n, none⟩ := by unfold Addr.add; split <;> simp_all
/-- the cells from off on, n of them -/
def cellsAt (l : List Value) (off n : Nat) : Option (List Value) := bif Nat.ble (off + n) l.length then some ((l.drop off).take n) else none
theorem cellsAt_run {P : Program} {ρ : Nm} {w : World} {e : Nat} {c : Ent} {l xs : List Value} {off n : Nat} (hh : c.holds ρ w e) (hc : c.cells = some l) (hx : cellsAt l off n = some xs) : xs.length = n ∧ (∀ j u, (xs.map (ren ρ))[j]? = some u → w.cell? ((⟨ρ.b e, off, none⟩ : Addr).add j) = some u) ∧ (loadCells ⟨ρ.b e, off, none⟩ n).run P w = .ok (xs.map (ren ρ)).toArray w := by
  unfold cellsAt at hx
  cases hb : Nat.ble (off + n) l.length with
  | false => rw [hb] at hx; cases hx
  | true =>
    rw [hb] at hx
    cases hx
    have hle : off + n ≤ l.length := Nat.le_of_ble_eq_true hb
    have hlen : ((l.drop off).take n).length = n := by simp; omega
    have hcell : ∀ j u, (((l.drop off).take n).map (ren ρ))[j]? = some u → w.cell? ((⟨ρ.b e, off, none⟩ : Addr).add j) = some u := by
      intro j u hu
      rw [List.getElem?_map] at hu
      obtain ⟨v, hv, rfl⟩ := Option.map_eq_some_iff.1 hu
      have hj : j < n := by
        have := (List.getElem?_eq_some_iff.1 hv).1
        omega
      rw [List.getElem?_take_of_lt hj, List.getElem?_drop] at hv
      rw [addr_add]
      exact ent_cell hh hc hv
    refine ⟨hlen, hcell, ?_⟩
    have := run_loadCells_list (P := P) w ⟨ρ.b e, off, none⟩ (((l.drop off).take n).map (ren ρ)) hcell
    rw [List.length_map, hlen] at this
    exact this
def evLoad (P : Program) (t : TypeId) (p : Value) (H : Nat → Option Ent) : Option Value :=
  match p with
  | .pointer (some ⟨b, off, none⟩) =>
    match (H b).bind Ent.cells with
    | some l => match arp P (isAgg t) with
      | some true => match arp P (sizeOf t) with
        | some n => (cellsAt l off n).map fun xs => .agg xs.toArray
        | none => none
      | some false => l[off]?
      | none => none
    | none => none
  | _ => none
theorem loadVar_run {P : Program} {t : TypeId} {v : Value} {H : Nat → Option Ent} {ρ : Nm} {w : World} {b off : Nat} (h : evLoad P t (.pointer (some ⟨b, off, none⟩)) H = some v) (hh : ∀ c, H b = some c → c.holds ρ w b) : (loadVar t ⟨ρ.b b, off, none⟩).run P w = .ok (ren ρ v) w := by
  unfold evLoad at h
  simp only at h
  split at h
  · rename_i l hl
    obtain ⟨c, hc, hcl⟩ := Option.bind_eq_some_iff.1 hl
    have hold := hh c hc
    unfold loadVar
    split at h
    · rename_i ha
      split at h
      · rename_i n hn
        obtain ⟨xs, hxs, rfl⟩ := Option.map_eq_some_iff.1 h
        have hr := (cellsAt_run (P := P) hold hcl hxs).2.2
        simp only [Sem.run_bind, arp_run ha, Result.andThen_ok, if_true, arp_run hn, hr, Sem.run_pure]
        simp
      · cases h
    · rename_i ha
      have hcell := ent_cell hold hcl h
      simp only [Sem.run_bind, arp_run ha, Result.andThen_ok, Bool.false_eq_true, if_false, run_load, hcell]
    · cases h
  · cases h
theorem load_run {P : Program} {t : TypeId} {p v : Value} {H : Nat → Option Ent} {ρ : Nm} {w : World} (h : evLoad P t p H = some v) (hh : ∀ b c, (match p with | .pointer (some a) => a.block = b | _ => False) → H b = some c → c.holds ρ w b) : (Instr.loadAt t (ren ρ p)).run P w = .ok (ren ρ v) w := by
  have h0 := h
  unfold evLoad at h
  split at h
  · rename_i b off
    simp only [ren_pointer, Option.map_some, aren, Instr.loadAt, Instr.sureAddr, Sem.run_bind, Sem.run_pure, Result.andThen_ok]
    exact loadVar_run h0 fun c hc => hh b c rfl hc
  · cases h
theorem oneCell_ren (ρ : Nm) (v : Value) : (ren ρ v).oneCell' = v.oneCell' := by
  cases v with
  | slice a n c => cases a <;> simp [Value.oneCell']
  | _ => simp [Value.oneCell']
theorem run_storeCells_mid {P : Program} (g off : Nat) (t : TypeId) : ∀ (vs : List Value) (i : Nat) (cur : Array Value) (w : World), w.heap[g]? = some (.cells cur t (0, 0)) → off + i + vs.length ≤ cur.size → (∀ v ∈ vs, v.oneCell' = true) →
    (storeCells ⟨g, off, none⟩ vs i).run P w = .ok () (w.setRow g (cur.toList.take (off + i) ++ vs ++ cur.toList.drop (off + i + vs.length)).toArray)
  | [], i, cur, w, hg, hl, _ => by
    have e : (cur.toList.take (off + i) ++ [] ++ cur.toList.drop (off + i + ([] : List Value).length)).toArray = cur := by simp
    rw [e]
    show Result.ok () w = _
    congr 1
    apply Eq.symm
    unfold World.setRow
    have hlt : g < w.heap.size := (Array.getElem?_eq_some_iff.1 hg).1
    have hv : w.heap[g] = .cells cur t (0, 0) := (Array.getElem?_eq_some_iff.1 hg).2
    cases w with
    | mk heap tape drawn os output =>
      congr 1
      apply Array.ext
      · simp
      · intro k h1 h2
        simp only [Array.getElem_modify]
        split
        · rename_i hk; subst hk; simp at hv; simp [hv]
        · rfl
  | v :: rest, i, cur, w, hg, hl, h1 => by
    have hi : off + i < cur.size := by simp at hl; omega
    have hadd : (⟨g, off, none⟩ : Addr).add i = ⟨g, off + i, none⟩ := addr_add _ _ _
    have hcell : w.cell? ⟨g, off + i, none⟩ = some cur[off + i] := by simp [World.cell?, hg, hi]
    have hfro : w.frozen? ⟨g, off + i, none⟩ = false := by simp [World.frozen?, hg]
    have hst : (store ((⟨g, off, none⟩ : Addr).add i) v).run P w = .ok () (w.setRow g (cur.setIfInBounds (off + i) v)) := by
      rw [hadd, run_store P w _ v _ (h1 v (by simp)), hcell]
      simp [hfro, setCell_eq_setRow w g (off + i) cur t (0, 0) v hg]
    have ih := run_storeCells_mid (P := P) g off t rest (i + 1) (cur.setIfInBounds (off + i) v) (w.setRow g (cur.setIfInBounds (off + i) v)) (setRow_heap w g cur _ t _ hg) (by simp at hl ⊢; omega) (fun x hx => h1 x (by simp [hx]))
    simp only [storeCells, Sem.run_bind, hst, Result.andThen_ok, ih, setRow_setRow]
    congr 3
    apply List.ext_getElem?
    intro k
    simp at hl
    simp only [Array.toList_setIfInBounds, List.getElem?_append, List.length_take, List.length_set, Array.length_toList, List.length_append, List.length_cons, List.getElem?_drop, List.getElem?_take, List.getElem?_set]
    have m1 : min (off + (i + 1)) cur.size = off + i + 1 := by omega
    have m2 : min (off + i) cur.size = off + i := by omega
    rw [m1, m2]
    by_cases hk : k < off + i
    · simp [hk, show k < off + i + 1 by omega, show k < off + i + 1 + rest.length by omega, show k < off + i + (rest.length + 1) by omega, show off + i ≠ k by omega, show k < off + (i + 1) by omega]
    · by_cases hk2 : k = off + i
      · subst hk2
        simp [show off + i < off + i + 1 + rest.length by omega, show off + i < off + (i + 1) by omega, hi]
      · by_cases hk3 : k < off + i + 1 + rest.length
        · simp [hk, hk3, show ¬ k < off + i + 1 by omega, show k < off + i + (rest.length + 1) by omega, show k - (off + i) = (k - (off + i + 1)) + 1 by omega]
        · simp [hk3, show ¬ k < off + i + (rest.length + 1) by omega, show off + i + (rest.length + 1) + (k - (off + i + (rest.length + 1))) = k by omega, show off + (i + 1) + rest.length + (k - (off + i + 1 + rest.length)) = k by omega, show off + i ≠ k by omega]
theorem grown_setRow (w : World) (g : Nat) (c : Array Value) : w.grownBy (w.setRow g c) (some g) :=
  ⟨rfl, rfl, rfl, by simp, fun k _ hk => setRow_other w g k _ (fun e => hk (by rw [e]))⟩
/-- a list with other cells from off on -/
def putAt (l : List Value) (off : Nat) (xs : List Value) : Option (List Value) := bif Nat.ble (off + xs.length) l.length then some (l.take off ++ xs ++ l.drop (off + xs.length)) else none
def Ent.put (c : Ent) (off : Nat) (xs : List Value) : Option Ent :=
  match c with
  | .obj (.cells c T (0, 0)) => (putAt c.toList off xs).map fun l => .obj (.cells l.toArray T (0, 0))
  | .row l s T => (putAt l off xs).map fun l => .row l s T
  | _ => none
theorem put_run {P : Program} {ρ : Nm} {w : World} {e : Nat} {c c' : Ent} {off : Nat} {xs : List Value} (hh : c.holds ρ w e) (hp : c.put off xs = some c') (h1 : ∀ v ∈ xs, v.oneCell' = true) :
    ∃ w', (storeCells ⟨ρ.b e, off, none⟩ (xs.map (ren ρ)) 0).run P w = .ok () w' ∧ c'.holds ρ w' e ∧ w.grownBy w' (some (ρ.b e)) := by
  have h1' : ∀ v ∈ xs.map (ren ρ), v.oneCell' = true := by
    intro v hv
    obtain ⟨u, hu, rfl⟩ := List.mem_map.1 hv
    rw [oneCell_ren]
    exact h1 u hu
  unfold Ent.put at hp
  split at hp
  · rename_i c T
    obtain ⟨l, hl, rfl⟩ := Option.map_eq_some_iff.1 hp
    unfold putAt at hl
    cases hb : Nat.ble (off + xs.length) c.toList.length with
    | false => rw [hb] at hl; cases hl
    | true =>
      rw [hb] at hl
      cases hl
      have hle : off + xs.length ≤ c.size := by simpa using Nat.le_of_ble_eq_true hb
      have hr := run_storeCells_mid (P := P) (ρ.b e) off T (xs.map (ren ρ)) 0 (c.map (ren ρ)) w hh (by simp; omega) h1'
      refine ⟨_, hr, ?_, grown_setRow _ _ _⟩
      have := setRow_heap w (ρ.b e) _ ((c.map (ren ρ)).toList.take (off + 0) ++ xs.map (ren ρ) ++ (c.map (ren ρ)).toList.drop (off + 0 + (xs.map (ren ρ)).length)).toArray T _ hh
      unfold Ent.holds
      rw [this]
      simp [oren]
  · rename_i l s T
    obtain ⟨l', hl, rfl⟩ := Option.map_eq_some_iff.1 hp
    unfold putAt at hl
    cases hb : Nat.ble (off + xs.length) l.length with
    | false => rw [hb] at hl; cases hl
    | true =>
      rw [hb] at hl
      cases hl
      have hle : off + xs.length ≤ l.length := Nat.le_of_ble_eq_true hb
      obtain ⟨cur, q1, q2, q3, q4, q5⟩ := hh
      have hr := run_storeCells_mid (P := P) (ρ.b e) off T (xs.map (ren ρ)) 0 cur w q1 (by simp; omega) h1'
      refine ⟨_, hr, ⟨_, setRow_heap w (ρ.b e) _ _ T _ q1, ?_, ?_, q4, ?_⟩, grown_setRow _ _ _⟩
      · simp; omega
      · rw [← q3]; simp; omega
      · have hlen : (l.take off ++ xs ++ l.drop (off + xs.length)).length = l.length := by simp; omega
        rw [hlen]
        simp only [Nat.add_zero, List.length_map]
        have hsp : cur.toList = l.map (ren ρ) ++ cur.toList.drop l.length := by rw [← q5, List.take_append_drop]
        generalize cur.toList.drop l.length = tl at hsp
        have e1 : cur.toList.take off = (l.map (ren ρ)).take off := by rw [hsp, List.take_append_of_le_length (by simp; omega)]
        have e2 : cur.toList.drop (off + xs.length) = (l.map (ren ρ)).drop (off + xs.length) ++ tl := by rw [hsp, List.drop_append_of_le_length (by simp; omega)]
        rw [e1, e2, ← List.append_assoc, List.take_append_of_le_length (by simp; omega), List.take_of_length_le (by simp; omega)]
        simp
  · cases hp
def evStore (P : Program) (t : TypeId) (p v : Value) (H : Nat → Option Ent) : Option (Nat × Ent) :=
  match p with
  | .pointer (some ⟨b, off, none⟩) => match arp P (sizeOf t), H b with
    | some n, some c => bif Nat.beq v.cells.size n && v.cells.toList.all (·.oneCell') then (c.put off v.cells.toList).map (b, ·) else none
    | _, _ => none
  | _ => none
theorem store_run {P : Program} {t : TypeId} {p v : Value} {H : Nat → Option Ent} {ρ : Nm} {w : World} {e : Nat} {c' : Ent} (h : evStore P t p v H = some (e, c')) (hh : ∀ c, H e = some c → c.holds ρ w e) :
    (H e).isSome ∧ ∃ w', (Instr.storeAt t (ren ρ p) (ren ρ v)).run P w = .ok () w' ∧ c'.holds ρ w' e ∧ w.grownBy w' (some (ρ.b e)) := by
  unfold evStore at h
  split at h
  · rename_i b off
    split at h
    · rename_i n c hn hc
      cases hb : (Nat.beq v.cells.size n && v.cells.toList.all (·.oneCell')) with
      | false => rw [hb] at h; cases h
      | true =>
        rw [hb] at h
        obtain ⟨x, hx, hxe⟩ := Option.map_eq_some_iff.1 h
        cases hxe
        simp only [Bool.and_eq_true] at hb
        obtain ⟨w', r1, r2, r3⟩ := put_run (P := P) (hh c hc) hx (fun u hu => (List.all_eq_true.1 hb.2) u hu)
        refine ⟨by rw [hc]; rfl, w', ?_, r2, r3⟩
        have hsz : v.cells.size = n := Nat.eq_of_beq_eq_true hb.1
        have hcl : ((ren ρ v).cells).toList = v.cells.toList.map (ren ρ) := by rw [cells_ren]; simp
        simp only [ren_pointer, Option.map_some, aren, Instr.storeAt, Instr.sureAddr, Sem.run_bind, Sem.run_pure, Result.andThen_ok, storeVar, arp_run hn, hcl, r1]
        rw [if_neg (by rw [cells_ren]; simp [hsz])]
        simp [r1]
    · cases h
  · cases h
end Ex
end Go.Proofs.Ytlpjnhoafaamkaa
