/-
  AN EXECUTOR, checked once: maps.
-/
import Derived.Test.YtlpjnhoafaamkaaExT
set_option linter.unusedVariables false
set_option linter.unusedSimpArgs false
namespace Go.Proofs.Ytlpjnhoafaamkaa
open Go Go.RowKit
namespace Ex

def keysGnd (es : List MapEntry) : Bool := es.all fun e => gnd e.key
theorem mren_key {ρ : Nm} {e : MapEntry} (h : gnd e.key = true) : (mren ρ e).key = e.key := gnd_ren h
theorem findNow_map {ρ : Nm} {d : TypeDesc} {k : Value} : ∀ (es : List MapEntry) (i : Nat), keysGnd es = true → Instr.findNow d k (es.map (mren ρ)) i = (Instr.findNow d k es i).map (·.map fun p => (p.1, ren ρ p.2))
  | [], i, _ => rfl
  | e :: es, i, h => by
    unfold keysGnd at h
    simp only [List.all_cons, Bool.and_eq_true] at h
    have ih := findNow_map (ρ := ρ) (d := d) (k := k) es (i + 1) (by unfold keysGnd; exact h.2)
    simp only [List.map_cons, Instr.findNow, mren_key h.1]
    split
    · rfl
    · exact ih
    · rfl
theorem findAsking_map {P : Program} {ρ : Nm} {t : TypeId} {k : Value} : ∀ (es : List MapEntry) (i : Nat), keysGnd es = true → arp P (Instr.findAsking t k (es.map (mren ρ)) i) = (arp P (Instr.findAsking t k es i)).map (·.map fun p => (p.1, ren ρ p.2))
  | [], i, _ => rfl
  | e :: es, i, h => by
    unfold keysGnd at h
    simp only [List.all_cons, Bool.and_eq_true] at h
    have ih := findAsking_map (P := P) (ρ := ρ) (t := t) (k := k) es (i + 1) (by unfold keysGnd; exact h.2)
    simp only [List.map_cons, Instr.findAsking, mren_key h.1, arp_bind]
    cases arp P (Op.equal t k e.key) with
    | none => rfl
    | some b => cases b with
      | true => simp [mren]
      | false => simpa using ih
theorem findKey_map {P : Program} {ρ : Nm} {t : TypeId} {k : Value} {es : List MapEntry} (h : keysGnd es = true) : arp P (Instr.findKey t k (es.map (mren ρ))) = (arp P (Instr.findKey t k es)).map (·.map fun p => (p.1, ren ρ p.2)) := by
  unfold Instr.findKey
  simp only [arp_bind]
  cases arp P (underlying t) with
  | none => rfl
  | some d =>
    simp only [Option.bind_some, findNow_map es 0 h]
    cases Instr.findNow d k es 0 with
    | none => exact findAsking_map es 0 h
    | some r => rfl
theorem run_getMap {P : Program} {w : World} {r : Nat} {es : Array MapEntry} {c : Nat} (h : w.heap[r]? = some (.map es c)) : (getObj r).run P w = .ok (.map es c) w := by simp [getObj, Sem.run, h]
theorem run_setMap {P : Program} {w : World} {r : Nat} {es : Array MapEntry} {c : Nat} (o : Obj) (h : w.heap[r]? = some (.map es c)) : (setObj r o).run P w = .ok () { w with heap := w.heap.setIfInBounds r o } := by simp [setObj, Sem.run, h]
theorem map_holds {ρ : Nm} {w : World} {r : Nat} {es : Array MapEntry} {c : Nat} (h : Ent.holds ρ w r (.obj (.map es c))) : w.heap[ρ.b r]? = some (.map (es.map (mren ρ)) c) := h
theorem map_isEmpty {ρ : Nm} (es : Array MapEntry) : (es.map (mren ρ)).isEmpty = es.isEmpty := by
  simp only [Array.isEmpty, Array.size_map]
def evLookup (P : Program) (t : TypeId) (x k : Value) (ok : Bool) (H : Nat → Option Ent) : Option (Value × List Nat) :=
  match arp P (underlying t), x with
  | some (.map kt el), .map (some r) => match H r with
    | some (.obj (.map es c)) => bif gnd k && keysGnd es.toList then match arp P (Instr.checkKey es.isEmpty 10000 kt k), arp P (Instr.findKey kt k es.toList) with
      | some (), some (some (_, v)) => some (if ok then .tuple #[v, .bool true] else v, [r])
      | some (), some none => match arp P (zeroValue el) with
        | some z => bif gnd z then some (if ok then .tuple #[z, .bool false] else z, [r]) else none
        | none => none
      | _, _ => none
      else none
    | _ => none
  | _, _ => none
theorem lookup_run {P : Program} {ρ : Nm} {w : World} {t : TypeId} {x k v : Value} {ok : Bool} {H : Nat → Option Ent} {acc : List Nat} (h : evLookup P t x k ok H = some (v, acc)) (hh : ∀ r c, r ∈ acc → H r = some c → c.holds ρ w r) : (Instr.lookup t (ren ρ x) (ren ρ k) ok).run P w = .ok (ren ρ v) w := by
  unfold evLookup at h
  split at h
  case h_2 => cases h
  rename_i kt el r hu
  split at h
  case h_2 => cases h
  rename_i es c hr
  cases hb : (gnd k && keysGnd es.toList) with
  | false => rw [hb] at h; cases h
  | true =>
    rw [hb] at h
    simp only [Bool.and_eq_true] at hb
    simp only [cond_true] at h
    have hk : ren ρ k = k := gnd_ren hb.1
    have hempty : (es.map (mren ρ)).isEmpty = es.isEmpty := map_isEmpty es
    split at h
    · rename_i i v' h1 h2
      cases h
      have hold := map_holds (hh r _ (by simp) hr)
      have h3 := findKey_map (P := P) (ρ := ρ) (t := kt) (k := k) hb.2
      rw [h2] at h3
      have h4 : arp P (Instr.findKey kt k (es.map (mren ρ)).toList) = some (some (i, ren ρ v')) := by rw [Array.toList_map, h3]; rfl
      unfold Instr.lookup
      simp only [ren_map, Option.map_some, hk, Sem.run_bind, arp_run hu, Result.andThen_ok, run_getMap hold, hempty, arp_run h1, arp_run h4, Sem.run_pure]
      cases ok <;> simp
    · rename_i h1 h2
      split at h
      case h_2 => cases h
      rename_i z hz
      cases hg : gnd z with
      | false => rw [hg] at h; cases h
      | true =>
        rw [hg] at h
        cases h
        have hold := map_holds (hh r _ (by simp) hr)
        have h3 := findKey_map (P := P) (ρ := ρ) (t := kt) (k := k) hb.2
        rw [h2] at h3
        have h4 : arp P (Instr.findKey kt k (es.map (mren ρ)).toList) = some none := by rw [Array.toList_map, h3]; rfl
        unfold Instr.lookup
        simp only [ren_map, Option.map_some, hk, Sem.run_bind, arp_run hu, Result.andThen_ok, run_getMap hold, hempty, arp_run h1, arp_run h4, arp_run hz, Sem.run_pure]
        cases ok <;> simp [gnd_ren hg]
    · cases h
theorem map_isEmpty' {ρ : Nm} (es : Array MapEntry) : (es.map (mren ρ)).isEmpty = es.isEmpty := map_isEmpty es
/-- a map with an entry -/
def evUpdate (P : Program) (t : TypeId) (x k v : Value) (H : Nat → Option Ent) : Option (Nat × Ent) :=
  match arp P (underlying t), x with
  | some (.map kt _), .map (some r) => match H r with
    | some (.obj (.map es c)) => bif gnd k && keysGnd es.toList then match arp P (Instr.checkKey false 10000 kt k), arp P (Instr.findKey kt k es.toList) with
      | some (), some (some (i, _)) => match arp P (Instr.keyThatStays (((es[i]?).map (·.key)).getD k) k) with
        | some k' => some (r, .obj (.map (es.modify i fun e => { e with key := k', val := v }) c))
        | none => none
      | some (), some none => some (r, .obj (.map (es.push { key := k, val := v, born := c }) (c + 1)))
      | _, _ => none
      else none
    | _ => none
  | _, _ => none
theorem key_at {ρ : Nm} {es : Array MapEntry} {i : Nat} {k : Value} (h : keysGnd es.toList = true) : (((es.map (mren ρ))[i]?).map (·.key)).getD k = ((es[i]?).map (·.key)).getD k := by
  rw [Array.getElem?_map]
  cases he : es[i]? with
  | none => rfl
  | some e =>
    have hm : e ∈ es.toList := by
      obtain ⟨hi, rfl⟩ := Array.getElem?_eq_some_iff.1 he
      simp
    have : gnd e.key = true := (List.all_eq_true.1 h) e hm
    simp [mren_key this]
theorem setObj_grown (w : World) (g : Nat) (o : Obj) : w.grownBy { w with heap := w.heap.setIfInBounds g o } (some g) :=
  ⟨rfl, rfl, rfl, by simp, fun k _ hk => by
    have : g ≠ k := fun e => hk (by rw [e])
    simp [Array.getElem?_setIfInBounds_ne this]⟩
theorem update_run {P : Program} {ρ : Nm} {w : World} {t : TypeId} {x k v : Value} {H : Nat → Option Ent} {r : Nat} {c' : Ent} (h : evUpdate P t x k v H = some (r, c')) (hh : ∀ c, H r = some c → c.holds ρ w r) :
    (H r).isSome ∧ ∃ w', (Instr.mapUpdate t (ren ρ x) (ren ρ k) (ren ρ v)).run P w = .ok () w' ∧ c'.holds ρ w' r ∧ w.grownBy w' (some (ρ.b r)) := by
  unfold evUpdate at h
  split at h
  case h_2 => cases h
  rename_i kt el r' hu
  split at h
  case h_2 => cases h
  rename_i es c hr
  cases hb : (gnd k && keysGnd es.toList) with
  | false => rw [hb] at h; cases h
  | true =>
    rw [hb] at h
    simp only [Bool.and_eq_true] at hb
    simp only [cond_true] at h
    have hk : ren ρ k = k := gnd_ren hb.1
    have h3 := findKey_map (P := P) (ρ := ρ) (t := kt) (k := k) hb.2
    split at h
    · rename_i i v' h1 h2
      split at h
      case h_2 => cases h
      rename_i k' hk'
      cases h
      have hold := map_holds (hh _ hr)
      have hlt : ρ.b r < w.heap.size := (Array.getElem?_eq_some_iff.1 hold).1
      rw [h2] at h3
      have h4 : arp P (Instr.findKey kt k (es.map (mren ρ)).toList) = some (some (i, ren ρ v')) := by rw [Array.toList_map, h3]; rfl
      have hgk : ren ρ k' = k' := by
        unfold Instr.keyThatStays at hk'
        split at hk'
        · cases hk'; exact hk
        · cases hk'
      refine ⟨by rw [hr]; rfl, _, ?_, ?_, setObj_grown w (ρ.b r) (.map ((es.map (mren ρ)).modify i fun e => { e with key := k', val := ren ρ v }) c)⟩
      · unfold Instr.mapUpdate
        simp only [ren_map, Option.map_some, hk, Sem.run_bind, arp_run hu, Result.andThen_ok, run_getMap hold, arp_run h1, arp_run h4, key_at hb.2, arp_run hk', run_setMap _ hold]
      · show _ = _
        simp only [Array.getElem?_setIfInBounds_self_of_lt hlt]
        congr 1
        simp only [oren]
        congr 1
        apply Array.ext
        · simp
        · intro j h1 h2
          simp only [Array.getElem_modify, Array.getElem_map]
          split
          · simp [mren, hgk]
          · rfl
    · rename_i h1 h2
      cases h
      have hold := map_holds (hh _ hr)
      have hlt : ρ.b r < w.heap.size := (Array.getElem?_eq_some_iff.1 hold).1
      rw [h2] at h3
      have h4 : arp P (Instr.findKey kt k (es.map (mren ρ)).toList) = some none := by rw [Array.toList_map, h3]; rfl
      refine ⟨by rw [hr]; rfl, _, ?_, ?_, setObj_grown w (ρ.b r) (.map ((es.map (mren ρ)).push { key := k, val := ren ρ v, born := c }) (c + 1))⟩
      · unfold Instr.mapUpdate
        simp only [ren_map, Option.map_some, hk, Sem.run_bind, arp_run hu, Result.andThen_ok, run_getMap hold, arp_run h1, arp_run h4, run_setMap _ hold]
      · show _ = _
        simp only [Array.getElem?_setIfInBounds_self_of_lt hlt]
        congr 1
        simp [oren, mren, hk]
    · cases h
theorem erase_map {α β : Type} (f : α → β) : ∀ (l : List α) (i : Nat), (l.map f).eraseIdx i = (l.eraseIdx i).map f
  | [], i => by simp
  | x :: l, 0 => by simp
  | x :: l, i + 1 => by simp [erase_map f l i]
theorem erase_mren {ρ : Nm} (es : Array MapEntry) (i : Nat) : (es.map (mren ρ)).eraseIdxIfInBounds i = (es.eraseIdxIfInBounds i).map (mren ρ) := by
  apply Array.ext'
  unfold Array.eraseIdxIfInBounds
  simp only [Array.size_map]
  split
  · rw [Array.toList_eraseIdx, Array.toList_map, Array.toList_map, Array.toList_eraseIdx, erase_map]
  · rfl
/-- a map without an entry -/
def evDelete (P : Program) (t : TypeId) (x k : Value) (H : Nat → Option Ent) : Option (Nat × Ent) :=
  match arp P (underlying t), x with
  | some (.map kt _), .map (some r) => match H r with
    | some (.obj (.map es c)) => bif gnd k && keysGnd es.toList then match arp P (Instr.checkKey es.isEmpty 10000 kt k), arp P (Instr.findKey kt k es.toList) with
      | some (), some (some (i, _)) => some (r, .obj (.map (es.eraseIdxIfInBounds i) c))
      | some (), some none => some (r, .obj (.map es c))
      | _, _ => none
      else none
    | _ => none
  | _, _ => none
theorem delete_run {P : Program} {ρ : Nm} {w : World} {t t' ty : TypeId} {x k : Value} {H : Nat → Option Ent} {r : Nat} {c' : Ent} (h : evDelete P t x k H = some (r, c')) (hh : ∀ c, H r = some c → c.holds ρ w r) :
    (H r).isSome ∧ ∃ w', (Builtin.delete_ #[t, t'] ty #[ren ρ x, ren ρ k]).run P w = .ok undef w' ∧ c'.holds ρ w' r ∧ w.grownBy w' (some (ρ.b r)) := by
  unfold evDelete at h
  split at h
  case h_2 => cases h
  rename_i kt el r' hu
  split at h
  case h_2 => cases h
  rename_i es c hr
  cases hb : (gnd k && keysGnd es.toList) with
  | false => rw [hb] at h; cases h
  | true =>
    rw [hb] at h
    simp only [Bool.and_eq_true] at hb
    simp only [cond_true] at h
    have hk : ren ρ k = k := gnd_ren hb.1
    have h3 := findKey_map (P := P) (ρ := ρ) (t := kt) (k := k) hb.2
    have hempty : (es.map (mren ρ)).isEmpty = es.isEmpty := map_isEmpty es
    split at h
    · rename_i i v' h1 h2
      cases h
      have hold := map_holds (hh _ hr)
      have hlt : ρ.b r < w.heap.size := (Array.getElem?_eq_some_iff.1 hold).1
      rw [h2] at h3
      have h4 : arp P (Instr.findKey kt k (es.map (mren ρ)).toList) = some (some (i, ren ρ v')) := by rw [Array.toList_map, h3]; rfl
      refine ⟨by rw [hr]; rfl, _, ?_, ?_, setObj_grown w (ρ.b r) (.map ((es.map (mren ρ)).eraseIdxIfInBounds i) c)⟩
      · unfold Builtin.delete_
        simp only [List.getElem?_toArray, List.getElem?_cons_zero, List.getElem?_cons_succ, ren_map, Option.map_some, hk, Sem.run_bind, arp_run hu, Result.andThen_ok, run_getMap hold, hempty, arp_run h1, arp_run h4, Sem.run_pure, run_setMap _ hold]
        rfl
      · show _ = _
        simp only [Array.getElem?_setIfInBounds_self_of_lt hlt]
        congr 1
        simp only [oren, erase_mren]
    · rename_i h1 h2
      cases h
      have hold := map_holds (hh _ hr)
      have hlt : ρ.b r < w.heap.size := (Array.getElem?_eq_some_iff.1 hold).1
      rw [h2] at h3
      have h4 : arp P (Instr.findKey kt k (es.map (mren ρ)).toList) = some none := by rw [Array.toList_map, h3]; rfl
      refine ⟨by rw [hr]; rfl, _, ?_, ?_, setObj_grown w (ρ.b r) (.map (es.map (mren ρ)) c)⟩
      · unfold Builtin.delete_
        simp only [List.getElem?_toArray, List.getElem?_cons_zero, List.getElem?_cons_succ, ren_map, Option.map_some, hk, Sem.run_bind, arp_run hu, Result.andThen_ok, run_getMap hold, hempty, arp_run h1, arp_run h4, Sem.run_pure, run_setMap _ hold]
        rfl
      · show _ = _
        simp only [Array.getElem?_setIfInBounds_self_of_lt hlt]
        rfl
    · cases h
end Ex
end Go.Proofs.Ytlpjnhoafaamkaa
