/-
  AN EXECUTOR, checked once: calls.
-/
import Derived.Test.YtlpjnhoafaamkaaExG
set_option linter.unusedVariables false
set_option linter.unusedSimpArgs false
namespace Go.Proofs.Ytlpjnhoafaamkaa
open Go Go.RowKit
namespace Ex

theorem listT_get : ∀ (l : List Value) (k : Nat) (t : Tr Value) (j : Nat), k + l.length ≤ LIM → (listT k l t).get j = if k ≤ j ∧ j < k + l.length then l[j - k]? else t.get j
  | [], k, t, j, h => by
    rw [if_neg (by simp)]
    rfl
  | v :: l, k, t, j, h => by
    simp only [List.length_cons] at h
    show (listT (k + 1) l (t.set k (some v))).get j = _
    rw [listT_get l (k + 1) _ j (by omega), Tr.get_set _ _ _ (by omega)]
    simp only [List.length_cons]
    by_cases h1 : j = k
    · subst h1
      rw [if_neg (by omega), if_pos rfl, if_pos (by omega), Nat.sub_self]
      rfl
    · by_cases h2 : k + 1 ≤ j ∧ j < k + 1 + l.length
      · rw [if_pos h2, if_pos (by omega), show j - k = (j - (k + 1)) + 1 by omega, List.getElem?_cons_succ]
      · rw [if_neg h2, if_neg h1, if_neg (by omega)]
theorem startT_get {args : List Value} {n : Nat} (h : args.length + (n - args.length) < LIM) (j : Nat) : (startT args n).get j = (args ++ undefs (n - args.length))[j]? := by
  unfold startT
  rw [listT_get _ _ _ _ (by simp [undefs]; omega)]
  by_cases hj : j < (args ++ undefs (n - args.length)).length
  · rw [if_pos (by omega), Nat.sub_zero]
  · rw [if_neg (by omega), List.getElem?_eq_none (by omega)]
    rfl
theorem start_tm {ρ : Nm} {args : List Value} {n : Nat} (h : args.length + (n - args.length) < LIM) : ((args.map (ren ρ)).toArray ++ Array.replicate (n - (args.map (ren ρ)).toArray.size) undef).size = args.length + (n - args.length) ∧
    ∀ t v, (startT args n).get t = some v → ((args.map (ren ρ)).toArray ++ Array.replicate (n - (args.map (ren ρ)).toArray.size) undef)[t]? = some (ren ρ v) := by
  refine ⟨by simp, fun t v hv => ?_⟩
  rw [startT_get h] at hv
  have e : ((args.map (ren ρ)).toArray ++ Array.replicate (n - (args.map (ren ρ)).toArray.size) undef).toList = (args ++ undefs (n - args.length)).map (ren ρ) := by
    simp [undefs, undef]
  rw [← Array.getElem?_toList, e, List.getElem?_map, hv]
  rfl
theorem start_fit {args : List Value} {n k : Nat} (h : args.length + (n - args.length) < LIM) (hf : ∀ v ∈ args, Fit k v) : ∀ t v, (startT args n).get t = some v → Fit k v := by
  intro t v hv
  rw [startT_get h] at hv
  have := List.mem_of_getElem? hv
  rcases List.mem_append.1 this with h | h
  · exact hf v h
  · rw [List.eq_of_mem_replicate h]; exact undef_fit k
def resOne (tm : Array Value) : ResultVar → Sem Value
  | .tmp t => pure (tm.getD t undef)
  | .cell a t => do loadVar t (← asAddr (tm.getD a undef))
theorem results_eq (fn : Func) (tm : Array Value) : results fn tm = (do
    let vs ← fn.results.mapM (resOne tm)
    pure (if h : vs.size = 1 then vs[0] else .tuple vs)) := rfl
theorem exResL_run {P : Program} {σ : XS} {ρ : Nm} {tmps : Array Value} {w : World} (ht : ∀ t v, σ.tm.get t = some v → tmps[t]? = some (ren ρ v)) (hs : SimH ρ σ.M.get w) : ∀ {rs : List ResultVar} {vs : List Value}, exResL P σ rs = some vs → (rs.mapM (resOne tmps)).run P w = .ok (vs.map (ren ρ)) w
  | [], vs, h => by cases h; rfl
  | r :: rs, vs, h => by
    unfold exResL at h
    split at h
    · rename_i v us h1 h2
      cases h
      have ih := exResL_run ht hs h2
      rw [List.mapM_cons, Sem.run_bind]
      have h3 : (resOne tmps r).run P w = .ok (ren ρ v) w := by
        cases r with
        | tmp t => simp [resOne, ht t v h1]
        | cell a t =>
          simp only [exRes1] at h1
          split at h1
          · rename_i p hp
            have h4 := ht a _ hp
            have h5 := load_run (P := P) (ρ := ρ) (w := w) h1 (fun b c _ hc => hs.holds b c hc)
            simp only [ren_pointer, Option.map_some, Instr.loadAt, Instr.sureAddr, Sem.run_bind, Sem.run_pure, Result.andThen_ok] at h5
            simp [resOne, h4, asAddr, h5]
          · cases h1
      rw [h3, Result.andThen_ok, Sem.run_bind, ih]
      rfl
    · cases h
theorem tupV_ren (ρ : Nm) (vs : List Value) : ren ρ (tupV vs) = tupV (vs.map (ren ρ)) := by
  match vs with
  | [] => simp [tupV]
  | [x] => rfl
  | x :: y :: l => simp [tupV]
theorem exRes_run {P : Program} {fn : Func} {σ : XS} {ρ : Nm} {tmps : Array Value} {w : World} {vs : List Value} (ht : ∀ t v, σ.tm.get t = some v → tmps[t]? = some (ren ρ v)) (hs : SimH ρ σ.M.get w) (h : exResL P σ fn.results.toList = some vs) : (results fn tmps).run P w = .ok (ren ρ (tupV vs)) w := by
  have h2 := exResL_run (P := P) ht hs h
  rw [results_eq, Array.mapM_eq_mapM_toList, Sem.run_bind, Sem.run_map, h2]
  simp only [Result.andThen_ok, Sem.run_pure]
  congr 1
  rw [tupV_ren]
  match vs with
  | [] => rfl
  | [x] => rfl
  | x :: y :: l => rfl
theorem leaves_ex {P : Program} {fn : Func} {B : Base} {ρ : Nm} {n : Nat} {tmps : Array Value} {R : Ending → World → Prop} (hB : B.n ≤ n) : ∀ (ds : List Nat) (M M' : Tr Ent) (md : Nat → Prop) (w : World), exMarks M ds = some M' → (∀ D ∈ ds, D < LIM) → (∀ e c, M.get e = some c → FitE n c ∧ e < n) → SimC B md ρ M.get w →
    ((∀ e c, M'.get e = some c → FitE n c ∧ e < n) → ∀ w', SimC B (fun x => x ∈ ds ∨ md x) ρ M'.get w' → ∃ v, (results fn tmps).run P w' = .ok v w' ∧ R (.returned v) w') →
    LeavesInM Fence.wide 0 P fn tmps R (marks ρ ds) .returning w
  | [], M, M', md, w, h, hl, hf, s, hR => by
    cases h
    exact hR hf w (s.mono fun x hx => .inr hx)
  | D :: ds, M, M', md, w, h, hl, hf, s, hR => by
    unfold exMarks at h
    split at h
    case h_2 => cases h
    rename_i hD
    have hlim := hl D (by simp)
    have hh : w.heap[ρ.b D]? = some (.deferred (some [])) := s.sim.holds D _ hD
    refine ⟨by simp, .inl ⟨ρ.b D, _, rfl, run_takeDeferred hh, ?_⟩⟩
    refine leaves_ex hB ds _ M' _ _ h (fun D' h' => hl D' (List.mem_cons_of_mem _ h')) (kill_fit hf hlim) (s.kill hf hB hlim hD (.deferred none)) fun hf' w' s' => hR hf' w' (s'.mono fun x hx => ?_)
    rcases hx with hx | hx | hx
    · exact .inl (List.mem_cons_of_mem _ hx)
    · subst hx; exact .inl (List.mem_cons_self)
    · exact .inr hx
theorem exMarks_fit {n : Nat} : ∀ (ds : List Nat) (M M' : Tr Ent), exMarks M ds = some M' → (∀ D ∈ ds, D < LIM) → (∀ e c, M.get e = some c → FitE n c ∧ e < n) → ∀ e c, M'.get e = some c → FitE n c ∧ e < n
  | [], M, M', h, _, hf => by cases h; exact hf
  | D :: ds, M, M', h, hl, hf => by
    unfold exMarks at h
    split at h
    · exact exMarks_fit ds _ M' h (fun D' h' => hl D' (List.mem_cons_of_mem _ h')) (kill_fit hf (hl D (by simp)))
    · cases h
theorem exCallB_sound {P : Program} {callF : CallF} {drawF : DrawF} (hc : CallSound P callF) (hd : DrawSound P drawF) (fuel : Nat) : CallSound P (exCallB P callF drawF fuel) := by
  intro f args M n r h Wm ha
  unfold exCallB at h
  split at h
  case h_2 => cases h
  rename_i fn hfn
  split at h
  case h_2 => cases h
  rename_i c hb
  simp only at h
  cases hlim : Nat.blt (args.length + (fn.ntmps - args.length)) LIM with
  | false => rw [hlim] at h; cases h
  | true =>
    rw [hlim] at h
    have hlim : args.length + (fn.ntmps - args.length) < LIM := Nat.le_of_ble_eq_true hlim
    simp only [cond_true] at h
    split at h
    case h_2 => cases h
    rename_i ex σ hrun
    have W0 : WF { tm := startT args fn.ntmps, L := args.length + (fn.ntmps - args.length), M := M, n := n, md := [], ds := [] } :=
      ⟨Wm.fit, start_fit hlim ha, fun D hD => by cases hD⟩
    obtain ⟨fx, W1, n1, l1, X1⟩ := (exCode_sound hc hd fuel none c _ ex σ hrun (fun l hl => by cases hl)).1 W0
    have key : ∀ (hex : ex = .normal ∨ ex = .ret), (match exMarks σ.M σ.ds with
            | some M' => match exResL P { σ with M := M' } fn.results.toList with
              | some vs => bif below σ.n (idsV dep (tupV vs)) && σ.ds.all (Nat.blt · LIM) then some (⟨tupV vs, M', σ.n, σ.ds ++ σ.md⟩ : CR) else none
              | none => none
            | none => none) = some r → (WFm r.M.get r.n ∧ n ≤ r.n ∧ Fit r.n r.v) ∧
        ∀ ρ w, SimH ρ M.get w → Calls P f (args.map (ren ρ)).toArray w fun e w' => ∃ ρ', e = .returned (ren ρ' r.v) ∧ SimC ⟨w, ρ, n, M.get⟩ (· ∈ r.md) ρ' r.M.get w' := by
      intro hex h
      split at h
      case h_2 => cases h
      rename_i M' hM
      split at h
      case h_2 => cases h
      rename_i vs hvs
      cases hbl : (below σ.n (idsV dep (tupV vs)) && σ.ds.all (Nat.blt · LIM)) with
      | false => rw [hbl] at h; cases h
      | true =>
        rw [hbl] at h
        cases h
        simp only [Bool.and_eq_true] at hbl
        have hds : ∀ D ∈ σ.ds, D < LIM := fun D hD => Nat.le_of_ble_eq_true ((List.all_eq_true.1 hbl.2) D hD)
        refine ⟨⟨⟨exMarks_fit σ.ds σ.M M' hM hds W1.fitm⟩, n1, below_ok hbl.1⟩, fun ρ w hs => ?_⟩
        have s0 : SimX ⟨w, ρ, n, M.get⟩ { tm := startT args fn.ntmps, L := args.length + (fn.ntmps - args.length), M := M, n := n, md := [], ds := [] } ρ ⟨(args.map (ren ρ)).toArray ++ Array.replicate (fn.ntmps - (args.map (ren ρ)).toArray.size) undef, []⟩ w :=
          ⟨rfl, (start_tm hlim).1, (start_tm hlim).2, hs.start _ Wm⟩
        refine callsIn_wide.1 (callsIn_of_wp_marks (F := Fence.wide) (n := 0) hfn hb trivial (wpIn_mono (X1 _ ρ _ w (Nat.le_refl _) s0) ?_))
        rintro e' a' w' ⟨rfl, ρ', s', al⟩
        have fin : LeavesInM Fence.wide 0 P fn a'.tmps (fun e w' => ∃ ρ', e = .returned (ren ρ' (tupV vs)) ∧ SimC ⟨w, ρ, n, M.get⟩ (· ∈ σ.ds ++ σ.md) ρ' M'.get w') a'.defers .returning w' := by
          rw [s'.def0]
          refine leaves_ex (n := σ.n) n1 σ.ds σ.M M' _ w' hM hds W1.fitm s'.sim fun _ w'' s'' => ?_
          refine ⟨_, exRes_run (σ := { σ with M := M' }) s'.tm s''.sim hvs, ρ', rfl, s''.mono fun x hx => ?_⟩
          rcases hx with hx | hx
          · exact List.mem_append_left _ hx
          · exact List.mem_append_right _ hx
        rcases hex with rfl | rfl
        · exact fin
        · exact fin
    split at h
    · exact key (.inl rfl) h
    · exact key (.inr rfl) h
    · cases h
end Ex
end Go.Proofs.Ytlpjnhoafaamkaa
