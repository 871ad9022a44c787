/-
  AN EXECUTOR, checked once: code, and loops over functions.
-/
import Derived.Test.YtlpjnhoafaamkaaExF
set_option linter.unusedVariables false
set_option linter.unusedSimpArgs false
namespace Go.Proofs.Ytlpjnhoafaamkaa
open Go Go.RowKit
namespace Ex

def DrawSound (P : Program) (drawF : DrawF) : Prop := ∀ ops σ σ' id, drawF ops σ = some σ' → WF σ → WF σ' ∧ σ.n ≤ σ'.n ∧ σ'.L = σ.L ∧
  ∀ (B : Base) (ρ : Nm) (a : Act) (w : World) (ro : Option Nat), B.n ≤ σ.n → SimX B σ ρ a w → (Code.region id ops true).wpIn (fen ro) 0 P (Post B σ.n σ' .normal ρ) a w
theorem post_trans {B : Base} {n n1 : Nat} {σ' : XS} {e : Exit} {ρ ρ1 : Nm} (hn : n ≤ n1) (al : ∀ i, i < n → alike ρ ρ1 i) {x : Exit} {a : Act} {w : World} (h : Post B n1 σ' e ρ1 x a w) : Post B n σ' e ρ x a w := by
  obtain ⟨h1, ρ2, h2, h3⟩ := h
  exact ⟨h1, ρ2, h2, fun i hi => (al i hi).trans (h3 i (Nat.lt_of_lt_of_le hi hn))⟩
theorem roundsIn_mono {F : Fence} {n : Nat} {P : Program} {c : Code} {Q Q' : Exit → Act → World → Prop} (h : ∀ e a w, Q e a w → Q' e a w) : ∀ (m : Nat) (a : Act) (w : World), Code.roundsIn F n P c Q m a w → Code.roundsIn F n P c Q' m a w
  | 0, a, w, hh => hh.elim
  | m + 1, a, w, hh => by
    rw [roundsIn_succ] at hh ⊢
    refine wpIn_mono hh ?_
    intro e a' w' hq
    cases e with
    | normal => exact roundsIn_mono h m a' w' hq
    | _ => exact h _ _ _ hq
def RunsN (P : Program) (ro : Option Nat) (c : Code) (m : Nat) (σ : XS) (e : Exit) (σ' : XS) : Prop :=
  WF σ → fine e ∧ WF σ' ∧ σ.n ≤ σ'.n ∧ σ'.L = σ.L ∧ ∀ B ρ a w, B.n ≤ σ.n → SimX B σ ρ a w → Code.roundsIn (fen (ro.map ρ.b)) 0 P c (Post B σ.n σ' e ρ) m a w
theorem fen_eq {ro : Option Nat} {ρ ρ1 : Nm} {n : Nat} (hro : ∀ l, ro = some l → l < n) (al : ∀ i, i < n → alike ρ ρ1 i) : fen (ro.map ρ1.b) = fen (ro.map ρ.b) := by
  cases ro with
  | none => rfl
  | some l => simp only [Option.map_some]; rw [(al l (hro l rfl)).1]
theorem runs_seq {P : Program} {ro : Option Nat} {x y : Code} {σ σ1 σ' : XS} {e : Exit} (hro : ∀ l, ro = some l → l < σ.n) (h1 : Runs P ro x σ .normal σ1) (h2 : Runs P ro y σ1 e σ') : Runs P ro (.seq x y) σ e σ' := by
  intro W
  obtain ⟨_, W1, n1, l1, X1⟩ := h1 W
  obtain ⟨f2, W2, n2, l2, X2⟩ := h2 W1
  refine ⟨f2, W2, Nat.le_trans n1 n2, l2.trans l1, fun B ρ a w hB s => ?_⟩
  refine wpIn_seq (wpIn_mono (X1 B ρ a w hB s) ?_)
  rintro ex a' w' ⟨rfl, ρ1, s1, al⟩
  have := X2 B ρ1 a' w' (Nat.le_trans hB n1) s1
  rw [fen_eq hro al] at this
  exact wpIn_mono this fun _ _ _ => post_trans n1 al
theorem runs_seq_out {P : Program} {ro : Option Nat} {x y : Code} {σ σ' : XS} {e : Exit} (he : e ≠ .normal) (h1 : Runs P ro x σ e σ') : Runs P ro (.seq x y) σ e σ' := by
  intro W
  obtain ⟨f1, W1, n1, l1, X1⟩ := h1 W
  refine ⟨f1, W1, n1, l1, fun B ρ a w hB s => ?_⟩
  refine wpIn_seq (wpIn_mono (X1 B ρ a w hB s) ?_)
  rintro ex a' w' hp
  have := hp.1
  subst this
  cases ex with
  | normal => exact absurd rfl he
  | _ => exact hp
theorem runsN_step {P : Program} {ro : Option Nat} {x : Code} {σ σ1 σ' : XS} {e : Exit} {m : Nat} (hro : ∀ l, ro = some l → l < σ.n) (h1 : Runs P ro x σ .normal σ1) (h2 : RunsN P ro x m σ1 e σ') : RunsN P ro x (m + 1) σ e σ' := by
  intro W
  obtain ⟨_, W1, n1, l1, X1⟩ := h1 W
  obtain ⟨f2, W2, n2, l2, X2⟩ := h2 W1
  refine ⟨f2, W2, Nat.le_trans n1 n2, l2.trans l1, fun B ρ a w hB s => ?_⟩
  rw [roundsIn_succ]
  refine wpIn_mono (X1 B ρ a w hB s) ?_
  rintro ex a' w' ⟨rfl, ρ1, s1, al⟩
  have := X2 B ρ1 a' w' (Nat.le_trans hB n1) s1
  rw [fen_eq hro al] at this
  exact roundsIn_mono (fun _ _ _ => post_trans n1 al) m a' w' this
theorem runsN_out {P : Program} {ro : Option Nat} {x : Code} {σ σ' : XS} {e : Exit} (he : e ≠ .normal) (h1 : Runs P ro x σ e σ') : RunsN P ro x 1 σ e σ' := by
  intro W
  obtain ⟨f1, W1, n1, l1, X1⟩ := h1 W
  refine ⟨f1, W1, n1, l1, fun B ρ a w hB s => ?_⟩
  rw [roundsIn_succ]
  refine wpIn_mono (X1 B ρ a w hB s) ?_
  rintro ex a' w' hp
  have := hp.1
  subst this
  cases ex with
  | normal => exact absurd rfl he
  | _ => exact hp
theorem runs_loop {P : Program} {ro : Option Nat} {x : Code} {σ σ' : XS} {e : Exit} {m : Nat} (h : RunsN P ro x m σ e σ') : Runs P ro (.loop x) σ e σ' := by
  intro W
  obtain ⟨f1, W1, n1, l1, X1⟩ := h W
  exact ⟨f1, W1, n1, l1, fun B ρ a w hB s => wpIn_loop_rounds m (X1 B ρ a w hB s)⟩
theorem runs_block {P : Program} {ro : Option Nat} {x : Code} {id : Nat} {σ σ' : XS} {e e' : Exit} (h : Runs P ro x σ e σ') (he : Exit.inBlock id (fun y _ _ => y = e') e ⟨#[], []⟩ default) (hf : fine e') : Runs P ro (.block id x) σ e' σ' := by
  intro W
  obtain ⟨f1, W1, n1, l1, X1⟩ := h W
  refine ⟨hf, W1, n1, l1, fun B ρ a w hB s => ?_⟩
  refine wpIn_block (wpIn_mono (X1 B ρ a w hB s) ?_)
  rintro ex a' w' ⟨rfl, hp⟩
  revert he
  cases ex with
  | exit id' =>
    unfold Exit.inBlock
    simp only
    split
    · intro he; exact ⟨he, hp⟩
    · intro he; exact ⟨he, hp⟩
  | _ => intro he; exact ⟨he, hp⟩
theorem Eff.killed {ρ : Nm} {n : Nat} {A : Nat → Option Ent} {w : World} {e : Nat} {o : Obj} (he : e < n) (hA : (A e).isSome) : Eff ρ ρ n n A [(e, none)] w (w.putObj (ρ.b e) o) := by
  refine ⟨fun i _ => ⟨rfl, rfl⟩, Keep.grown grown_putObj fun k hk => ?_, ?_, ?_, ?_, ?_⟩
  · cases hk
    exact ⟨e, _, wrGet_self e _ _, he, hA, rfl⟩
  · intro e' c' h
    obtain ⟨_, h2⟩ := wrGet_one h
    cases h2
  · intro e1 e' c c' h h' hne
    obtain ⟨_, h2⟩ := wrGet_one h
    cases h2
  · intro e1 c' h
    obtain ⟨rfl, h2⟩ := wrGet_one h
    exact .inr ⟨he, hA⟩
  · intro e1 c' h1 h
    obtain ⟨_, h2⟩ := wrGet_one h
    cases h2
theorem set_upd {M : Tr Ent} {e : Nat} {c : Option Ent} (h : e < LIM) : (M.set e c).get = upd M.get [(e, c)] := by
  funext x
  rw [Tr.get_set _ _ _ h]
  by_cases he : x = e
  · subst he; rw [if_pos rfl]; unfold upd; rw [wrGet_self]
  · rw [if_neg he]
    unfold upd
    cases hq : wrGet [(e, c)] x with
    | none => rfl
    | some c => exact absurd (wrGet_one hq).1 he
/-- a thing that is known no more -/
theorem SimC.kill {B : Base} {md : Nat → Prop} {ρ : Nm} {M : Tr Ent} {n : Nat} {w : World} {e : Nat} {c : Ent} (s : SimC B md ρ M.get w) (hf : ∀ e c, M.get e = some c → FitE n c ∧ e < n) (hB : B.n ≤ n) (hlim : e < LIM) (he : M.get e = some c) (o : Obj) :
    SimC B (fun x => x = e ∨ md x) ρ (M.set e none).get (w.putObj (ρ.b e) o) := by
  rw [set_upd hlim]
  refine stepC (s.mono (md' := fun x => x = e ∨ md x) fun e he => .inr he) (Eff.killed (hf e c he).2 (by rw [he]; rfl)) hB (fun x _ h => ?_) (fun x h1 h2 => by omega) (fun x c hc _ => (hf x c hc).1.mono fun i hi => by omega)
  obtain ⟨c, hc⟩ := Option.isSome_iff_exists.1 h
  exact .inl (wrGet_one hc).1
theorem kill_fit {M : Tr Ent} {n e : Nat} (hf : ∀ e c, M.get e = some c → FitE n c ∧ e < n) (hlim : e < LIM) : ∀ x c, (M.set e none).get x = some c → FitE n c ∧ x < n := by
  intro x c hc
  rw [Tr.get_set _ _ _ hlim] at hc
  split at hc
  · cases hc
  · exact hf x c hc
theorem fit_yield (n l : Nat) (h : l < n) : Fit n (.func (.yield l) #[] #[]) := fun ρ ρ' ha => by simp [fren, (ha l h).1]
def after (P : Program) (Q : Exit → Act → World → Prop) : Option Code → Act → World → Prop
  | none, a, w => Q .normal a w
  | some c, a, w => c.wpIn Fence.wide 0 P Q a w
theorem runs_range {P : Program} {callF : CallF} (hc : CallSound P callF) {σ σ' : XS} {e : Exit} {g : Operand} {f : FuncId} {first cap : Array Value} {ps : Array Tmp} {A Bd : Code} (hg : opx σ.tm.get g = some (.func (.func f) first cap)) (hok : fnOk P f = true)
    (h : exRange callF f first.toList cap.toList ps A Bd σ = some (e, σ')) : Runs P none (.rangeFunc g ps A Bd) σ e σ' := by
  intro W
  unfold exRange at h
  cases hlim : Nat.blt (σ.n + 1) LIM with
  | false => rw [hlim] at h; cases h
  | true =>
    rw [hlim] at h
    have hlim : σ.n + 1 < LIM := Nat.le_of_ble_eq_true hlim
    simp only [cond_true] at h
    split at h
    case h_2 => cases h
    rename_i r hr
    have e1 := set_upd (M := σ.M) (e := σ.n) (c := some (.obj (.deferred (some [])))) (by omega)
    have e2 := set_upd (M := σ.M.set σ.n (some (.obj (.deferred (some []))))) (e := σ.n + 1) (c := some (.loop σ.tm σ.L ps A Bd .ready none σ.n)) hlim
    have f1 : ∀ e c, (σ.M.set σ.n (some (.obj (.deferred (some []))))).get e = some c → FitE (σ.n + 1) c ∧ e < σ.n + 1 := by
      intro e c hc
      rw [Tr.get_set _ _ _ (by omega)] at hc
      split at hc
      · rename_i he; cases hc; exact ⟨trivial, by omega⟩
      · obtain ⟨h1, h2⟩ := W.fitm e c hc; exact ⟨h1.mono fun i hi => Nat.lt_succ_of_lt hi, by omega⟩
    have f2 : ∀ e c, ((σ.M.set σ.n (some (.obj (.deferred (some []))))).set (σ.n + 1) (some (.loop σ.tm σ.L ps A Bd .ready none σ.n))).get e = some c → FitE (σ.n + 2) c ∧ e < σ.n + 2 := by
      intro e c hc
      rw [Tr.get_set _ _ _ hlim] at hc
      split at hc
      · rename_i he; cases hc; exact ⟨⟨fun t v hv => (W.fitt t v hv).mono fun i hi => by omega, by omega⟩, by omega⟩
      · obtain ⟨h1, h2⟩ := f1 e c hc; exact ⟨h1.mono fun i hi => Nat.lt_succ_of_lt hi, by omega⟩
    obtain ⟨g1, g2⟩ := fit_func (opx_fit W hg)
    have hargs : ∀ v ∈ first.toList ++ (.func (.yield (σ.n + 1)) #[] #[]) :: cap.toList, Fit (σ.n + 2) v := by
      intro v hv
      rcases List.mem_append.1 hv with hv | hv
      · exact (g1 v hv).mono fun i hi => by omega
      · rcases List.mem_cons.1 hv with rfl | hv
        · exact fit_yield _ _ (by omega)
        · exact (g2 v hv).mono fun i hi => by omega
    obtain ⟨⟨x1, x2, x3⟩, x4⟩ := hc _ _ _ _ _ hr ⟨f2⟩ hargs
    split at h
    case h_3 => cases h
    · cases h
    rename_i T L2 ps2 A2 B2 st pend D hst hloop
    have hl : σ.n + 1 < r.n := (x1.fit _ _ hloop).2
    have W' : WF { σ with M := r.M.set (σ.n + 1) none, n := r.n, md := r.md ++ σ.md, ds := σ.n :: σ.ds } :=
      ⟨kill_fit x1.fit hlim, fun t v hv => (W.fitt t v hv).mono fun i hi => by show i < r.n; omega, fun D hD => by
        show D < r.n
        rcases List.mem_cons.1 hD with rfl | hD
        · omega
        · have := W.ds D hD; omega⟩
    have hst' : st ≠ .busy := fun e => hst e
    -- the machine's side
    have key : ∀ (B : Base) (ρ : Nm) (a : Act) (w : World), B.n ≤ σ.n → SimX B σ ρ a w → ∀ (Q : Exit → Act → World → Prop),
        (∀ ρ' a' w', SimX B { σ with M := r.M.set (σ.n + 1) none, n := r.n, md := r.md ++ σ.md, ds := σ.n :: σ.ds } ρ' a' w' → (∀ i, i < σ.n → alike ρ ρ' i) → after P Q pend a' w') → (Code.rangeFunc g ps A Bd).wpIn Fence.wide 0 P Q a w := by
      intro B ρ a w hB s Q hQ
      refine wpIn_rangeFunc fun fid _ => ?_
      have hE := run_enterLoop_outer (P := P) (w := w) fid a.tmps ps A Bd
      have hs1 : (w.alloc (.deferred (some []))).heap.size = w.heap.size + 1 := by simp
      -- the mark's block
      have E1 : Eff ρ (ρ.with σ.n w.heap.size 0) σ.n (σ.n + 1) σ.M.get [(σ.n, some (.obj (.deferred (some []))))] w (w.alloc (.deferred (some []))) :=
        Eff.made ρ σ.n 0 _ (fun S => keep_alloc w _ S) (by unfold Ent.holds; rw [(with_self ρ σ.n _ 0).1, alloc_heap]; rfl)
      have s1 : SimC B (fun x => x = σ.n ∨ x = σ.n + 1 ∨ x ∈ σ.md) (ρ.with σ.n w.heap.size 0) (σ.M.set σ.n (some (.obj (.deferred (some []))))).get (w.alloc (.deferred (some []))) := by
        rw [e1]
        refine stepC (s.sim.mono fun e he => .inr (.inr he)) E1 hB (fun e _ h => ?_) (fun e h1 h2 => ?_) (fun e c hc _ => (W.fitm e c hc).1.mono fun i hi => by omega)
        · obtain ⟨c, hc⟩ := Option.isSome_iff_exists.1 h
          exact .inl (wrGet_one hc).1
        · cases hq : σ.M.get e with
          | none => rfl
          | some c => have := (W.fitm e c hq).2; omega
      have al1 : ∀ i, i < σ.n → alike ρ (ρ.with σ.n w.heap.size 0) i := fun i hi => with_alike ρ σ.n _ 0 hi
      have al2 : ∀ i, i < σ.n + 1 → alike (ρ.with σ.n w.heap.size 0) ((ρ.with σ.n w.heap.size 0).with (σ.n + 1) (w.heap.size + 1) 0) i := fun i hi => with_alike _ _ _ 0 hi
      have al : ∀ i, i < σ.n → alike ρ ((ρ.with σ.n w.heap.size 0).with (σ.n + 1) (w.heap.size + 1) 0) i := fun i hi => (al1 i hi).trans (al2 i (by omega))
      have E2 : Eff (ρ.with σ.n w.heap.size 0) ((ρ.with σ.n w.heap.size 0).with (σ.n + 1) (w.heap.size + 1) 0) (σ.n + 1) (σ.n + 1 + 1) (σ.M.set σ.n (some (.obj (.deferred (some []))))).get [(σ.n + 1, some (.loop σ.tm σ.L ps A Bd .ready none σ.n))] (w.alloc (.deferred (some [])))
          ((w.alloc (.deferred (some []))).alloc (.loop { state := .ready, pending := none, fn := fid, tmps := a.tmps, params := ps, assign := A, body := Bd, defers := w.heap.size })) := by
        have := Eff.made (ρ.with σ.n w.heap.size 0) (σ.n + 1) 0 (σ.M.set σ.n (some (.obj (.deferred (some []))))).get (w := w.alloc (.deferred (some []))) (w' := (w.alloc (.deferred (some []))).alloc (.loop { state := .ready, pending := none, fn := fid, tmps := a.tmps, params := ps, assign := A, body := Bd, defers := w.heap.size })) (c := .loop σ.tm σ.L ps A Bd .ready none σ.n) (fun S => keep_alloc _ _ S) (by
          rw [hs1]
          refine ⟨fid, a.tmps, s.size, fun t v hv => ?_, ?_⟩
          · rw [← W.fitt t v hv ρ _ al]; exact s.tm t v hv
          · rw [(with_self _ (σ.n + 1) _ 0).1, ← hs1, alloc_heap, hs1, ← (al2 σ.n (by omega)).1, (with_self ρ σ.n _ 0).1])
        rw [hs1] at this
        exact this
      have s2 : SimC B (fun x => x = σ.n ∨ x = σ.n + 1 ∨ x ∈ σ.md) ((ρ.with σ.n w.heap.size 0).with (σ.n + 1) (w.heap.size + 1) 0) ((σ.M.set σ.n (some (.obj (.deferred (some []))))).set (σ.n + 1) (some (.loop σ.tm σ.L ps A Bd .ready none σ.n))).get ((w.alloc (.deferred (some []))).alloc (.loop { state := .ready, pending := none, fn := fid, tmps := a.tmps, params := ps, assign := A, body := Bd, defers := w.heap.size })) := by
        rw [e2]
        refine stepC s1 E2 (by omega) (fun e _ h => ?_) (fun e h1 h2 => ?_) (fun e c hc _ => (f1 e c hc).1.mono fun i hi => by omega)
        · obtain ⟨c, hc⟩ := Option.isSome_iff_exists.1 h
          exact .inr (.inl (wrGet_one hc).1)
        · cases hq : (σ.M.set σ.n (some (.obj (.deferred (some []))))).get e with
          | none => rfl
          | some c => have := (f1 e c hq).2; omega
      have hgv := opx_val s hg
      have hres : ∀ W', (resolve a.eval (rangeCall g (w.heap.size + 1)) 0).run P W' = .ok { target := .fn (.func f) (cap.map (ren ρ)), args := first.map (ren ρ) ++ #[.func (.yield (w.heap.size + 1)) #[] #[]] } W' := by
        intro W'
        simp only [resolve, hgv, ren_func, fren, Deferred.ofValue]
        simp [Act.eval]
      have hent : ∀ (args : Array Value) (W' : World), (callFunc f args).run P W' = .ok (.enter f args) W' := by
        intro args W'
        unfold fnOk at hok
        split at hok
        case h_2 => cases hok
        rename_i fn hfn
        simp only [Bool.and_eq_true, Bool.not_eq_true'] at hok
        have hbody : fn.body.isNone = false := by cases hb : fn.body <;> simp_all
        simp only [callFunc, Sem.run_bind, run_program, Result.andThen_ok, hfn, hok.2, Bool.false_eq_true, if_false, hbody, Sem.run_pure]
      have hinv : ∀ W', (invoke (.fn (.func f) (cap.map (ren ρ))) (first.map (ren ρ) ++ #[.func (.yield (w.heap.size + 1)) #[] #[]])).run P W' = .ok (.enter f (first.map (ren ρ) ++ #[.func (.yield (w.heap.size + 1)) #[] #[]] ++ cap.map (ren ρ))) W' := by
        intro W'
        simp only [invoke]
        exact hent _ _
      refine ⟨w.heap.size + 1, _, _, _, _, f, _, _, hE, hres _, fun _ _ => trivial, hinv _, fun e => (by cases e), ?_⟩
      have hcall := x4 _ _ s2.sim
      have hmap : ((first.toList ++ (.func (.yield (σ.n + 1)) #[] #[]) :: cap.toList).map (ren ((ρ.with σ.n w.heap.size 0).with (σ.n + 1) (w.heap.size + 1) 0))).toArray = first.map (ren ρ) ++ #[.func (.yield (w.heap.size + 1)) #[] #[]] ++ cap.map (ren ρ) := by
        apply Array.ext'
        have m1 : first.toList.map (ren ((ρ.with σ.n w.heap.size 0).with (σ.n + 1) (w.heap.size + 1) 0)) = first.toList.map (ren ρ) := (fit_map g1 al).symm
        have m2 : cap.toList.map (ren ((ρ.with σ.n w.heap.size 0).with (σ.n + 1) (w.heap.size + 1) 0)) = cap.toList.map (ren ρ) := (fit_map g2 al).symm
        simp only [List.map_append, List.map_cons, m1, m2, ren_func, fren, (with_self _ (σ.n + 1) _ 0).1]
        simp
      rw [hmap] at hcall
      refine callsIn_wide.2 (hcall.mono ?_)
      rintro r' w' ⟨ρ', rfl, t⟩
      have t2 := s2.chain t (by omega)
      obtain ⟨fn2, tmps2, z1, z2, z3⟩ := t2.sim.holds _ _ hloop
      have al3 : ∀ i, i < σ.n → alike ρ ρ' i := fun i hi => (al i hi).trans (t.agree i (by show i < σ.n + 2; omega))
      have hb1 : ρ'.b (σ.n + 1) = w.heap.size + 1 := by rw [← (t.agree (σ.n + 1) (by show σ.n + 1 < σ.n + 2; omega)).1]; exact (with_self _ (σ.n + 1) _ 0).1
      have hb0 : ρ'.b σ.n = w.heap.size := by
        rw [← (t.agree σ.n (by show σ.n < σ.n + 2; omega)).1, ← (al2 σ.n (by omega)).1]
        exact (with_self ρ σ.n _ 0).1
      have t3 := t2.kill (n := r.n) x1.fit (by omega) hlim hloop (.loop { state := .exhausted, pending := pend, fn := fn2, tmps := tmps2, params := ps2, assign := A2, body := B2, defers := ρ'.b D })
      rw [hb1] at z3 t3
      refine ⟨pend, _, run_endLoop z3 hst', ?_⟩
      have hfin := hQ ρ' { a with defers := [{ target := .collected w.heap.size, args := #[] }] ++ a.defers } _ ⟨by
        show [_] ++ a.defers = marks ρ' (σ.n :: σ.ds)
        rw [s.def0, marks_alike W.ds al3]
        simp [marks, hb0], s.size, fun u v hv => by rw [← W.fitt u v hv ρ ρ' al3]; exact s.tm u v hv, t3.mono' fun x hxB hx => by
          rcases hx with rfl | (rfl | rfl | hx) | hx
          · omega
          · omega
          · omega
          · exact List.mem_append_right _ hx
          · exact List.mem_append_left _ hx⟩ al3
      cases pend with
      | none => exact hfin
      | some c => exact hfin
    cases pend with
    | none =>
      simp only [Option.some.injEq, Prod.mk.injEq] at h
      obtain ⟨rfl, rfl⟩ := h
      exact ⟨trivial, W', by show σ.n ≤ r.n; omega, rfl, fun B ρ a w hB s => key B ρ a w hB s _ fun ρ' a' w' s' al => ⟨rfl, ρ', s', al⟩⟩
    | some c =>
      cases c with
      | ret =>
        simp only [Option.some.injEq, Prod.mk.injEq] at h
        obtain ⟨rfl, rfl⟩ := h
        exact ⟨trivial, W', by show σ.n ≤ r.n; omega, rfl, fun B ρ a w hB s => key B ρ a w hB s _ fun ρ' a' w' s' al => wpIn_ret ⟨rfl, ρ', s', al⟩⟩
      | exit id =>
        simp only [Option.some.injEq, Prod.mk.injEq] at h
        obtain ⟨rfl, rfl⟩ := h
        exact ⟨trivial, W', by show σ.n ≤ r.n; omega, rfl, fun B ρ a w hB s => key B ρ a w hB s _ fun ρ' a' w' s' al => wpIn_exit ⟨rfl, ρ', s', al⟩⟩
      | _ => cases h
theorem exCode_sound {P : Program} {callF : CallF} {drawF : DrawF} (hc : CallSound P callF) (hd : DrawSound P drawF) : ∀ (f : Nat) (ro : Option Nat) (c : Code) (σ : XS) (e : Exit) (σ' : XS), exCode P callF drawF f ro c σ = some (e, σ') → (∀ l, ro = some l → l < σ.n) →
    Runs P ro c σ e σ' ∧ ∀ x, c = .loop x → ∃ m, RunsN P ro x m σ e σ'
  | 0, ro, c, σ, e, σ', h, _ => by cases h
  | f + 1, ro, c, σ, e, σ', h, hro => by
    have ih := exCode_sound hc hd f
    have hk : CodeSound P (exCode P callF drawF f) := fun ro c σ e σ' h hro => (ih ro c σ e σ' h hro).1
    cases c with
    | skip =>
      cases h
      exact ⟨fun W => ⟨trivial, W, Nat.le_refl _, rfl, fun B ρ a w hB s => wpIn_skip ⟨rfl, ρ, s, fun i _ => ⟨rfl, rfl⟩⟩⟩, fun x hx => by cases hx⟩
    | ret =>
      cases h
      exact ⟨fun W => ⟨trivial, W, Nat.le_refl _, rfl, fun B ρ a w hB s => wpIn_ret ⟨rfl, ρ, s, fun i _ => ⟨rfl, rfl⟩⟩⟩, fun x hx => by cases hx⟩
    | exit id =>
      cases h
      exact ⟨fun W => ⟨trivial, W, Nat.le_refl _, rfl, fun B ρ a w hB s => wpIn_exit ⟨rfl, ρ, s, fun i _ => ⟨rfl, rfl⟩⟩⟩, fun x hx => by cases hx⟩
    | seq x y =>
      refine ⟨?_, fun x hx => by cases hx⟩
      simp only [exCode] at h
      split at h
      · rename_i σ1 hx
        intro W
        have h1 := (ih ro x σ _ σ1 hx hro).1
        obtain ⟨_, W1, n1, _, _⟩ := h1 W
        exact runs_seq hro h1 (ih ro y σ1 e σ' h fun l hl => Nat.lt_of_lt_of_le (hro l hl) n1).1 W
      · rename_i σ1 hx
        cases h
        exact runs_seq_out (by simp) (ih ro x σ _ σ' hx hro).1
      · rename_i id σ1 hx
        cases h
        exact runs_seq_out (by simp) (ih ro x σ _ σ' hx hro).1
      · cases h
    | region id ops draw =>
      refine ⟨?_, fun x hx => by cases hx⟩
      simp only [exCode] at h
      split at h
      case h_2 => cases h
      rename_i σ1 hr
      cases h
      cases draw with
      | true =>
        intro W
        obtain ⟨d1, d2, d3, d4⟩ := hd ops σ σ' id hr W
        exact ⟨trivial, d1, d2, d3, fun B ρ a w hB s => d4 B ρ a w _ hB s⟩
      | false =>
        intro W
        obtain ⟨d1, d2, d3, d4⟩ := exSeq_sound (ro := ro) hc hk ops.toList 0 σ σ' rfl (Nat.zero_le _) hr W
        refine ⟨trivial, d1, d2, d3, fun B ρ a w hB s => ?_⟩
        refine wpIn_region ?_
        rw [List.range_eq_range']
        exact d4 B ρ σ.n ρ a w hB (Nat.le_refl _) (fun i _ => ⟨rfl, rfl⟩) s
    | cond c x y =>
      refine ⟨?_, fun x hx => by cases hx⟩
      simp only [exCode] at h
      split at h
      · rename_i hcv
        intro W
        obtain ⟨f1, W1, n1, l1, X1⟩ := (ih ro x σ e σ' h hro).1 W
        exact ⟨f1, W1, n1, l1, fun B ρ a w hB s => wpIn_cond_split (t := true) (by rw [opx_val s hcv]; simp) (fun _ => X1 B ρ a w hB s) (fun q => by cases q)⟩
      · rename_i hcv
        intro W
        obtain ⟨f1, W1, n1, l1, X1⟩ := (ih ro y σ e σ' h hro).1 W
        exact ⟨f1, W1, n1, l1, fun B ρ a w hB s => wpIn_cond_split (t := false) (by rw [opx_val s hcv]; simp) (fun q => by cases q) (fun _ => X1 B ρ a w hB s)⟩
      · cases h
    | block id x =>
      refine ⟨?_, fun x hx => by cases hx⟩
      simp only [exCode] at h
      split at h
      · rename_i id' σ1 hx
        have h1 := (ih ro x σ _ σ1 hx hro).1
        cases hb : Nat.beq id' id with
        | true =>
          rw [hb] at h
          cases h
          have := Nat.eq_of_beq_eq_true hb
          subst this
          exact runs_block h1 (by simp [Exit.inBlock]) trivial
        | false =>
          rw [hb] at h
          cases h
          have : id' ≠ id := fun q => by subst q; rw [show Nat.beq id' id' = true from Nat.beq_refl id'] at hb; cases hb
          exact runs_block h1 (by simp [Exit.inBlock, this]) trivial
      · rename_i σ1 hx
        cases h
        exact runs_block (ih ro x σ _ σ' hx hro).1 (by simp [Exit.inBlock]) trivial
      · rename_i σ1 hx
        cases h
        exact runs_block (ih ro x σ _ σ' hx hro).1 (by simp [Exit.inBlock]) trivial
      · cases h
    | loop x =>
      have key : WF σ → ∃ m, RunsN P ro x m σ e σ' := by
        intro W
        simp only [exCode] at h
        split at h
        · rename_i σ1 hx
          have h1 := (ih ro x σ _ σ1 hx hro).1
          obtain ⟨_, W1, n1, _, _⟩ := h1 W
          obtain ⟨m, h2⟩ := (ih ro (.loop x) σ1 e σ' h fun l hl => Nat.lt_of_lt_of_le (hro l hl) n1).2 x rfl
          exact ⟨m + 1, runsN_step hro h1 h2⟩
        · rename_i σ1 hx
          cases h
          exact ⟨1, runsN_out (by simp) (ih ro x σ _ σ' hx hro).1⟩
        · rename_i id σ1 hx
          cases h
          exact ⟨1, runsN_out (by simp) (ih ro x σ _ σ' hx hro).1⟩
        · cases h
      refine ⟨fun W => ?_, fun y hy => ?_⟩
      · obtain ⟨m, hm⟩ := key W
        exact runs_loop hm W
      · cases hy
        by_cases W : WF σ
        · exact key W
        · exact ⟨0, fun W' => absurd W' W⟩
    | rangeFunc g ps A Bd =>
      refine ⟨?_, fun x hx => by cases hx⟩
      simp only [exCode] at h
      split at h
      · rename_i fid first cap hg
        cases hok : fnOk P fid with
        | false => rw [hok] at h; cases h
        | true => rw [hok] at h; exact runs_range hc hg hok h
      · cases h
    | _ => cases h
end Ex
end Go.Proofs.Ytlpjnhoafaamkaa
