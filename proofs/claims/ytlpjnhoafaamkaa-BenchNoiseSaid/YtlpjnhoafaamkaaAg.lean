/-
  REGIONS BY EVALUATION: a region of operations is evaluated once, in the order of its text; what it comes to holds in whatever order its edges allow.
-/
import Derived.Orders
import Derived.Below
import Derived.Laws.Rows
import Derived.Laws.AppendOwn
import Derived.Laws.CopyOwn
import Derived.KernelRfl
import Derived.RangeFuncLeaves
import Derived.LoopNIn
import Derived.OrdersIn
import Derived.Lib.Hide
set_option linter.unusedVariables false
set_option linter.unusedSimpArgs false
namespace Go.Proofs.Ytlpjnhoafaamkaa
open Go Go.RowKit
namespace Ag

/-- a computation without memory -/
def arp {α : Type} (P : Program) : Sem α → Option α
  | .pure a => some a
  | .program k => arp P (k P)
  | .mark _ k => arp P k
  | _ => none
theorem arp_run {α : Type} {P : Program} {s : Sem α} {a : α} (h : arp P s = some a) (w : World) : s.run P w = .ok a w := by
  induction s generalizing w with
  | pure x => simp only [arp, Option.some.injEq] at h; subst h; rfl
  | program k ih => exact ih P h w
  | mark m k ih => exact ih h w
  | _ => simp [arp] at h

/-- blk: a block that is known whole (own: it may be written); row: a slice of the call's own, that may grow -/
inductive Cel where
  | blk (b : Nat) (c : List Value) (T : TypeId) (own : Bool)
  | row (a : Option Addr) (n cap size : Nat) (xs : List Value) (T : TypeId) (own : Bool)
  | vue (b o : Nat) (c : List Value)
  | dfr (D : Nat)
  | loop (l : Nat) (tm : List (Option Value)) (ps : Array Tmp) (assign body : Code) (st : LoopState) (pend : Option Code) (D : Nat)
def Cel.key : Cel → Option Nat
  | .blk b _ _ _ => some b
  | .row a _ _ _ _ _ _ => a.map (·.block)
  | .vue b _ _ => some b
  | .dfr D => some D
  | .loop l _ _ _ _ _ _ _ => some l
def Cel.mine : Cel → Bool
  | .blk _ _ _ o => o
  | .row _ _ _ _ _ _ o => o
  | .vue _ _ _ => false
  | _ => true
def Cel.holds (w : World) : Cel → Prop
  | .blk b c T _ => w.heap[b]? = some (.cells c.toArray T (0, 0))
  | .row a n cap size xs T _ => w.ownsRow 0 T size (.slice a n cap) n xs
  | .vue b o c => b < w.heap.size ∧ ∀ j u, c[j]? = some u → w.cell? ⟨b, o + j, none⟩ = some u
  | .dfr D => w.heap[D]? = some (.deferred (some []))
  | .loop l tm ps assign body st pend D => ∃ (fn : FuncId) (tmps : Array Value), tmps.size = tm.length ∧ (∀ (t : Nat) (v : Value), tm[t]? = some (some v) → tmps[t]? = some v) ∧ w.heap[l]? = some (.loop { state := st, pending := pend, fn := fn, tmps := tmps, params := ps, assign := assign, body := body, defers := D })
theorem Cel.lt {w : World} {e : Cel} (h : e.holds w) {k : Nat} (hk : e.key = some k) : k < w.heap.size := by
  cases e with
  | blk b c T o => simp [Cel.key] at hk; subst hk; exact (Array.getElem?_eq_some_iff.1 h).1
  | row a n cap size xs T o =>
    rcases h.2 with ⟨h1, _⟩ | ⟨g, cap', cur, h1, _, h2, _⟩
    · cases h1; simp [Cel.key] at hk
    · cases h1
      simp [Cel.key] at hk
      subst hk
      exact (Array.getElem?_eq_some_iff.1 h2).1
  | vue b o c => simp [Cel.key] at hk; subst hk; exact h.1
  | dfr D => simp [Cel.key] at hk; subst hk; exact (Array.getElem?_eq_some_iff.1 h).1
  | loop l tm ps assign body st pend D =>
    obtain ⟨fn, tmps, _, _, h3⟩ := h
    simp [Cel.key] at hk; subst hk; exact (Array.getElem?_eq_some_iff.1 h3).1
theorem Cel.kept {w w' : World} {e : Cel} (h : e.holds w) (hk : ∀ k, e.key = some k → w'.heap[k]? = w.heap[k]?) : e.holds w' := by
  cases e with
  | blk b c T o => exact (hk b rfl).trans h
  | row a n cap size xs T o =>
    refine ⟨h.1, ?_⟩
    rcases h.2 with h1 | ⟨g, cap', cur, h1, h2, h3, h4⟩
    · exact .inl h1
    · cases h1
      exact .inr ⟨g, cap, cur, rfl, h2, by rw [hk g rfl]; exact h3, h4⟩
  | vue b o c =>
    have hb := hk b rfl
    refine ⟨?_, fun j u hu => ?_⟩
    · have h1 := h.1
      rw [Array.getElem?_eq_getElem h1] at hb
      exact (Array.getElem?_eq_some_iff.1 hb).1
    · rw [← h.2 j u hu]; unfold World.cell?; rw [show w'.heap[(⟨b, o + j, none⟩ : Addr).block]? = w.heap[(⟨b, o + j, none⟩ : Addr).block]? from hb]
  | dfr D => exact (hk D rfl).trans h
  | loop l tm ps assign body st pend D =>
    obtain ⟨fn, tmps, h1, h2, h3⟩ := h
    exact ⟨fn, tmps, h1, h2, (hk l rfl).trans h3⟩
def Cel.frz : Cel → Cel
  | .blk b c T _ => .blk b c T false
  | .row a n cap size xs T _ => .row a n cap size xs T false
  | c => c
theorem Cel.frz_holds {w : World} {e : Cel} : e.frz.holds w ↔ e.holds w := by cases e <;> exact Iff.rfl
theorem Cel.frz_key {e : Cel} : e.frz.key = e.key := by cases e <;> rfl
/-- the cells that are known, and their block -/
def Cel.view : Cel → Option (Nat × List Value)
  | .blk b c _ _ => some (b, c)
  | .row (some ⟨g, 0, none⟩) _ _ _ xs _ _ => some (g, xs)
  | _ => none
theorem Cel.view_cell {w : World} {e : Cel} {b : Nat} {l : List Value} (hv : e.view = some (b, l)) (h : e.holds w) {j : Nat} {u : Value} (hu : l[j]? = some u) : w.cell? ⟨b, j, none⟩ = some u := by
  cases e with
  | blk b' c T o =>
    cases hv
    unfold World.cell?
    rw [show w.heap[(⟨b, j, none⟩ : Addr).block]? = _ from h]
    simpa using hu
  | row a n cap size xs T o =>
    unfold Cel.view at hv
    split at hv
    · rename_i heq; cases heq
    · rename_i g n' cap' size' xs' T' o' heq
      cases heq
      cases hv
      rcases h.2 with ⟨h1, _⟩ | ⟨g', cap', cur, h1, _, h2, _, _, _, h3⟩
      · cases h1
      · cases h1
        unfold World.cell?
        rw [show w.heap[(⟨_, j, none⟩ : Addr).block]? = _ from h2]
        rw [← h3, List.getElem?_take] at hu
        split at hu
        · simpa using hu
        · cases hu
    · cases hv
  | vue b o c => cases hv
  | dfr D => cases hv
  | loop l tm ps assign body st pend D => cases hv

/-- a computation that makes one block, L -/
def arn {α : Type} (P : Program) (L : Nat) : Sem α → Option (α × Cel)
  | .program k => arn P L (k P)
  | .mark _ k => arn P L k
  | .new o k =>
    match o with
    | .cells c T (0, 0) => (arp P (k L)).map fun a => (a, .blk L c.toList T true)
    | _ => none
  | _ => none
theorem alloc_last (w : World) (o : Obj) : (w.alloc o).heap[w.heap.size]? = some o := by
  show (w.heap.push o)[w.heap.size]? = some o
  simp
theorem arn_run {α : Type} {P : Program} {s : Sem α} {w : World} {a : α} {e : Cel} (h : arn P w.heap.size s = some (a, e)) : ∃ o, s.run P w = .ok a (w.alloc o) ∧ e.holds (w.alloc o) ∧ e.key = some w.heap.size ∧ e.mine = true := by
  induction s with
  | program k ih => exact ih P h
  | mark m k ih => exact ih h
  | new o k ih =>
    simp only [arn] at h
    split at h
    · rename_i c T
      rw [Option.map_eq_some_iff] at h
      obtain ⟨x, hx, he⟩ := h
      cases he
      refine ⟨_, by show (k _).run P _ = _; rw [arp_run hx]; rfl, ?_, rfl, rfl⟩
      show (w.alloc _).heap[w.heap.size]? = _
      rw [alloc_last]
    · cases h
  | _ => simp [arn] at h

def aggD : TypeDesc → Bool
  | .struct _ | .array _ _ => true
  | _ => false
/-- a variable at t, read -/
def evLoad (P : Program) (t : TypeId) (p : Value) (e : Cel) (ov : Option Value) : Option (Value × List Prop) :=
  match p, e.view with
  | .pointer (some ⟨b, off, none⟩), some (b', c) =>
    match (P.underlying t).map aggD, (P.info? t).map (·.size) with
    | some true, some n => some (.agg ((c.drop off).take n).toArray, [b = b', off + n ≤ c.length])
    | some false, _ =>
      match ov with
      | some v => some (v, [b = b', c[off]? = some v])
      | none => match c[off]? with
        | some v => some (v, [b = b'])
        | none => none
    | _, _ => none
  | .pointer (some ⟨b, off, none⟩), none => match e with
    | .vue b' o c => match (P.underlying t).map aggD, (P.info? t).map (·.size), ov with
      | some false, _, some v => some (v, [b = b', ∃ k, off = o + k ∧ c[k]? = some v])
      | some true, some n, some (.agg vs) => some (.agg vs, [b = b', ∃ k, off = o + k ∧ vs.size = n ∧ ∀ j u, vs[j]? = some u → c[k + j]? = some u])
      | _, _, _ => none
    | _ => none
  | _, _ => none
/-- a variable at t, written -/
def evStore (P : Program) (t : TypeId) (p v : Value) (e : Cel) : Option (Cel × List Prop) :=
  match p, (P.info? t).map (·.size), e with
  | .pointer (some ⟨b, off, none⟩), some n, .blk b' c T true => some (.blk b' (c.take off ++ v.cells.toList ++ c.drop (off + n)) T true, [b = b', off + n ≤ c.length, v.cells.size = n, v.cells.all (·.oneCell') = true])
  | .pointer (some ⟨b, off, none⟩), some n, .row (some ⟨g, 0, none⟩) m cap s xs T true => some (.row (some ⟨g, 0, none⟩) m cap s (xs.take off ++ v.cells.toList ++ xs.drop (off + n)) T true, [b = g, off + n ≤ xs.length, v.cells.size = n, v.cells.all (·.oneCell') = true])
  | _, _, _ => none
/-- the address of an element -/
def evIdx (P : Program) (t : TypeId) (x i : Value) : Option (Value × List Prop) :=
  match P.underlying t, x, i with
  | some (.slice el), .slice (some ⟨b, off, none⟩) len _, .int _ k =>
    match (P.info? el).map (·.size) with
    | some s => some (.pointer (some ⟨b, off + k.toNat * s, none⟩), [0 ≤ k, k < (len : Int)])
    | none => none
  | some (.array len el), .pointer (some ⟨b, off, none⟩), .int _ k =>
    match (P.info? el).map (·.size) with
    | some s => some (.pointer (some ⟨b, off + k.toNat * s, none⟩), [0 ≤ k, k < (len : Int)])
    | none => none
  | _, _, _ => none

def AllP : List Prop → Prop
  | [] => True
  | p :: l => p ∧ AllP l

theorem run_sizeOf {P : Program} {t n : Nat} (h : (P.info? t).map (·.size) = some n) (w : World) : (sizeOf t).run P w = .ok n w := by
  cases hq : P.info? t with
  | none => simp [hq] at h
  | some i => simp [hq] at h; simp [sizeOf, typeInfo, hq, h]
theorem evLoad_run {P : Program} {t : TypeId} {p : Value} {e : Cel} {ov : Option Value} {v : Value} {ps : List Prop} (h : evLoad P t p e ov = some (v, ps)) (hp : AllP ps) {w : World} (he : e.holds w) : (Instr.loadAt t p).run P w = .ok v w := by
  unfold evLoad at h
  split at h
  · rename_i b off b' c hvw
    have hld : ∀ j u, c[off + j]? = some u → b = b' → w.cell? ((⟨b, off, none⟩ : Addr).add j) = some u := by
      intro j u hu hb
      subst hb
      have hadd : (⟨b, off, none⟩ : Addr).add j = ⟨b, off + j, none⟩ := by unfold Addr.add; split <;> simp_all
      rw [hadd]
      exact Cel.view_cell hvw he hu
    split at h
    · rename_i n ha hs
      rw [Option.map_eq_some_iff] at ha
      obtain ⟨d, hd, had⟩ := ha
      cases h
      obtain ⟨hb, hl, _⟩ := hp
      have hl2 : ((c.drop off).take n).length = n := by simp; omega
      have hrun := run_loadCells_list (P := P) w ⟨b, off, none⟩ ((c.drop off).take n) (fun j u hu => by
        refine hld j u ?_ hb
        have hj : j < n := by
          have := (List.getElem?_eq_some_iff.1 hu).1
          omega
        rw [List.getElem?_take_of_lt hj, List.getElem?_drop] at hu
        exact hu)
      rw [hl2] at hrun
      have hagg : (isAgg t).run P w = .ok true w := by
        unfold isAgg
        rw [Sem.run_bind, run_underlying hd w]
        cases d <;> simp_all [aggD]
      simp only [Instr.loadAt, Instr.sureAddr, Sem.run_bind, Sem.run_pure, Result.andThen_ok, loadVar, hagg, if_true, run_sizeOf hs, hrun]
    · rename_i _ _ ha
      rw [Option.map_eq_some_iff] at ha
      obtain ⟨d, hd, had⟩ := ha
      have hagg : (isAgg t).run P w = .ok false w := by
        unfold isAgg
        rw [Sem.run_bind, run_underlying hd w]
        cases d <;> simp_all [aggD]
      have key : c[off]? = some v → b = b' → (Instr.loadAt t (.pointer (some ⟨b, off, none⟩))).run P w = .ok v w := by
        intro h1 h2
        have h3 := hld 0 v (by simpa using h1) h2
        simp only [Addr.add] at h3
        simp only [Instr.loadAt, Instr.sureAddr, Sem.run_bind, Sem.run_pure, Result.andThen_ok, loadVar, hagg, Bool.false_eq_true, if_false, run_load]
        simp only [if_true] at h3
        rw [h3]
      split at h
      · cases h
        exact key hp.2.1 hp.1
      · split at h
        · cases h
          exact key ‹_› hp.1
        · cases h
    · cases h
  · rename_i b off hvw
    split at h
    case h_2 => cases h
    rename_i b' o c
    have hld : ∀ k j u, off = o + k → c[k + j]? = some u → b = b' → w.cell? ((⟨b, off, none⟩ : Addr).add j) = some u := by
      intro k j u ho hu hb
      subst hb ho
      have hadd : (⟨b, o + k, none⟩ : Addr).add j = ⟨b, o + (k + j), none⟩ := by unfold Addr.add; split <;> simp_all [Nat.add_assoc]
      rw [hadd]
      exact he.2 _ _ hu
    split at h
    · rename_i v' ha
      rw [Option.map_eq_some_iff] at ha
      obtain ⟨d, hd, had⟩ := ha
      cases h
      obtain ⟨hb, ⟨k, ho, hu⟩, _⟩ := hp
      have hagg : (isAgg t).run P w = .ok false w := by
        unfold isAgg
        rw [Sem.run_bind, run_underlying hd w]
        cases d <;> simp_all [aggD]
      have h3 := hld k 0 v ho (by simpa using hu) hb
      simp only [Addr.add] at h3
      simp only [Instr.loadAt, Instr.sureAddr, Sem.run_bind, Sem.run_pure, Result.andThen_ok, loadVar, hagg, Bool.false_eq_true, if_false, run_load]
      simp only [if_true] at h3
      rw [h3]
    · rename_i n vs ha hs
      rw [Option.map_eq_some_iff] at ha
      obtain ⟨d, hd, had⟩ := ha
      cases h
      obtain ⟨hb, ⟨k, ho, hn, hu⟩, _⟩ := hp
      have hagg : (isAgg t).run P w = .ok true w := by
        unfold isAgg
        rw [Sem.run_bind, run_underlying hd w]
        cases d <;> simp_all [aggD]
      have hrun := run_loadCells_list (P := P) w ⟨b, off, none⟩ vs.toList (fun j u hj => hld k j u ho (hu j u (by simpa using hj)) hb)
      rw [Array.length_toList, hn] at hrun
      simp only [Instr.loadAt, Instr.sureAddr, Sem.run_bind, Sem.run_pure, Result.andThen_ok, loadVar, hagg, if_true, run_sizeOf hs, hrun, Array.toArray_toList]
    · cases h
  · cases h
theorem run_storeCells_mid {P : Program} (g off : Nat) (t : TypeId) : ∀ (vs : List Value) (i : Nat) (cur : Array Value) (w : World), w.heap[g]? = some (.cells cur t (0, 0)) → off + i + vs.length ≤ cur.size → (∀ v ∈ vs, v.oneCell' = true) →
    (storeCells ⟨g, off, none⟩ vs i).run P w = .ok () (w.setRow g (cur.toList.take (off + i) ++ vs ++ cur.toList.drop (off + i + vs.length)).toArray)
  | [], i, cur, w, hg, hl, _ => by
    have e : (cur.toList.take (off + i) ++ [] ++ cur.toList.drop (off + i + ([] : List Value).length)).toArray = cur := by simp
    rw [e]
    show Result.ok () w = _
    congr 1
    apply Eq.symm
    unfold World.setRow
    have hlt : g < w.heap.size := (Array.getElem?_eq_some_iff.1 hg).1
    have hv : w.heap[g] = .cells cur t (0, 0) := (Array.getElem?_eq_some_iff.1 hg).2
    cases w with
    | mk heap tape drawn os output =>
      congr 1
      apply Array.ext
      · simp
      · intro k h1 h2
        simp only [Array.getElem_modify]
        split
        · rename_i hk; subst hk; simp at hv; simp [hv]
        · rfl
  | v :: rest, i, cur, w, hg, hl, h1 => by
    have hi : off + i < cur.size := by simp at hl; omega
    have hadd : (⟨g, off, none⟩ : Addr).add i = ⟨g, off + i, none⟩ := by unfold Addr.add; split <;> simp_all
    have hcell : w.cell? ⟨g, off + i, none⟩ = some cur[off + i] := by simp [World.cell?, hg, hi]
    have hfro : w.frozen? ⟨g, off + i, none⟩ = false := by simp [World.frozen?, hg]
    have hst : (store ((⟨g, off, none⟩ : Addr).add i) v).run P w = .ok () (w.setRow g (cur.setIfInBounds (off + i) v)) := by
      rw [hadd, run_store P w _ v _ (h1 v (by simp)), hcell]
      simp [hfro, setCell_eq_setRow w g (off + i) cur t (0, 0) v hg]
    have ih := run_storeCells_mid (P := P) g off t rest (i + 1) (cur.setIfInBounds (off + i) v) (w.setRow g (cur.setIfInBounds (off + i) v)) (setRow_heap w g cur _ t _ hg) (by simp at hl ⊢; omega) (fun x hx => h1 x (by simp [hx]))
    simp only [storeCells, Sem.run_bind, hst, Result.andThen_ok, ih, setRow_setRow]
    congr 3
    apply List.ext_getElem?
    intro k
    simp at hl
    simp only [Array.toList_setIfInBounds, List.getElem?_append, List.length_take, List.length_set, Array.length_toList, List.length_append, List.length_cons, List.getElem?_drop, List.getElem?_take, List.getElem?_set]
    have m1 : min (off + (i + 1)) cur.size = off + i + 1 := by omega
    have m2 : min (off + i) cur.size = off + i := by omega
    rw [m1, m2]
    by_cases hk : k < off + i
    · simp [hk, show k < off + i + 1 by omega, show k < off + i + 1 + rest.length by omega, show k < off + i + (rest.length + 1) by omega, show off + i ≠ k by omega, show k < off + (i + 1) by omega]
    · by_cases hk2 : k = off + i
      · subst hk2
        simp [show off + i < off + i + 1 + rest.length by omega, show off + i < off + (i + 1) by omega, hi]
      · by_cases hk3 : k < off + i + 1 + rest.length
        · simp [hk, hk3, show ¬ k < off + i + 1 by omega, show k < off + i + (rest.length + 1) by omega, show k - (off + i) = (k - (off + i + 1)) + 1 by omega]
        · simp [hk3, show ¬ k < off + i + (rest.length + 1) by omega, show off + i + (rest.length + 1) + (k - (off + i + (rest.length + 1))) = k by omega, show off + (i + 1) + rest.length + (k - (off + i + 1 + rest.length)) = k by omega, show off + i ≠ k by omega]
theorem grown_setRow (w : World) (g : Nat) (c : Array Value) : w.grownBy (w.setRow g c) (some g) :=
  ⟨rfl, rfl, rfl, by simp, fun k _ hk => setRow_other w g k _ (fun e => hk (by rw [e]))⟩
theorem evStore_run {P : Program} {t : TypeId} {p v : Value} {e e' : Cel} {ps : List Prop} (h : evStore P t p v e = some (e', ps)) (hp : AllP ps) {w : World} (he : e.holds w) : ∃ w', (Instr.storeAt t p v).run P w = .ok () w' ∧ e'.key = e.key ∧ e.mine = true ∧ e'.mine = true ∧ e'.holds w' ∧ w.grownBy w' e.key := by
  have hrun : ∀ (b off n : Nat) (T : TypeId) (cur : Array Value), (P.info? t).map (·.size) = some n → w.heap[b]? = some (.cells cur T (0, 0)) → off + n ≤ cur.size → v.cells.size = n → v.cells.all (·.oneCell') = true →
      (Instr.storeAt t (.pointer (some ⟨b, off, none⟩)) v).run P w = .ok () (w.setRow b (cur.toList.take off ++ v.cells.toList ++ cur.toList.drop (off + n)).toArray) := by
    intro b off n T cur hs hg hl hn h1
    have := run_storeCells_mid (P := P) b off T v.cells.toList 0 cur w hg (by simp; omega) (fun x hx => (Array.all_eq_true_iff_forall_mem.1 h1) x (by simpa using hx))
    simp only [Nat.add_zero, Array.length_toList, hn] at this
    simp only [Instr.storeAt, Instr.sureAddr, Sem.run_bind, Sem.run_pure, Result.andThen_ok, storeVar, run_sizeOf hs, hn, ne_eq, not_true, if_false]
    exact this
  unfold evStore at h
  split at h
  · rename_i b off n b' c T hs
    cases h
    obtain ⟨hb, hl, hn, h1, _⟩ := hp
    subst hb
    have hr := hrun b off n T c.toArray hs he (by simpa using hl) hn h1
    exact ⟨_, hr, rfl, rfl, rfl, setRow_heap w b _ _ _ _ he, grown_setRow _ _ _⟩
  · rename_i b off n g m cap s xs T hs
    cases h
    obtain ⟨hb, hl, hn, h1, _⟩ := hp
    subst hb
    obtain ⟨hx, hh⟩ := he
    rcases hh with ⟨h2, _⟩ | ⟨g', cap', cur, h2, h3, h4, h5, h6, h7, h8⟩
    · cases h2
    · cases h2
      have hxl : xs.length ≤ cur.size := by rw [← h8]; simp; omega
      have hr := hrun b off n T cur hs h4 (by omega) hn h1
      refine ⟨_, hr, rfl, rfl, rfl, ⟨?_, .inr ⟨b, cap, _, rfl, h3, setRow_heap w b _ _ _ _ h4, h5, h6, ?_, ?_⟩⟩, grown_setRow _ _ _⟩
      · rw [← hx]; simp [hn]; omega
      · simp [hn]; omega
      · have hlen : (xs.take off ++ v.cells.toList ++ xs.drop (off + n)).length = m * s := by rw [← hx]; simp [hn]; omega
        have hsp : cur.toList = xs ++ cur.toList.drop (m * s) := by rw [← h8, List.take_append_drop]
        have e1 : (cur.toList.take off ++ v.cells.toList ++ cur.toList.drop (off + n)) = (xs.take off ++ v.cells.toList ++ xs.drop (off + n)) ++ cur.toList.drop (m * s) := by
          generalize cur.toList.drop (m * s) = tl at hsp
          rw [hsp, List.take_append_of_le_length (by omega), List.drop_append_of_le_length (by omega)]
          simp
        show (cur.toList.take off ++ v.cells.toList ++ cur.toList.drop (off + n)).take (m * s) = _
        rw [e1, ← hlen]
        exact List.take_left
  · cases h
/-- an append to a slice of the call's own -/
theorem run_append_mine {P : Program} {w : World} {t ty e : TypeId} {i : TypeInfo} {z : Value} {size bytes : Nat} (ht : P.underlying t = some (.slice e)) (hi : P.info? e = some i) (hz : i.zero = some z)
    (hsize : i.size = size) (hby : i.bytes = bytes) (hzs : z.cells.size = size) (hsz : 0 < size)
    {v : Value} {n : Nat} {xs : List Value} (hown : w.ownsRow 0 e size v n xs)
    {a : Addr} {m c : Nat} {news : List Value} (hl : news.length = m * size) (hnews : ∀ j u, news[j]? = some u → w.cell? (a.add j) = some u) (h1 : ∀ u ∈ news, u.oneCell' = true)
    (h63 : n + m ≤ maxLen) (hbytes : (n + m) * bytes ≤ 140737488355328) :
    ∃ v' w', (Builtin.append_ #[t, t] ty #[v, .slice (some a) m c]).run P w = .ok v' w' ∧ w'.ownsRow 0 e size v' (n + m) (xs ++ news) ∧ w.grownBy w' v.ownBlock ∧ (∀ k, v'.ownBlock = some k → v.ownBlock = some k ∨ w.heap.size ≤ k) := by
  rcases hown.2 with ⟨rfl, rfl⟩ | ⟨g, cap, cur, rfl, hbg, hg, hnc, hcm, hcs, htake⟩
  · have hx : xs = [] := List.eq_nil_of_length_eq_zero (by simpa using hown.1)
    subst hx
    obtain ⟨v', w', r1, r2, r3, r4⟩ := run_append_own (P := P) w w.heap.size t ty e i z size bytes ht hi hz hsize hby hzs hsz _ 0 [] (World.ownsRow_nil w w.heap.size e size) a m c news hl hnews h1 h63 hbytes (Nat.le_refl _)
    refine ⟨v', w', r1, ⟨r2.1, ?_⟩, r3, fun k hk => .inr ?_⟩
    · rcases r2.2 with q | ⟨g, cap, cur, q1, q2, q3⟩
      · exact .inl q
      · exact .inr ⟨g, cap, cur, q1, Nat.zero_le _, q3⟩
    · rcases r2.2 with ⟨q, _⟩ | ⟨g, cap, cur, q1, q2, q3⟩
      · rw [q] at hk; simp [Value.ownBlock] at hk
      · rw [q1] at hk; simp [Value.ownBlock] at hk; omega
  · obtain ⟨v', w', r1, r2, r3, r4⟩ := run_append_own (P := P) w 0 t ty e i z size bytes ht hi hz hsize hby hzs hsz _ n xs hown a m c news hl hnews h1 h63 hbytes (Nat.zero_le _)
    refine ⟨v', w', r1, r2, r3, fun k hk => ?_⟩
    by_cases hroom : n + m ≤ cap
    · have hfit : n * i.size + news.length ≤ cur.size := by rw [hl, hsize, hcs, ← Nat.add_mul]; exact Nat.mul_le_mul_right _ hroom
      have hr := run_append_room (P := P) w t ty e i ht hi g n cap cur hg a m c news (by rw [hsize]; exact hl) hnews h1 hroom hfit
      rw [hr] at r1
      cases r1
      exact .inl hk
    · have holds : ∀ j u, xs[j]? = some u → w.cell? ((⟨g, 0, none⟩ : Addr).add j) = some u := hown.cells (g := g) rfl
      have h63' : ((n + m : Nat) : Int) ≤ 9223372036854775807 := by simp only [maxLen] at h63; omega
      have hr := run_append_grow (P := P) w t ty e i z ht hi hz ⟨g, 0, none⟩ n cap xs (by rw [hsize]; exact hown.1) holds a m c news (by rw [hsize]; exact hl) hnews (by omega) h63' (by rw [hby]; exact growslice_fits (by omega) hbytes)
      rw [hr] at r1
      cases r1
      simp [Value.ownBlock] at hk
      exact .inr (by omega)
theorem evIdx_run {P : Program} {t : TypeId} {x i v : Value} {ps : List Prop} (h : evIdx P t x i = some (v, ps)) (hp : AllP ps) (w : World) : (Instr.indexAt t x i).run P w = .ok v w := by
  unfold evIdx at h
  have hadd : ∀ b off n : Nat, (⟨b, off, none⟩ : Addr).add n = ⟨b, off + n, none⟩ := by
    intro b off n; unfold Addr.add; split <;> simp_all
  split at h
  · rename_i el b off len cap k0 k hu
    split at h
    · rename_i s hs
      cases h
      obtain ⟨h0, h1, _⟩ := hp
      simp [Instr.indexAt, asIntOf, Sem.run_bind, run_underlying hu, h0, h1, run_sizeOf hs, hadd]
    · cases h
  · rename_i len el b off k0 k hu
    split at h
    · rename_i s hs
      cases h
      obtain ⟨h0, h1, _⟩ := hp
      simp [Instr.indexAt, Instr.sureAddr, asIntOf, Sem.run_bind, run_underlying hu, h0, h1, run_sizeOf hs, hadd]
    · cases h
  · cases h
end Ag
end Go.Proofs.Ytlpjnhoafaamkaa
