/-
  AN EXECUTOR, checked once: an operation, evaluated by names.
-/
import Derived.Test.YtlpjnhoafaamkaaExN
import Derived.IntWalk
set_option linter.unusedVariables false
set_option linter.unusedSimpArgs false
namespace Go.Proofs.Ytlpjnhoafaamkaa
open Go Go.RowKit
namespace Ex

def partsx (tv : Tmp → Option Value) : List (Nat × Operand) → Option (List (Nat × Value))
  | [] => some []
  | (i, x) :: l => match opx tv x, partsx tv l with
    | some v, some vs => some ((i, v) :: vs)
    | _, _ => none
def ptrV (n : Nat) : Value := .pointer (some ⟨n, 0, none⟩)
def intV (n : Nat) : Value := .int .i64 n
/-- the cells of a slice that is built -/
def bsCells (P : Program) (t : TypeId) (len : Nat) (parts : List (Nat × Value)) : Option (TypeId × Array Value) :=
  match arp P (underlying t) with
  | some (.slice e) => match arp P (sizeOf e), arp P (zeroValue e) with
    | some s, some z => bif Nat.ble (len * s) 16777216 && gnd z && Nat.ble len 1000000000 then
        (Instr.fill (fun i => some (i * s, s)) ((Array.range (len * s)).map (z.cells[· % z.cells.size]!)) parts).map fun c => (e, c) else none
    | _, _ => none
  | _ => none
/-- the cells of a slice that is made -/
def msCells (P : Program) (t : TypeId) (len cap : Value) : Option (TypeId × Array Value × Nat × Nat) :=
  match arp P (underlying t), natOf len, natOf cap with
  | some (.slice e), some l, some c => match arp P (sizeOf e), arp P (zeroValue e), arp P (typeInfo e) with
    | some s, some z, some i => bif Nat.ble l c && Nat.ble c 1000000000 && Nat.ble (i.bytes * c) 1000000000 && gnd z then
        some (e, (Array.range (c * s)).map (z.cells[· % z.cells.size]!), l, c) else none
    | _, _, _ => none
  | _, _, _ => none
def gops (o : Oper) (tv : Tmp → Option Value) : Bool := o.op.operands.toList.all fun x => match opx tv x with | some v => gnd v | none => false
def notSel (o : Oper) : Bool := match o.op with | .select .. => false | _ => true
def isCmp : BinOp → Bool
  | .eql | .neq => true
  | _ => false
def optx (tv : Tmp → Option Value) : Option Operand → Option (Option Value)
  | none => some none
  | some x => (opx tv x).map some
def evGround (P : Program) (o : Oper) (tv : Tmp → Option Value) : Option Res :=
  bif gops o tv && notSel o then match arp P (execOp (fun x => (opx tv x).getD undef) o) with
    | some (.value v) => bif gnd v then some (.val v [] [] 0) else none
    | _ => none
  else none
def fnOk (P : Program) (g : FuncId) : Bool := match P.funcs[g]? with | some fn => fn.body.isSome && !(fn.name == "runtime.NumGoroutine") | none => false
def evCopy (P : Program) (t : TypeId) (d s : Value) (H : Nat → Option Ent) : Option Res :=
  match arp P (underlying t), d, s with
  | some (.slice e), .slice (some ⟨b, off, none⟩) dl _, .slice (some ⟨f, off', none⟩) sl _ => match arp P (sizeOf e), H b, (H f).bind Ent.cells with
    | some z, some c, some l => match cellsAt l off' (Nat.min sl dl * z) with
      | some xs => bif xs.all (·.oneCell') then (c.put off xs).map fun c' => .val (intV (Nat.min sl dl)) [(b, some c')] [b, f] 0 else none
      | none => none
    | _, _, _ => none
  | _, _, _ => none
def evLen (P : Program) (t : TypeId) (x : Value) (H : Nat → Option Ent) : Option Res :=
  match arp P (underlying t), x with
  | some (.slice _), .slice _ n _ => some (.val (intV n) [] [] 0)
  | some (.map _ _), .map (some r) => match H r with
    | some (.obj (.map es _)) => some (.val (intV es.size) [] [r] 0)
    | _ => none
  | some (.string), .string s => some (.val (intV s.size) [] [] 0)
  | some (.array n _), _ => some (.val (intV n) [] [] 0)
  | some (.map _ _), .map none => some (.val (intV 0) [] [] 0)
  | _, _ => none
def valOnly : Option Res → Option Res
  | some (.val v wr acc new) => some (.val v wr acc new)
  | _ => none
theorem valOnly_some {x : Option Res} {r : Res} (h : valOnly x = some r) : ∃ v wr acc new, r = .val v wr acc new ∧ x = some (.val v wr acc new) := by
  unfold valOnly at h
  split at h
  · cases h; exact ⟨_, _, _, _, rfl, rfl⟩
  · cases h
def evCall (P : Program) (o : Oper) (c : Call) (tv : Tmp → Option Value) (H : Nat → Option Ent) (n : Nat) : Option Res :=
  match c.callee, c.args.toList, c.argTypes.toList with
  | .builtin .append, [s, x], [t, t'] => match opx tv s, opx tv x with
    | some s, some x => bif Nat.beq t t' then valOnly (evAppend P t s x H n) else none
    | _, _ => none
  | .builtin .copy, [d, s], [t, _] => match opx tv d, opx tv s with
    | some d, some s => valOnly (evCopy P t d s H)
    | _, _ => none
  | .builtin .len, [x], [t] => match opx tv x with
    | some x => valOnly (evLen P t x H)
    | none => none
  | .builtin .delete, [m, k], [t, _] => match opx tv m, opx tv k with
    | some m, some k => (evDelete P t m k H).map fun r => .val undef [(r.1, some r.2)] [r.1] 0
    | _, _ => none
  | .value f, xs, _ => match opx tv f, opl tv xs with
    | some (.func (.func g) first cap), some vs => bif fnOk P g then some (.call g (first.toList ++ vs ++ cap.toList)) else evGround P o tv
    | some (.func (.yield l) ⟨[]⟩ ⟨[]⟩), some vs => some (.yield l vs)
    | _, _ => none
  | _, _, _ => evGround P o tv
def resV (r : Option Value) : Option Res := r.map fun v => .val v [] [] 0
def evUpd (P : Program) (t : TypeId) (x k v : Option Value) (H : Nat → Option Ent) : Option Res :=
  match x, k, v with
  | some x, some k, some v => (evUpdate P t x k v H).map fun r => .val undef [(r.1, some r.2)] [r.1] 0
  | _, _, _ => none
def evOp (P : Program) (o : Oper) (tv : Tmp → Option Value) (H : Nat → Option Ent) (n : Nat) : Option Res :=
  match o.op with
  | .move x => resV (opx tv x)
  | .assign x => resV (opx tv x)
  | .pick c a b => match opx tv c, opx tv a, opx tv b with
    | some (.bool t), some u, some v => some (.val (bif t then u else v) [] [] 0)
    | _, _, _ => none
  | .alloc t => match arp P (zeroValue t) with
    | some z => bif gnd z then some (.val (ptrV n) [(n, some (.obj (.cells z.cells t)))] [] 1) else none
    | none => none
  | .box t x => match opx tv x with
    | some v => some (.val (ptrV n) [(n, some (.obj (.cells v.cells t)))] [] 1)
    | none => none
  | .build t parts => match partsx tv parts.toList with
    | some ps => bif zeroOk P t then resV (arp P (Instr.build t ps.toArray)) else none
    | none => none
  | .buildSlice t len parts => match partsx tv parts.toList with
    | some ps => match bsCells P t len ps with
      | some (e, c) => some (.val (.slice (some ⟨n, 0, none⟩) len len) [(n, some (.obj (.cells c e)))] [] 1)
      | none => none
    | none => none
  | .load t x => match opx tv x with
    | some (.pointer (some a)) => (evLoad P t (.pointer (some a)) H).map fun v => .val v [] [a.block] 0
    | _ => none
  | .store t x y => match opx tv x, opx tv y with
    | some p, some v => (evStore P t p v H).map fun r => .val undef [(r.1, some r.2)] [r.1] 0
    | _, _ => none
  | .nilCheck x => match opx tv x with
    | some (.pointer (some a)) => some (.val (.pointer (some a)) [] [] 0)
    | some (.func (.func f) x y) => some (.val (.func (.func f) x y) [] [] 0)
    | some (.iface t v) => some (.val (.iface t v) [] [] 0)
    | _ => none
  | .binOp op t x y _ => match opx tv x, opx tv y with
    | some a, some b => bif nilCmp a b && isCmp op then
        match arp P (binOp op t a b) with
        | some v => bif gnd v then some (.val v [] [] 0) else none
        | none => none
      else evGround P o tv
    | _, _ => none
  | .makeInterface t x => match opx tv x with
    | some v => resV (arp P (Instr.makeInterface t v))
    | none => none
  | .makeFunc fn first cap => match fn, opl tv first.toList, opl tv cap.toList with
    | .func f, some a, some b => some (.val (.func (.func f) a.toArray b.toArray) [] [] 0)
    | _, _, _ => none
  | .makeMap t r => match r with
    | none => some (.val (.map (some n)) [(n, some (.obj (.map #[] 0)))] [] 1)
    | some _ => none
  | .makeSlice t l c => match opx tv l, opx tv c with
    | some l, some c => match msCells P t l c with
      | some (e, cs, l, c) => some (.val (.slice (some ⟨n, 0, none⟩) l c) [(n, some (.obj (.cells cs e)))] [] 1)
      | none => none
    | _, _ => none
  | .slice t x lo hi mx => match opx tv x, optx tv lo, optx tv hi, mx with
    | some v, some l, some h, none => bif capOk v then match arp P (Instr.sliceAt t v l h none) with
          | some u => bif capOk u then some (.val u [] [] 0) else none
          | none => none
        else (evSliceRow P t v l h H).map fun r => .val r.1 [] [r.2] 0
    | _, _, _, _ => none
  | .fieldAddr t x f => match opx tv x with
    | some v => resV (arp P (Instr.fieldAt t v f))
    | none => none
  | .field t x f => match opx tv x with
    | some v => resV (arp P (Instr.field t v f))
    | none => none
  | .indexAddr t x i => match opx tv x, opx tv i with
    | some v, some i => resV (arp P (Instr.indexAt t v i))
    | _, _ => none
  | .index t x i => match opx tv x, opx tv i with
    | some v, some i => resV (arp P (Instr.index t v i))
    | _, _ => none
  | .extract x i => match opx tv x with
    | some v => resV (arp P (Instr.extract v i))
    | none => none
  | .typeAssert x t u ok => match opx tv x with
    | some v => bif zeroOk P u then resV (arp P (Instr.typeAssert v t u ok)) else none
    | none => none
  | .lookup t x i ok => match opx tv x, opx tv i with
    | some v, some k => (evLookup P t v k ok H).map fun r => .val r.1 [] r.2 0
    | _, _ => none
  | .mapUpdate t x i y => evUpd P t (opx tv x) (opx tv i) (opx tv y) H
  | .insert t x i y => evUpd P t (opx tv x) (opx tv i) (opx tv y) H
  | .call c => evCall P o c tv H n
  | .unOp .. => evGround P o tv
  | .convert .. => evGround P o tv
  | _ => none
structure Ctx (ρ : Nm) (tv : Tmp → Option Value) (ev : Operand → Value) (H : Nat → Option Ent) (n : Nat) (o : Oper) (acc : List Nat) (w : World) : Prop where
  pre : Pre ρ H n acc w
  val : ∀ x ∈ o.op.operands, ∀ v, opx tv x = some v → ev x = ren ρ v
  fit : ∀ x v, opx tv x = some v → Fit n v
theorem ground_good {P : Program} {o : Oper} {tv : Tmp → Option Value} {n : Nat} {r : Res} (h : evGround P o tv = some r) {ρ : Nm} {ev : Operand → Value} {w : World} (hv : ∀ x ∈ o.op.operands, ∀ v, opx tv x = some v → ev x = ren ρ v) {A : Nat → Option Ent} : Good P o ev ρ n A w r := by
  unfold evGround at h
  cases hb : (gops o tv && notSel o) with
  | false => rw [hb] at h; cases h
  | true =>
    rw [hb] at h
    simp only [Bool.and_eq_true] at hb
    simp only [cond_true] at h
    split at h
    case h_2 => cases h
    rename_i v ha
    cases hg : gnd v with
    | false => rw [hg] at h; cases h
    | true =>
      rw [hg] at h
      cases h
      refine good_pure ?_
      rw [gnd_ren hg, ← ha]
      congr 1
      refine execOp_congr o (fun cs b e => ?_) fun x hx => ?_
      · have := hb.2
        unfold notSel at this
        rw [e] at this
        cases this
      · have := (List.all_eq_true.1 hb.1) x (by simpa using hx)
        cases hq : opx tv x with
        | none => rw [hq] at this; cases this
        | some u =>
          rw [hq] at this
          rw [hv x hx u hq, gnd_ren this]
          rfl
theorem alloc_heap (w : World) (o : Obj) : (w.alloc o).heap[w.heap.size]? = some o := heap_alloc_new w o
theorem keep_alloc (w : World) (o : Obj) (S : Nat → Prop) : Keep S w (w.alloc o) := ⟨rfl, rfl, rfl, by show _ ≤ (w.heap.push o).size; simp, fun k hk _ => heap_alloc_old w o k hk⟩
/-- a new block of cells -/
theorem made_cells {ρ : Nm} {n : Nat} {A : Nat → Option Ent} {w : World} {c : Array Value} {t : TypeId} (hc : ∀ v ∈ c.toList, Fit n v) : Eff ρ (ρ.with n w.heap.size 0) n (n + 1) A [(n, some (.obj (.cells c t)))] w (w.alloc (.cells (c.map (ren ρ)) t)) := by
  refine Eff.made ρ n 0 A (fun S => keep_alloc w _ S) ?_
  unfold Ent.holds
  rw [(with_self ρ n _ 0).1, alloc_heap]
  congr 1
  unfold oren
  congr 1
  apply Array.ext'
  simp only [Array.toList_map]
  exact fit_map hc fun i hi => with_alike ρ n _ 0 hi
theorem ptrV_ren (ρ : Nm) (n b k : Nat) : ren (ρ.with n b k) (ptrV n) = .pointer (some ⟨b, 0, none⟩) := by
  simp [ptrV, aren, (with_self ρ n b k).1]
def Res.acc : Res → List Nat
  | .val _ _ acc _ => acc
  | _ => []
def Res.ok (n : Nat) : Res → Prop
  | .val _ wr _ _ => ∀ e c, wrGet wr e = some (some c) → FitE n c
  | _ => True
theorem partsx_ren {tv : Tmp → Option Value} {ev : Operand → Value} {ρ : Nm} : ∀ {ps : List (Nat × Operand)} {vs : List (Nat × Value)}, partsx tv ps = some vs → (∀ p ∈ ps, ∀ v, opx tv p.2 = some v → ev p.2 = ren ρ v) → (ps.map fun p => (p.1, ev p.2)) = vs.map fun p => (p.1, ren ρ p.2)
  | [], vs, h, _ => by cases h; rfl
  | (i, x) :: ps, vs, h, hx => by
    unfold partsx at h
    split at h
    · rename_i v vs' h1 h2
      cases h
      simp only [List.map_cons]
      rw [hx (i, x) (by simp) v h1, partsx_ren h2 fun p hp => hx p (List.mem_cons_of_mem _ hp)]
    · cases h
theorem parts_arr {tv : Tmp → Option Value} {ev : Operand → Value} {ρ : Nm} {ps : Array (Nat × Operand)} {vs : List (Nat × Value)} (h : partsx tv ps.toList = some vs) (hx : ∀ p ∈ ps.toList, ∀ v, opx tv p.2 = some v → ev p.2 = ren ρ v) : (ps.map fun p => (p.1, ev p.2)) = vs.toArray.map fun p => (p.1, ren ρ p.2) := by
  apply Array.ext'
  simp only [Array.toList_map]
  exact partsx_ren h hx
theorem zget_gnd {z : Value} (h : gnd z = true) (ρ : Nm) (k : Nat) : ren ρ (z.cells[k]!) = z.cells[k]! := by
  have h1 := gnd_cells (ρ := ρ) h
  by_cases hk : k < z.cells.size
  · have h2 := congrArg (fun a : Array Value => a[k]?) h1
    simp only [Array.getElem?_map, Array.getElem?_eq_getElem hk, Option.map_some, Option.some.injEq] at h2
    rw [getElem!_pos z.cells k hk]
    exact h2
  · rw [getElem!_neg z.cells k hk]
    show ren ρ (.bool false) = .bool false
    simp
theorem zmap_gnd {z : Value} (h : gnd z = true) (ρ : Nm) (n : Nat) : ((Array.range n).map (z.cells[· % z.cells.size]!)).map (ren ρ) = (Array.range n).map (z.cells[· % z.cells.size]!) := by
  rw [Array.map_map]
  congr 1
  funext k
  exact zget_gnd h ρ _
theorem buildSlice_run {P : Program} {ρ : Nm} {w : World} {t e : TypeId} {len : Nat} {ps : List (Nat × Value)} {c : Array Value} (h : bsCells P t len ps = some (e, c)) : (Instr.buildSlice t len (ps.toArray.map fun p => (p.1, ren ρ p.2))).run P w = .ok (.slice (some ⟨w.heap.size, 0, none⟩) len len) (w.alloc (.cells (c.map (ren ρ)) e)) ∧ len < CB := by
  unfold bsCells at h
  split at h
  case h_2 => cases h
  rename_i e' hu
  split at h
  case h_2 => cases h
  rename_i s z hs hz
  cases hb : (Nat.ble (len * s) 16777216 && gnd z && Nat.ble len 1000000000) with
  | false => rw [hb] at h; cases h
  | true =>
    rw [hb] at h
    simp only [Bool.and_eq_true] at hb
    obtain ⟨hb, hlen⟩ := hb
    obtain ⟨c', hc, hce⟩ := Option.map_eq_some_iff.1 h
    cases hce
    have hble : len < CB := Nat.lt_of_le_of_lt (Nat.le_of_ble_eq_true hlen) (by decide)
    refine ⟨?_, hble⟩
    have hle : ¬ (len * s > 2 ^ 24) := by have := Nat.le_of_ble_eq_true hb.1; omega
    have hf := fill_map ρ (fun i => some (i * s, s)) ps ((Array.range (len * s)).map (z.cells[· % z.cells.size]!))
    rw [hc, zmap_gnd hb.2 ρ] at hf
    have hf' : Instr.fill (fun i => some (i * s, s)) ((Array.range (len * s)).map (z.cells[· % z.cells.size]!)) ((ps.toArray.map fun p => (p.1, ren ρ p.2)).toList) = some (c.map (ren ρ)) := by
      rw [Array.toList_map]; exact hf
    unfold Instr.buildSlice
    simp only [Sem.run_bind, arp_run hu, arp_run hs, Result.andThen_ok]
    rw [if_neg hle]
    by_cases h0 : len * s = 0
    · simp only [Sem.run_pure, Result.andThen_ok, h0, if_true]
      rw [h0] at hf'
      have r0 : Array.range 0 = #[] := rfl
      simp only [r0, Array.map_empty] at hf' ⊢
      rw [hf']
      simp [newRow]
    · simp only [Sem.run_pure, Result.andThen_ok, h0, if_false, Sem.run_bind, arp_run hz]
      rw [hf']
      simp [newRow]
theorem makeSlice_run {P : Program} {w : World} {t e : TypeId} {len cap : Value} {c : Array Value} {l k : Nat} (h : msCells P t len cap = some (e, c, l, k)) (ρ : Nm) : (Instr.makeSlice t (ren ρ len) (ren ρ cap)).run P w = .ok (.slice (some ⟨w.heap.size, 0, none⟩) l k) (w.alloc (.cells (c.map (ren ρ)) e)) ∧ k < CB := by
  unfold msCells at h
  split at h
  case h_2 => cases h
  rename_i e' l' k' hu hl hk
  split at h
  case h_2 => cases h
  rename_i s z i hs hz hi
  cases hb : (Nat.ble l' k' && Nat.ble k' 1000000000 && Nat.ble (i.bytes * k') 1000000000 && gnd z) with
  | false => rw [hb] at h; cases h
  | true =>
    rw [hb] at h
    cases h
    simp only [Bool.and_eq_true] at hb
    obtain ⟨⟨⟨q1, q2⟩, q3⟩, q4⟩ := hb
    have q1 := Nat.le_of_ble_eq_true q1
    have q2 := Nat.le_of_ble_eq_true q2
    have q3 := Nat.le_of_ble_eq_true q3
    obtain ⟨kl, rfl⟩ := natOf_ok hl
    obtain ⟨kk, rfl⟩ := natOf_ok hk
    have e1 : IntKind.i64.wrap (l : Int) = l := IntWalk.i64_in _ (by omega)
    have e2 : IntKind.i64.wrap (k : Int) = k := IntWalk.i64_in _ (by omega)
    have t1 : ¬ ((k : Int) < 0) := by omega
    have t2 : ¬ ((i.bytes : Int) * (k : Int) > 2 ^ 48) := by
      have : ((i.bytes * k : Nat) : Int) ≤ 1000000000 := by omega
      rw [Int.natCast_mul] at this
      omega
    have t3 : ¬ ((l : Int) < 0) := by omega
    have t4 : ¬ ((l : Int) > (k : Int)) := by omega
    refine ⟨?_, by unfold CB; omega⟩
    rw [zmap_gnd q4 ρ]
    unfold Instr.makeSlice
    simp only [ren_int, Sem.run_bind, arp_run hu, Result.andThen_ok, asInt, asIntOf, Sem.run_pure, arp_run hi, e1, e2]
    simp only [t1, t2, t3, t4, decide_false, Bool.or_false, Bool.false_or, Bool.false_eq_true, if_false]
    by_cases h0 : k * s = 0
    · have r0 : Array.range 0 = #[] := rfl
      simp [arp_run hs, h0, newRow, r0]
    · simp [arp_run hs, h0, newRow, arp_run hz]
theorem copy_run {P : Program} {ρ : Nm} {w : World} {t t' ty : TypeId} {d s v : Value} {H : Nat → Option Ent} {wr : Wr} {acc : List Nat} {new n : Nat} (h : evCopy P t d s H = some (.val v wr acc new)) (p : Pre ρ H n acc w) :
    ∃ ρ' w', (Builtin.copy_ #[t, t'] ty #[ren ρ d, ren ρ s]).run P w = .ok (ren ρ' v) w' ∧ Eff ρ ρ' n (n + new) (resA acc H) wr w w' := by
  unfold evCopy at h
  split at h
  case h_2 => cases h
  rename_i e b off dl dc f off' sl sc hu
  split at h
  case h_2 => cases h
  rename_i z c l hz hb hl
  obtain ⟨cf, hcf, hcl⟩ := Option.bind_eq_some_iff.1 hl
  split at h
  case h_2 => cases h
  rename_i xs hxs
  cases h1 : (xs.all fun x => x.oneCell') with
  | false => rw [h1] at h; cases h
  | true =>
    rw [h1] at h
    obtain ⟨c', hc', he⟩ := Option.map_eq_some_iff.1 h
    cases he
    obtain ⟨k1, k2, k3⟩ := cellsAt_run (P := P) (p.holds (e := f) (by simp) hcf) hcl hxs
    obtain ⟨w', r1, r2, r3⟩ := put_run (P := P) (p.holds (e := b) (by simp) hb) hc' (fun u hu => (List.all_eq_true.1 h1) u hu)
    refine ⟨ρ, w', ?_, Eff.wrote ρ n _ (p.fit b _ hb).2 (by rw [resA_mem (by simp), hb]; rfl) r3 r2⟩
    unfold Builtin.copy_
    simp [ren_slice, aren, Sem.run_bind, arp_run hu, Builtin.lenOf, arp_run hz, Builtin.firstCells, k3, r1, intV, goInt]
theorem len_good {P : Program} {ρ : Nm} {w : World} {t ty : TypeId} {x v : Value} {H : Nat → Option Ent} {wr : Wr} {acc : List Nat} {new n : Nat} (h : evLen P t x H = some (.val v wr acc new)) (p : Pre ρ H n acc w) :
    (Builtin.len_ #[t] ty #[ren ρ x]).run P w = .ok (ren ρ v) w ∧ wr = [] := by
  unfold evLen at h
  split at h
  · rename_i e a m c hu
    cases h
    cases a <;> simp [Builtin.len_, arp_run hu, intV, goInt]
  · rename_i k el r hu
    split at h
    · rename_i es kk hr
      cases h
      have := p.holds (e := r) (by simp) hr
      unfold Ent.holds at this
      simp [Builtin.len_, arp_run hu, intV, goInt, getObj, Sem.run, this, oren]
    · cases h
  · rename_i s hu; cases h; simp [Builtin.len_, arp_run hu, intV, goInt]
  · rename_i m el hu; cases h; simp [Builtin.len_, arp_run hu, intV, goInt]
  · rename_i k el hu; cases h; simp [Builtin.len_, arp_run hu, intV, goInt]
  · cases h
theorem good_of {P : Program} {o : Oper} {ev : Operand → Value} {ρ ρ' : Nm} {n : Nat} {A : Nat → Option Ent} {w w' : World} {v : Value} {wr : Wr} {acc : List Nat} {new : Nat} {s : Sem Value} (hs : execOp ev o = (do pure (Next.value (← s)))) (hr : s.run P w = .ok (ren ρ' v) w') (E : Eff ρ ρ' n (n + new) A wr w w') : Good P o ev ρ n A w (.val v wr acc new) :=
  ⟨ρ', w', _, by rw [hs, Sem.run_bind, hr]; rfl, .inl rfl, E⟩
theorem good_arp {P : Program} {o : Oper} {ev : Operand → Value} {ρ : Nm} {n : Nat} {A : Nat → Option Ent} {w : World} {v : Value} {acc : List Nat} {s : Sem Value} (hs : execOp ev o = (do pure (Next.value (← s)))) (hr : arp P s = some (ren ρ v)) : Good P o ev ρ n A w (.val v [] acc 0) :=
  good_of hs (arp_run hr w) (Eff.nothing ρ _ _ _ fun S => Keep.refl w)
theorem resV_some {o : Option Value} {r : Res} (h : resV o = some r) : ∃ v, o = some v ∧ r = .val v [] [] 0 := by
  obtain ⟨v, h1, h2⟩ := Option.map_eq_some_iff.1 h
  exact ⟨v, h1, h2.symm⟩
theorem sem_id {s : Value} : (do pure (Next.value (← (pure s : Sem Value))) : Sem Next) = pure (.value s) := rfl
theorem slice_ren_one {ρ : Nm} {w : World} (n l c : Nat) (h : Nat.blt c CB = true) : ren (ρ.with n w.heap.size 0) (.slice (some ⟨n, 0, none⟩) l c) = .slice (some ⟨w.heap.size, 0, none⟩) l c := by
  simp [aren, capN_lt h, (with_self ρ n w.heap.size 0).1]
theorem evUpd_some {P : Program} {t : TypeId} {x k v : Option Value} {H : Nat → Option Ent} {r : Res} (h : evUpd P t x k v H = some r) : ∃ x' k' v', x = some x' ∧ k = some k' ∧ v = some v' ∧ ∃ e c', evUpdate P t x' k' v' H = some (e, c') ∧ r = .val undef [(e, some c')] [e] 0 := by
  unfold evUpd at h
  split at h
  · obtain ⟨⟨e, c'⟩, h1, rfl⟩ := Option.map_eq_some_iff.1 h
    exact ⟨_, _, _, rfl, rfl, rfl, e, c', h1, rfl⟩
  · cases h
theorem evOp_good {P : Program} {o : Oper} {tv : Tmp → Option Value} {H : Nat → Option Ent} {n : Nat} {r : Res} (h : evOp P o tv H n = some r) {ρ : Nm} {ev : Operand → Value} {w : World} (C : Ctx ρ tv ev H n o r.acc w) (hok : r.ok n) :
    Good P o ev ρ n (resA r.acc H) w r := by
  have hv := C.val
  unfold evOp at h
  split at h
  · -- move
    rename_i x ho
    obtain ⟨v, h1, rfl⟩ := resV_some h
    refine good_arp (s := pure (ren ρ v)) ?_ rfl
    rw [← hv x (by rw [ho]; simp [Op.operands]) v h1]
    unfold execOp
    simp only [ho]
    rfl
  · rename_i x ho
    obtain ⟨v, h1, rfl⟩ := resV_some h
    refine good_arp (s := pure (ren ρ v)) ?_ rfl
    rw [← hv x (by rw [ho]; simp [Op.operands]) v h1]
    unfold execOp
    simp only [ho]
    rfl
  · -- pick
    rename_i c a b ho
    split at h
    case h_2 => cases h
    rename_i t u v hc ha hb
    cases h
    refine good_pure ?_
    unfold execOp
    simp only [ho, hv c (by rw [ho]; simp [Op.operands]) _ hc, hv a (by rw [ho]; simp [Op.operands]) _ ha, hv b (by rw [ho]; simp [Op.operands]) _ hb, ren_bool, asBool, arp_bind, arp_pure, Option.bind_some]
    cases t <;> simp
  · -- alloc
    rename_i t ho
    split at h
    case h_2 => cases h
    rename_i z hz
    cases hg : gnd z with
    | false => rw [hg] at h; cases h
    | true =>
      rw [hg] at h
      cases h
      refine good_of (s := Instr.alloc t true (.tuple #[])) (by unfold execOp; simp only [ho]) (ρ' := ρ.with n w.heap.size 0) (w' := w.alloc (.cells (z.cells.map (ren ρ)) t)) ?_ (made_cells (hok n _ (wrGet_self _ _ _)))
      rw [gnd_cells hg, ptrV_ren]
      simp [Instr.alloc, Sem.run_bind, arp_run hz, newVar, newRow]
  · -- box
    rename_i t x ho
    split at h
    case h_2 => cases h
    rename_i v hx
    cases h
    refine good_of (s := Instr.box t (ren ρ v)) ?_ (ρ' := ρ.with n w.heap.size 0) (w' := w.alloc (.cells (v.cells.map (ren ρ)) t)) ?_ (made_cells (hok n _ (wrGet_self _ _ _)))
    · unfold execOp
      simp only [ho, hv x (by rw [ho]; simp [Op.operands]) v hx]
    · rw [← cells_ren, ptrV_ren]
      simp [Instr.box, newVar, newRow]
  · -- build
    rename_i t parts ho
    split at h
    case h_2 => cases h
    rename_i ps hps
    cases hz : zeroOk P t with
    | false => rw [hz] at h; cases h
    | true =>
      rw [hz] at h
      obtain ⟨v, h1, rfl⟩ := resV_some h
      refine good_arp (s := Instr.build t (ps.toArray.map fun p => (p.1, ren ρ p.2))) ?_ (build_ren hz h1)
      rw [← parts_arr hps fun p hp v hq => hv p.2 (by rw [ho]; simp only [Op.operands]; simp; exact ⟨p.1, by simpa using hp⟩) v hq]
      unfold execOp
      simp only [ho]
  · -- buildSlice
    rename_i t len parts ho
    split at h
    case h_2 => cases h
    rename_i ps hps
    split at h
    case h_2 => cases h
    rename_i e c hc
    cases h
    refine good_of (s := Instr.buildSlice t len (ps.toArray.map fun p => (p.1, ren ρ p.2))) ?_ (ρ' := ρ.with n w.heap.size 0) (w' := w.alloc (.cells (c.map (ren ρ)) e)) ?_ (made_cells (hok n _ (wrGet_self _ _ _)))
    · rw [← parts_arr hps fun p hp v hq => hv p.2 (by rw [ho]; simp only [Op.operands]; simp; exact ⟨p.1, by simpa using hp⟩) v hq]
      unfold execOp
      simp only [ho]
    · rw [(buildSlice_run hc).1, slice_ren_one _ _ _ (Nat.ble_eq_true_of_le (buildSlice_run (P := P) (ρ := ρ) (w := w) hc).2)]
  · -- load
    rename_i t x ho
    split at h
    case h_2 => cases h
    rename_i a hx
    obtain ⟨v, h1, rfl⟩ := Option.map_eq_some_iff.1 h
    refine good_of (s := Instr.loadAt t (ren ρ (.pointer (some a)))) ?_ (load_run h1 ?_) (Eff.nothing ρ _ _ _ fun S => Keep.refl w)
    · unfold execOp
      simp only [ho, hv x (by rw [ho]; simp [Op.operands]) _ hx]
    · intro b c hb hc
      simp only at hb
      subst hb
      exact C.pre.holds (by simp [Res.acc]) hc
  · -- store
    rename_i t x y ho
    split at h
    case h_2 => cases h
    rename_i p v hx hy
    obtain ⟨⟨e, c'⟩, h1, rfl⟩ := Option.map_eq_some_iff.1 h
    obtain ⟨h2, w', h3, h4, h5⟩ := store_run (P := P) h1 (fun c hc => C.pre.holds (e := e) (by simp [Res.acc]) hc)
    obtain ⟨c, hc⟩ := Option.isSome_iff_exists.1 h2
    refine ⟨ρ, w', .skip, ?_, .inr ⟨rfl, rfl⟩, Eff.wrote ρ n _ (C.pre.fit e c hc).2 (by rw [resA_mem (by simp [Res.acc]), hc]; rfl) h5 h4⟩
    unfold execOp
    simp only [ho, hv x (by rw [ho]; simp [Op.operands]) _ hx, hv y (by rw [ho]; simp [Op.operands]) _ hy]
    rw [Sem.run_bind, h3]
    rfl
  · -- nilCheck
    rename_i x ho
    split at h
    · rename_i a hx
      cases h
      refine good_pure ?_
      unfold execOp
      simp [ho, hv x (by rw [ho]; simp [Op.operands]) _ hx]
    · rename_i f a b hx
      cases h
      refine good_pure ?_
      unfold execOp
      simp [ho, hv x (by rw [ho]; simp [Op.operands]) _ hx, fren]
    · rename_i t v hx
      cases h
      refine good_pure ?_
      unfold execOp
      simp [ho, hv x (by rw [ho]; simp [Op.operands]) _ hx]
    · cases h
  · -- binOp
    rename_i op t x y yt ho
    split at h
    case h_2 => cases h
    rename_i a b ha hb
    cases hn : (nilCmp a b && isCmp op) with
    | true =>
      rw [hn] at h
      simp only [cond_true] at h
      split at h
      case h_2 => cases h
      rename_i v hbv
      cases hg : gnd v with
      | false => rw [hg] at h; cases h
      | true =>
        rw [hg] at h
        cases h
        simp only [Bool.and_eq_true] at hn
        have hop : op = .eql ∨ op = .neq := by
          have := hn.2
          cases op <;> first | exact .inl rfl | exact .inr rfl | cases this
        refine good_arp (s := do eqGuard op t x y (ren ρ a) (ren ρ b); binOp op t (ren ρ a) (ren ρ b)) ?_ (by rw [gnd_ren hg]; exact nilCmp_ren hop hn.1 hbv)
        unfold execOp
        simp only [ho, hv x (by rw [ho]; simp [Op.operands]) _ ha, hv y (by rw [ho]; simp [Op.operands]) _ hb]
    | false =>
      rw [hn] at h
      exact ground_good h hv
  · -- makeInterface
    rename_i t x ho
    split at h
    case h_2 => cases h
    rename_i u hx
    obtain ⟨v, h1, rfl⟩ := resV_some h
    refine good_arp (s := Instr.makeInterface t (ren ρ u)) ?_ (iface_ren h1)
    unfold execOp
    simp only [ho, hv x (by rw [ho]; simp [Op.operands]) _ hx]
  · -- makeFunc
    rename_i fn first cap ho
    split at h
    case h_2 => cases h
    rename_i f a b h1 h2
    cases h
    refine good_pure ?_
    have e1 : first.map ev = (a.map (ren ρ)).toArray := by
      apply Array.ext'
      simp only [Array.toList_map]
      exact opl_ren h1 fun x hx v hq => hv x (by rw [ho]; simp only [Op.operands]; simp; exact .inl (by simpa using hx)) v hq
    have e2 : cap.map ev = (b.map (ren ρ)).toArray := by
      apply Array.ext'
      simp only [Array.toList_map]
      exact opl_ren h2 fun x hx v hq => hv x (by rw [ho]; simp only [Op.operands]; simp; exact .inr (by simpa using hx)) v hq
    unfold execOp
    simp [ho, Instr.makeFunc, e1, e2, fren]
  · -- makeMap
    rename_i t r' ho
    split at h
    case h_2 => cases h
    cases h
    refine good_of (s := Instr.makeMap t none) (by unfold execOp; simp [ho]) (ρ' := ρ.with n w.heap.size 0) (w' := w.alloc (.map #[] 0)) ?_ (Eff.made ρ n 0 _ (fun S => keep_alloc w _ S) ?_)
    · simp [Instr.makeMap, (with_self ρ n w.heap.size 0).1]
    · unfold Ent.holds
      rw [(with_self ρ n _ 0).1, alloc_heap]
      simp [oren]
  · -- makeSlice
    rename_i t l c ho
    split at h
    case h_2 => cases h
    rename_i l c hl hc
    split at h
    case h_2 => cases h
    rename_i e cs l' c' hm
    cases h
    obtain ⟨h1, h2⟩ := makeSlice_run (P := P) (w := w) hm ρ
    refine good_of (s := Instr.makeSlice t (ren ρ l) (ren ρ c)) ?_ (ρ' := ρ.with n w.heap.size 0) (w' := w.alloc (.cells (cs.map (ren ρ)) e)) ?_ (made_cells (hok n _ (wrGet_self _ _ _)))
    · unfold execOp
      simp only [ho, hv _ (by rw [ho]; simp [Op.operands]) _ hl, hv _ (by rw [ho]; simp [Op.operands]) _ hc]
    · rw [h1, slice_ren_one _ _ _ (Nat.ble_eq_true_of_le h2)]
  · -- slice
    rename_i t x lo hi mx ho
    split at h
    case h_2 => cases h
    rename_i v l' h' hx el eh
    have opt : ∀ (y : Option Operand) (u : Option Value), (∀ z, y = some z → z ∈ o.op.operands) → optx tv y = some u → y.map ev = u.map (ren ρ) := by
      intro y u hm hu
      cases y with
      | none => cases hu; rfl
      | some z =>
        obtain ⟨q, h1, rfl⟩ := Option.map_eq_some_iff.1 hu
        simp [hv z (hm z rfl) q h1]
    have e1 : lo.map ev = l'.map (ren ρ) := opt lo l' (fun z hz => by subst hz; rw [ho]; simp [Op.operands]) el
    have e2 : hi.map ev = h'.map (ren ρ) := opt hi h' (fun z hz => by subst hz; rw [ho]; simp [Op.operands]) eh
    have e3 : ev x = ren ρ v := hv x (by rw [ho]; simp [Op.operands]) v hx
    cases hc : capOk v with
    | true =>
      rw [hc] at h
      simp only [cond_true] at h
      split at h
      case h_2 => cases h
      rename_i u hu
      cases hcu : capOk u with
      | false => rw [hcu] at h; cases h
      | true =>
        rw [hcu] at h
        cases h
        refine good_arp (s := Instr.sliceAt t (ren ρ v) (l'.map (ren ρ)) (h'.map (ren ρ)) none) ?_ (sliceAt_ren (mx := none) hc hcu hu)
        unfold execOp
        simp [ho, e1, e2, e3]
    | false =>
      rw [hc] at h
      obtain ⟨⟨u, b⟩, hu, rfl⟩ := Option.map_eq_some_iff.1 h
      refine good_of (s := Instr.sliceAt t (ren ρ v) (l'.map (ren ρ)) (h'.map (ren ρ)) none) ?_ (sliceRow_run hu fun c hc => C.pre.holds (e := b) (by simp [Res.acc]) hc) (Eff.nothing ρ _ _ _ fun S => Keep.refl w)
      unfold execOp
      simp [ho, e1, e2, e3]
  · -- fieldAddr
    rename_i t x f ho
    split at h
    case h_2 => cases h
    rename_i u hx
    obtain ⟨v, h1, rfl⟩ := resV_some h
    refine good_arp (s := Instr.fieldAt t (ren ρ u) f) ?_ (fieldAt_ren h1)
    unfold execOp
    simp only [ho, hv x (by rw [ho]; simp [Op.operands]) _ hx]
  · -- field
    rename_i t x f ho
    split at h
    case h_2 => cases h
    rename_i u hx
    obtain ⟨v, h1, rfl⟩ := resV_some h
    refine good_arp (s := Instr.field t (ren ρ u) f) ?_ (field_ren h1)
    unfold execOp
    simp only [ho, hv x (by rw [ho]; simp [Op.operands]) _ hx]
  · -- indexAddr
    rename_i t x i ho
    split at h
    case h_2 => cases h
    rename_i u j hx hi
    obtain ⟨v, h1, rfl⟩ := resV_some h
    refine good_arp (s := Instr.indexAt t (ren ρ u) (ren ρ j)) ?_ (indexAt_ren h1)
    unfold execOp
    simp only [ho, hv x (by rw [ho]; simp [Op.operands]) _ hx, hv i (by rw [ho]; simp [Op.operands]) _ hi]
  · -- index
    rename_i t x i ho
    split at h
    case h_2 => cases h
    rename_i u j hx hi
    obtain ⟨v, h1, rfl⟩ := resV_some h
    refine good_arp (s := Instr.index t (ren ρ u) (ren ρ j)) ?_ (index_ren h1)
    unfold execOp
    simp only [ho, hv x (by rw [ho]; simp [Op.operands]) _ hx, hv i (by rw [ho]; simp [Op.operands]) _ hi]
  · -- extract
    rename_i x i ho
    split at h
    case h_2 => cases h
    rename_i u hx
    obtain ⟨v, h1, rfl⟩ := resV_some h
    refine good_arp (s := Instr.extract (ren ρ u) i) ?_ (extract_ren h1)
    unfold execOp
    simp only [ho, hv x (by rw [ho]; simp [Op.operands]) _ hx]
  · -- typeAssert
    rename_i x t u ok ho
    split at h
    case h_2 => cases h
    rename_i y hx
    cases hz : zeroOk P u with
    | false => rw [hz] at h; cases h
    | true =>
      rw [hz] at h
      obtain ⟨v, h1, rfl⟩ := resV_some h
      refine good_arp (s := Instr.typeAssert (ren ρ y) t u ok) ?_ (assert_ren hz h1)
      unfold execOp
      simp only [ho, hv x (by rw [ho]; simp [Op.operands]) _ hx]
  · -- lookup
    rename_i t x i ok ho
    split at h
    case h_2 => cases h
    rename_i u k hx hi
    obtain ⟨⟨v, acc⟩, h1, rfl⟩ := Option.map_eq_some_iff.1 h
    refine good_of (s := Instr.lookup t (ren ρ u) (ren ρ k) ok) ?_ (lookup_run h1 fun b c hb hc => C.pre.holds (e := b) hb hc) (Eff.nothing ρ _ _ _ fun S => Keep.refl w)
    unfold execOp
    simp only [ho, hv x (by rw [ho]; simp [Op.operands]) _ hx, hv i (by rw [ho]; simp [Op.operands]) _ hi]
  · -- mapUpdate
    rename_i t x i y ho
    obtain ⟨u, k, v, hx, hi, hy, e, c', h1, rfl⟩ := evUpd_some h
    obtain ⟨h2, w', h3, h4, h5⟩ := update_run (P := P) h1 (fun c hc => C.pre.holds (e := e) (by simp [Res.acc]) hc)
    obtain ⟨c, hc⟩ := Option.isSome_iff_exists.1 h2
    refine ⟨ρ, w', .skip, ?_, .inr ⟨rfl, rfl⟩, Eff.wrote ρ n _ (C.pre.fit e c hc).2 (by rw [resA_mem (by simp [Res.acc]), hc]; rfl) h5 h4⟩
    unfold execOp
    simp only [ho, hv x (by rw [ho]; simp [Op.operands]) _ hx, hv i (by rw [ho]; simp [Op.operands]) _ hi, hv y (by rw [ho]; simp [Op.operands]) _ hy]
    rw [Sem.run_bind, h3]
    rfl
  · -- insert
    rename_i t x i y ho
    obtain ⟨u, k, v, hx, hi, hy, e, c', h1, rfl⟩ := evUpd_some h
    obtain ⟨h2, w', h3, h4, h5⟩ := update_run (P := P) h1 (fun c hc => C.pre.holds (e := e) (by simp [Res.acc]) hc)
    obtain ⟨c, hc⟩ := Option.isSome_iff_exists.1 h2
    refine ⟨ρ, w', .skip, ?_, .inr ⟨rfl, rfl⟩, Eff.wrote ρ n _ (C.pre.fit e c hc).2 (by rw [resA_mem (by simp [Res.acc]), hc]; rfl) h5 h4⟩
    unfold execOp
    simp only [ho, hv x (by rw [ho]; simp [Op.operands]) _ hx, hv i (by rw [ho]; simp [Op.operands]) _ hi, hv y (by rw [ho]; simp [Op.operands]) _ hy]
    rw [Sem.run_bind, h3]
    rfl
  · -- call
    rename_i c ho
    have hargs : ∀ x ∈ c.args.toList, x ∈ o.op.operands := fun x hx => by rw [ho]; simp only [Op.operands, Call.operands]; simp; exact .inr (by simpa using hx)
    unfold evCall at h
    split at h
    · -- append
      rename_i s x t t' hcal hcargs htys
      split at h
      case h_2 => cases h
      rename_i sv xv hs hx
      cases ht : Nat.beq t t' with
      | false => rw [ht] at h; cases h
      | true =>
        rw [ht] at h
        have ht := Nat.eq_of_beq_eq_true ht
        subst ht
        simp only [cond_true] at h
        have hcc : c = { callee := .builtin .append, args := #[s, x], argTypes := #[t, t] } := by
          obtain ⟨cal, args, tys⟩ := c
          simp only at hcal hcargs htys
          subst hcal
          congr 1
          · exact Array.ext' hcargs
          · exact Array.ext' htys
        have e1 : ev s = ren ρ sv := hv s (hargs s (by rw [hcargs]; simp)) sv hs
        have e2 : ev x = ren ρ xv := hv x (hargs x (by rw [hcargs]; simp)) xv hx
        obtain ⟨v, wr, acc, new, hr, h'⟩ := valOnly_some h; clear h; rename _ => h; subst hr
        obtain ⟨ρ', w', h1, h2⟩ := append_good (ty := o.type) h C.pre
        refine good_of (s := Builtin.append_ #[t, t] o.type #[ren ρ sv, ren ρ xv]) ?_ h1 h2
        unfold execOp
        simp [ho, hcc, resolve, invoke, builtin, e1, e2]
    · -- copy
      rename_i d s t t' hcal hcargs htys
      split at h
      case h_2 => cases h
      rename_i dv sv hd hs
      obtain ⟨v, wr, acc, new, hr, h'⟩ := valOnly_some h; clear h; rename _ => h; subst hr
      have hcc : c = { callee := .builtin .copy, args := #[d, s], argTypes := #[t, t'] } := by
        obtain ⟨cal, args, tys⟩ := c
        simp only at hcal hcargs htys
        subst hcal
        congr 1
        · exact Array.ext' hcargs
        · exact Array.ext' htys
      have e1 : ev d = ren ρ dv := hv d (hargs d (by rw [hcargs]; simp)) dv hd
      have e2 : ev s = ren ρ sv := hv s (hargs s (by rw [hcargs]; simp)) sv hs
      obtain ⟨ρ', w', h1, h2⟩ := copy_run (ty := o.type) (t' := t') h C.pre
      refine good_of (s := Builtin.copy_ #[t, t'] o.type #[ren ρ dv, ren ρ sv]) ?_ h1 h2
      unfold execOp
      simp [ho, hcc, resolve, invoke, builtin, e1, e2]
    · -- len
      rename_i x t hcal hcargs htys
      split at h
      case h_2 => cases h
      rename_i xv hx
      obtain ⟨v, wr, acc, new, hr, h'⟩ := valOnly_some h; clear h; rename _ => h; subst hr
      have hcc : c = { callee := .builtin .len, args := #[x], argTypes := #[t] } := by
        obtain ⟨cal, args, tys⟩ := c
        simp only at hcal hcargs htys
        subst hcal
        congr 1
        · exact Array.ext' hcargs
        · exact Array.ext' htys
      have e1 : ev x = ren ρ xv := hv x (hargs x (by rw [hcargs]; simp)) xv hx
      obtain ⟨h1, rfl⟩ := len_good (ty := o.type) h C.pre
      refine good_of (s := Builtin.len_ #[t] o.type #[ren ρ xv]) ?_ h1 (Eff.nothing ρ _ _ _ fun S => Keep.refl w)
      unfold execOp
      simp [ho, hcc, resolve, invoke, builtin, e1]
    · -- delete
      rename_i m k t t' hcal hcargs htys
      split at h
      case h_2 => cases h
      rename_i mv kv hm hk
      obtain ⟨⟨e, c'⟩, h1, rfl⟩ := Option.map_eq_some_iff.1 h
      have hcc : c = { callee := .builtin .delete, args := #[m, k], argTypes := #[t, t'] } := by
        obtain ⟨cal, args, tys⟩ := c
        simp only at hcal hcargs htys
        subst hcal
        congr 1
        · exact Array.ext' hcargs
        · exact Array.ext' htys
      have e1 : ev m = ren ρ mv := hv m (hargs m (by rw [hcargs]; simp)) mv hm
      have e2 : ev k = ren ρ kv := hv k (hargs k (by rw [hcargs]; simp)) kv hk
      obtain ⟨h2, w', h3, h4, h5⟩ := delete_run (P := P) (ty := o.type) (t' := t') h1 (fun c hc => C.pre.holds (e := e) (by simp [Res.acc]) hc)
      obtain ⟨c0, hc0⟩ := Option.isSome_iff_exists.1 h2
      refine ⟨ρ, w', .value undef, ?_, .inl (by simp [undef]), Eff.wrote ρ n _ (C.pre.fit e c0 hc0).2 (by rw [resA_mem (by simp [Res.acc]), hc0]; rfl) h5 h4⟩
      unfold execOp
      simp [ho, hcc, resolve, invoke, builtin, e1, e2, h3]
    · -- a function
      rename_i f hcal
      have hf : f ∈ o.op.operands := by rw [ho]; simp [Op.operands, Call.operands, hcal]
      split at h
      · rename_i g first cap vs hfv hvs
        have hm : c.args.map ev = (vs.map (ren ρ)).toArray := by
          apply Array.ext'
          simp only [Array.toList_map]
          exact opl_ren hvs fun x hx v hq => hv x (hargs x hx) v hq
        cases hok2 : fnOk P g with
        | false => rw [hok2] at h; exact ground_good h hv
        | true =>
          rw [hok2] at h
          cases h
          unfold fnOk at hok2
          split at hok2
          case h_2 => cases hok2
          rename_i fn hfn
          simp only [Bool.and_eq_true, Bool.not_eq_true'] at hok2
          have hbody : fn.body.isNone = false := by cases hb : fn.body <;> simp_all
          have e1 : ev f = .func (.func g) (first.map (ren ρ)) (cap.map (ren ρ)) := by rw [hv f hf _ hfv]; simp [fren]
          show (execOp ev o).run P w = _
          unfold execOp
          simp only [ho, resolve, hcal, e1, Deferred.ofValue, hm, Sem.run_bind, Sem.run_pure, Result.andThen_ok, invoke, callFunc, run_program, hfn, hok2.2, Bool.false_eq_true, if_false, hbody]
          congr 2
          apply Array.ext'
          simp
      · rename_i l vs hfv hvs
        cases h
        obtain ⟨cal, args, tys⟩ := c
        simp only at hcal
        subst hcal
        refine ⟨f, args, tys, ho, by rw [hv f hf _ hfv]; simp [fren], ?_⟩
        apply Array.ext'
        simp only [Array.toList_map]
        exact opl_ren hvs fun x hx v hq => hv x (hargs x hx) v hq
      · cases h
    · exact ground_good h hv
  · exact ground_good h hv
  · exact ground_good h hv
  · cases h
end Ex
end Go.Proofs.Ytlpjnhoafaamkaa
