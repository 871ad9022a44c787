/-
  AN EXECUTOR, checked once: operations without memory.
-/
import Derived.Test.YtlpjnhoafaamkaaExB
import Derived.Laws.AppendOwn
import Derived.Laws.CopyOwn
set_option linter.unusedVariables false
set_option linter.unusedSimpArgs false
namespace Go.Proofs.Ytlpjnhoafaamkaa
open Go Go.RowKit
namespace Ex

/-- a computation without memory -/
def arp {α : Type} (P : Program) : Sem α → Option α
  | .pure a => some a
  | .program k => arp P (k P)
  | .mark _ k => arp P k
  | _ => none
theorem arp_run {α : Type} {P : Program} {s : Sem α} {a : α} (h : arp P s = some a) (w : World) : s.run P w = .ok a w := by
  induction s generalizing w with
  | pure x => simp only [arp, Option.some.injEq] at h; subst h; rfl
  | program k ih => exact ih P h w
  | mark m k ih => exact ih h w
  | _ => simp [arp] at h
theorem arp_bind {α β : Type} {P : Program} (s : Sem α) (f : α → Sem β) : arp P (s >>= f) = (arp P s).bind fun a => arp P (f a) := by
  show arp P (Sem.bind s f) = _
  induction s with
  | pure x => rfl
  | program k ih => exact ih P
  | mark m k ih => exact ih
  | _ => rfl
@[simp] theorem arp_pure {α : Type} {P : Program} (a : α) : arp P (pure a : Sem α) = some a := rfl
@[simp] theorem arp_Spure {α : Type} {P : Program} (a : α) : arp P (Sem.pure a : Sem α) = some a := rfl
theorem arp_map {α β : Type} {P : Program} (f : α → β) (s : Sem α) : arp P (f <$> s) = (arp P s).map f := by
  show arp P (s >>= fun a => pure (f a)) = _
  rw [arp_bind]
  cases arp P s <;> rfl
@[simp] theorem arp_stuck {α : Type} {P : Program} (s : String) : arp P (stuck s : Sem α) = none := rfl
@[simp] theorem arp_program {P : Program} : arp P program = some P := rfl

/-- a value without names -/
def gnd (v : Value) : Bool := match idsV dep v with | some [] => true | _ => false
theorem gnd_ren {ρ : Nm} {v : Value} (h : gnd v = true) : ren ρ v = v := by
  unfold gnd at h
  split at h
  · exact ids_nil _ _ ‹_›
  · cases h
def opx (tv : Tmp → Option Value) : Operand → Option Value
  | .tmp t => tv t
  | .const v => bif gnd v then some v else none
  | .global _ => none
  | .func f => some (.func (.func f) #[] #[])
def opl (tv : Tmp → Option Value) : List Operand → Option (List Value)
  | [] => some []
  | x :: l => match opx tv x, opl tv l with
    | some v, some vs => some (v :: vs)
    | _, _ => none
theorem opl_ren {tv : Tmp → Option Value} {ev : Operand → Value} {ρ : Nm} : ∀ {xs : List Operand} {vs : List Value}, opl tv xs = some vs → (∀ x ∈ xs, ∀ v, opx tv x = some v → ev x = ren ρ v) → xs.map ev = vs.map (ren ρ)
  | [], vs, h, _ => by cases h; rfl
  | x :: xs, vs, h, hx => by
    unfold opl at h
    split at h
    · rename_i v vs' h1 h2
      cases h
      rw [List.map_cons, List.map_cons, hx x (by simp) v h1, opl_ren h2 fun y hy => hx y (List.mem_cons_of_mem _ hy)]
    · cases h
inductive Res where
  | val (v : Value) (wr : Wr) (acc : List Nat) (new : Nat)
  | call (f : FuncId) (args : List Value)
  | yield (l : Nat) (args : List Value)
def resA (acc : List Nat) (H : Nat → Option Ent) (e : Nat) : Option Ent := bif acc.any (Nat.beq e ·) then H e else none
/-- what an operation does, told by names -/
def Good (P : Program) (o : Oper) (ev : Operand → Value) (ρ : Nm) (n : Nat) (A : Nat → Option Ent) (w : World) : Res → Prop
  | .val v wr acc new => ∃ ρ' w' nx, (execOp ev o).run P w = .ok nx w' ∧ (nx = .value (ren ρ' v) ∨ nx = .skip ∧ v = undef) ∧ Eff ρ ρ' n (n + new) A wr w w'
  | .call f args => (execOp ev o).run P w = .ok (.enter f (args.map (ren ρ)).toArray) w
  | .yield l args => ∃ x xs ts, o.op = .call { callee := .value x, args := xs, argTypes := ts } ∧ ev x = .func (.yield (ρ.b l)) #[] #[] ∧ xs.map ev = (args.map (ren ρ)).toArray
theorem good_pure {P : Program} {o : Oper} {ev : Operand → Value} {ρ : Nm} {n : Nat} {A : Nat → Option Ent} {w : World} {v : Value} {acc : List Nat} (h : arp P (execOp ev o) = some (.value (ren ρ v))) : Good P o ev ρ n A w (.val v [] acc 0) :=
  ⟨ρ, w, _, arp_run h w, .inl rfl, Eff.nothing ρ _ _ _ fun S => Keep.refl w⟩
theorem cells_ren (ρ : Nm) (v : Value) : (ren ρ v).cells = v.cells.map (ren ρ) := by
  cases v with
  | slice a n c => cases a <;> simp [Value.cells]
  | _ => simp [Value.cells]
theorem asInt_ren {P : Program} {ρ : Nm} {v : Value} {x : IntKind × Int} (h : arp P (asIntOf v) = some x) : arp P (asIntOf (ren ρ v)) = some x := by
  cases v with
  | int k n => simpa using h
  | pointer a => cases a <;> cases h
  | slice a n c => cases a <;> cases h
  | _ => cases h
theorem asInt_ok {P : Program} {v : Value} {x : IntKind × Int} (h : arp P (asIntOf v) = some x) : v = .int x.1 x.2 := by
  cases v with
  | int k n => cases h; rfl
  | pointer a => cases a <;> cases h
  | slice a n c => cases a <;> cases h
  | _ => cases h
theorem part_ren {P : Program} {ρ : Nm} {t : TypeId} {cs : Array Value} {off : Nat} {v : Value} (h : arp P (part t cs off) = some v) : arp P (part t (cs.map (ren ρ)) off) = some (ren ρ v) := by
  unfold part at h ⊢
  rw [arp_bind] at h ⊢
  cases hb : arp P (isAgg t) with
  | none => rw [hb] at h; cases h
  | some b =>
    rw [hb] at h
    simp only [Option.bind_some] at h ⊢
    cases b with
    | true =>
      simp only [if_true, arp_bind] at h ⊢
      cases hs : arp P (sizeOf t) with
      | none => rw [hs] at h; cases h
      | some m =>
        rw [hs] at h
        simp only [Option.bind_some] at h ⊢
        cases h
        simp [arp]
    | false =>
      simp only [Bool.false_eq_true, if_false] at h ⊢
      rw [Array.getElem?_map]
      cases hc : cs[off]? with
      | none => rw [hc] at h; cases h
      | some u => rw [hc] at h; cases h; rfl
theorem setAll_map (r : Value → Value) (off : Nat) (xs cells : Array Value) : ((xs.map r).zipIdx.foldl (fun cs (p : Value × Nat) => cs.setIfInBounds (off + p.2) p.1) (cells.map r)) = (xs.zipIdx.foldl (fun cs (p : Value × Nat) => cs.setIfInBounds (off + p.2) p.1) cells).map r := by
  rw [Array.zipIdx_map, Array.foldl_map]
  refine (Array.foldl_hom (fun c : Array Value => c.map r) (xs := xs.zipIdx) ?_).symm ▸ rfl
  intro x y
  simp
theorem fill_map (ρ : Nm) (place : Nat → Option (Nat × Nat)) : ∀ (parts : List (Nat × Value)) (cells : Array Value), Instr.fill place (cells.map (ren ρ)) (parts.map fun p => (p.1, ren ρ p.2)) = (Instr.fill place cells parts).map (·.map (ren ρ))
  | [], cells => rfl
  | (i, v) :: rest, cells => by
    simp only [List.map_cons, Instr.fill]
    cases hp : place i with
    | none => rfl
    | some q =>
      obtain ⟨off, size⟩ := q
      simp only [cells_ren, Array.size_map]
      split
      · rfl
      · rw [← fill_map ρ place rest, ← setAll_map]
theorem gnd_cells {ρ : Nm} {z : Value} (h : gnd z = true) : z.cells.map (ren ρ) = z.cells := by
  rw [← cells_ren, gnd_ren h]
theorem mapM_none {P : Program} {α β : Type} (f : α → Sem β) (l : List α) : arp P (l.mapM f) = l.mapM fun x => arp P (f x) := by
  induction l with
  | nil => rfl
  | cons a l ih =>
    rw [List.mapM_cons, List.mapM_cons, arp_bind]
    cases h : arp P (f a) with
    | none => rfl
    | some b =>
      simp only [Option.bind_some, arp_bind, ih]
      cases List.mapM (fun x => arp P (f x)) l <;> rfl
/-- the zero of a type bears no names -/
def zeroOk (P : Program) (t : TypeId) : Bool := match arp P (zeroValue t) with | some z => gnd z | none => false
theorem build_ren {P : Program} {ρ : Nm} {t : TypeId} {parts : Array (Nat × Value)} {v : Value} (hz : zeroOk P t = true) (h : arp P (Instr.build t parts) = some v) : arp P (Instr.build t (parts.map fun p => (p.1, ren ρ p.2))) = some (ren ρ v) := by
  unfold zeroOk at hz
  split at hz
  case h_2 => cases hz
  rename_i z hzz
  unfold Instr.build at h ⊢
  rw [arp_bind, hzz] at h ⊢
  simp only [Option.bind_some] at h ⊢
  rw [arp_bind] at h ⊢
  cases hu : arp P (underlying t) with
  | none => rw [hu] at h; cases h
  | some d =>
    rw [hu] at h
    simp only [Option.bind_some] at h ⊢
    have key : ∀ place : Nat → Option (Nat × Nat), Instr.fill place z.cells (parts.map fun p => (p.1, ren ρ p.2)).toList = (Instr.fill place z.cells parts.toList).map (·.map (ren ρ)) := by
      intro place
      rw [Array.toList_map, ← fill_map, gnd_cells hz]
    have fin : ∀ (place : Nat → Option (Nat × Nat)) (why : String), arp P (match Instr.fill place z.cells parts.toList with
        | some cells => pure (Value.agg cells)
        | _ => stuck why) = some v → arp P (match Instr.fill place z.cells (parts.map fun p => (p.1, ren ρ p.2)).toList with
        | some cells => pure (Value.agg cells)
        | _ => stuck why) = some (ren ρ v) := by
      intro place why h
      rw [key]
      cases hf : Instr.fill place z.cells parts.toList with
      | none => rw [hf] at h; cases h
      | some cells => rw [hf] at h; cases h; simp
    cases d with
    | struct fields =>
      simp only [arp_bind] at h ⊢
      generalize arp P (Array.mapM _ fields) = q at h ⊢
      cases q with
      | none => cases h
      | some a => exact fin _ _ h
    | array len elem =>
      simp only [arp_bind] at h ⊢
      generalize arp P (sizeOf elem) = q at h ⊢
      cases q with
      | none => cases h
      | some a => exact fin _ _ h
    | _ => cases h
theorem field_ren {P : Program} {ρ : Nm} {t : TypeId} {x v : Value} {f : Nat} (h : arp P (Instr.field t x f) = some v) : arp P (Instr.field t (ren ρ x) f) = some (ren ρ v) := by
  unfold Instr.field at h ⊢
  rw [arp_bind] at h ⊢
  generalize arp P (underlying t) = q at h ⊢
  cases q with
  | none => cases h
  | some d =>
    simp only [Option.bind_some] at h ⊢
    cases d with
    | struct fields =>
      simp only at h ⊢
      generalize fields[f]? = fd at h ⊢
      cases fd with
      | none => cases h
      | some fd =>
        simp only [arp_bind] at h ⊢
        cases x with
        | agg cs => simp only [asAgg, arp_pure, Option.bind_some, ren_agg] at h ⊢; exact part_ren h
        | slice a n c => cases a <;> cases h
        | _ => cases h
    | _ => cases h
theorem extract_ren {P : Program} {ρ : Nm} {x v : Value} {i : Nat} (h : arp P (Instr.extract x i) = some v) : arp P (Instr.extract (ren ρ x) i) = some (ren ρ v) := by
  cases x with
  | tuple vs =>
    unfold Instr.extract at h
    simp only [ren_tuple]
    unfold Instr.extract
    simp only [Array.getElem?_map]
    simp only at h
    cases hv : vs[i]? with
    | none => rw [hv] at h; cases h
    | some u => rw [hv] at h; cases h; rfl
  | slice a n c => cases a <;> cases h
  | _ => cases h
theorem iface_ren {P : Program} {ρ : Nm} {t : TypeId} {x v : Value} (h : arp P (Instr.makeInterface t x) = some v) : arp P (Instr.makeInterface t (ren ρ x)) = some (ren ρ v) := by
  unfold Instr.makeInterface at h ⊢
  rw [arp_bind] at h ⊢
  generalize arp P (underlying t) = q at h ⊢
  cases q with
  | none => cases h
  | some d =>
    simp only [Option.bind_some] at h ⊢
    split at h
    · cases h
    · cases h
      simp
theorem addr_ren (ρ : Nm) (a : Addr) (n : Nat) : (aren ρ a).add n = aren ρ (a.add n) := by
  unfold Addr.add aren
  split <;> rfl
theorem arp_bp {α : Type} {P : Program} (k : IntKind) (x y : Int) (c : BoundsCode) : arp P (boundsPanic k x y c : Sem α) = none := by
  unfold boundsPanic
  simp only [arp_bind]
  split
  · rfl
  · rfl
theorem index_ren {P : Program} {ρ : Nm} {t : TypeId} {x i v : Value} (h : arp P (Instr.index t x i) = some v) : arp P (Instr.index t (ren ρ x) (ren ρ i)) = some (ren ρ v) := by
  unfold Instr.index at h ⊢
  rw [arp_bind] at h ⊢
  cases hi : arp P (asIntOf i) with
  | none => rw [hi] at h; cases h
  | some k =>
    rw [asInt_ren hi]
    rw [hi] at h
    simp only [Option.bind_some, arp_bind] at h ⊢
    generalize arp P (underlying t) = q at h ⊢
    cases q with
    | none => cases h
    | some d =>
      simp only [Option.bind_some] at h ⊢
      cases d with
      | array len elem =>
        cases x with
        | agg cs =>
          simp only [ren_agg] at h ⊢
          split at h
          · rename_i hk
            rw [if_pos hk]
            simp only [arp_bind] at h ⊢
            generalize arp P (sizeOf elem) = q at h ⊢
            cases q with
            | none => cases h
            | some m => exact part_ren h
          · rw [arp_bp] at h; cases h
        | slice a n c => cases a <;> cases h
        | _ => cases h
      | string =>
        cases x with
        | string s =>
          simp only [ren_string] at h ⊢
          have h2 := h
          split at h2
          · cases h2
            simp
          · rw [arp_bp] at h2; cases h2
        | slice a n c => cases a <;> cases h
        | agg cs => cases h
        | _ => cases h
      | _ =>
        cases x with
        | slice a n c => cases a <;> cases h
        | _ => cases h
theorem indexAt_ren {P : Program} {ρ : Nm} {t : TypeId} {x i v : Value} (h : arp P (Instr.indexAt t x i) = some v) : arp P (Instr.indexAt t (ren ρ x) (ren ρ i)) = some (ren ρ v) := by
  unfold Instr.indexAt at h ⊢
  rw [arp_bind] at h ⊢
  cases hi : arp P (asIntOf i) with
  | none => rw [hi] at h; cases h
  | some k =>
    rw [asInt_ren hi]
    rw [hi] at h
    simp only [Option.bind_some, arp_bind] at h ⊢
    cases hq : arp P (underlying t) with
    | none => rw [hq] at h; cases h
    | some d =>
      simp only [hq, Option.bind_some] at h ⊢
      cases d with
      | array len elem =>
        cases x with
        | pointer a =>
          cases a with
          | none => cases h
          | some a =>
            simp only [Instr.sureAddr, arp_bind, arp_pure, Option.bind_some, ren_pointer, Option.map_some, hq] at h ⊢
            split at h
            · rename_i hk
              rw [if_pos hk]
              simp only [arp_bind] at h ⊢
              generalize arp P (sizeOf elem) = q at h ⊢
              cases q with
              | none => cases h
              | some m => cases h; simp [addr_ren]
            · split at h
              · cases h
              · rw [arp_bp] at h; cases h
        | slice a n c => cases a <;> cases h
        | _ => cases h
      | slice elem =>
        cases x with
        | slice a n c =>
          cases a with
          | none => simp only [arp_pure, arp_bind, Option.bind_some, hq] at h; rw [arp_bp] at h; cases h
          | some a =>
            simp only [arp_pure, arp_bind, Option.bind_some, ren_slice, hq] at h ⊢
            split at h
            · rename_i hk
              rw [if_pos hk]
              simp only [arp_bind] at h ⊢
              generalize arp P (sizeOf elem) = q at h ⊢
              cases q with
              | none => cases h
              | some m => cases h; simp [addr_ren]
            · split at h
              · cases h
              · rw [arp_bp] at h; cases h
        | _ => cases h
      | _ =>
        cases x with
        | slice a n c => cases a <;> cases h
        | _ => cases h
theorem fieldAt_ren {P : Program} {ρ : Nm} {t : TypeId} {x v : Value} {f : Nat} (h : arp P (Instr.fieldAt t x f) = some v) : arp P (Instr.fieldAt t (ren ρ x) f) = some (ren ρ v) := by
  unfold Instr.fieldAt at h ⊢
  rw [arp_bind] at h ⊢
  generalize arp P (underlying t) = q at h ⊢
  cases q with
  | none => cases h
  | some d =>
    simp only [Option.bind_some] at h ⊢
    cases d with
    | struct fields =>
      simp only at h ⊢
      generalize fields[f]? = fd at h ⊢
      cases fd with
      | none => cases h
      | some fd =>
        simp only [arp_bind] at h ⊢
        cases x with
        | pointer a =>
          cases a with
          | none => cases h
          | some a =>
            simp only [Instr.sureAddr, arp_pure, Option.bind_some, ren_pointer, Option.map_some] at h ⊢
            unfold fieldPlace at h ⊢
            simp only [arp_bind] at h ⊢
            generalize arp P (sizeOf fd.type) = q at h ⊢
            cases q with
            | none => cases h
            | some m =>
              simp only [Option.bind_some] at h ⊢
              split at h
              · exfalso
                have hb : ∀ b o, arp P (byteOf ⟨b, o, none⟩) = none := fun b o => rfl
                unfold partAt at h
                simp only [arp_bind, hb] at h
                generalize arp P (byteOf a) = q at h
                cases q <;> cases h
              · rename_i hm
                rw [if_neg hm]
                cases h
                simp [addr_ren]
        | slice a n c => cases a <;> cases h
        | _ => cases h
    | _ => cases h
theorem bound_ren {P : Program} {ρ : Nm} {v : Value} {y : Nat} {c : BoundsCode} {x : Nat} (h : arp P (Instr.sliceBound v y c) = some x) : arp P (Instr.sliceBound (ren ρ v) y c) = some x := by
  unfold Instr.sliceBound at h ⊢
  rw [arp_bind] at h ⊢
  cases hi : arp P (asIntOf v) with
  | none => rw [hi] at h; cases h
  | some k => rw [asInt_ren hi]; rw [hi] at h; exact h
theorem obind {α β : Type} {o o' : Option α} {f f' : α → Option β} {x x' : β} (h : o.bind f = some x) (h1 : ∀ y, o = some y → o' = some y) (h2 : ∀ y, f y = some x → f' y = some x') : o'.bind f' = some x' := by
  cases o with
  | none => cases h
  | some y => rw [h1 y rfl]; exact h2 y h
theorem bounds_ren {P : Program} {ρ : Nm} {b : Bool} {n m : Nat} {lo hi mx : Option Value} {x : Nat × Nat × Nat} (h : arp P (Instr.sliceBounds b n m lo hi mx) = some x) : arp P (Instr.sliceBounds b n m (lo.map (ren ρ)) (hi.map (ren ρ)) (mx.map (ren ρ))) = some x := by
  unfold Instr.sliceBounds at h ⊢
  cases mx <;> cases hi <;> cases lo <;> simp only [Option.map_some, Option.map_none, Option.isSome_some, Option.isSome_none, arp_bind, arp_pure, arp_stuck, Option.bind_some, Option.bind_none] at h ⊢
  all_goals first
    | exact h
    | (cases h; done)
    | (refine obind h (fun _ => bound_ren) fun _ h => ?_)
  all_goals first
    | exact h
    | (cases h; done)
    | (refine obind h (fun _ => bound_ren) fun _ h => ?_)
  all_goals first
    | exact h
    | (refine obind h (fun _ => bound_ren) fun _ h => ?_)
  all_goals exact h
def capOk : Value → Bool
  | .slice _ _ c => Nat.blt c CB
  | _ => true
theorem capN_lt {ρ : Nm} {c : Nat} (h : Nat.blt c CB = true) : capN ρ c = c := by
  unfold capN
  rw [if_pos (show c < CB from Nat.le_of_ble_eq_true h)]
theorem sliceAt_ren {P : Program} {ρ : Nm} {t : TypeId} {x v : Value} {lo hi mx : Option Value} (hc : capOk x = true) (hv : capOk v = true) (h : arp P (Instr.sliceAt t x lo hi mx) = some v) : arp P (Instr.sliceAt t (ren ρ x) (lo.map (ren ρ)) (hi.map (ren ρ)) (mx.map (ren ρ))) = some (ren ρ v) := by
  have bnd : ∀ (b : Bool) (n m : Nat) (f f' : Nat × Nat × Nat → Sem Value), (∀ y, arp P (f y) = some v → arp P (f' y) = some (ren ρ v)) → arp P (Instr.sliceBounds b n m lo hi mx >>= f) = some v → arp P (Instr.sliceBounds b n m (lo.map (ren ρ)) (hi.map (ren ρ)) (mx.map (ren ρ)) >>= f') = some (ren ρ v) := by
    intro b n m f f' hf h
    rw [arp_bind] at h ⊢
    cases hs : arp P (Instr.sliceBounds b n m lo hi mx) with
    | none => rw [hs] at h; cases h
    | some y => rw [hs] at h; rw [bounds_ren hs]; exact hf y h
  have siz : ∀ (e : TypeId) (f f' : Nat → Sem Value), (∀ y, arp P (f y) = some v → arp P (f' y) = some (ren ρ v)) → arp P (sizeOf e >>= f) = some v → arp P (sizeOf e >>= f') = some (ren ρ v) := by
    intro e f f' hf h
    rw [arp_bind] at h ⊢
    cases hs : arp P (sizeOf e) with
    | none => rw [hs] at h; cases h
    | some y => rw [hs] at h; exact hf y h
  have ptr : ∀ (a : Addr) (l s h' m : Nat), (arp P (pure (Value.slice (some (if m = l then a else a.add (l * s))) h' (m - l)) : Sem Value) = some v) → arp P (pure (Value.slice (some (if m = l then aren ρ a else (aren ρ a).add (l * s))) h' (m - l)) : Sem Value) = some (ren ρ v) := by
    intro a l s h' m hh
    cases hh
    simp only [ren_slice, arp_pure, capN_lt hv]
    split <;> simp [addr_ren]
  unfold Instr.sliceAt at h ⊢
  rw [arp_bind] at h ⊢
  cases hq : arp P (underlying t) with
  | none => rw [hq] at h; cases h
  | some d =>
    rw [hq] at h
    simp only [Option.bind_some] at h ⊢
    have other : arp P (Instr.slice t x lo hi mx) = some v → arp P (Instr.slice t (ren ρ x) (lo.map (ren ρ)) (hi.map (ren ρ)) (mx.map (ren ρ))) = some (ren ρ v) := by
      intro h
      unfold Instr.slice at h ⊢
      rw [arp_bind, hq] at h ⊢
      simp only [Option.bind_some] at h ⊢
      cases d with
      | string =>
        cases x with
        | string s =>
          simp only [ren_string] at h ⊢
          have hm : (mx.map (ren ρ)).isSome = mx.isSome := by cases mx <;> rfl
          cases mx with
          | some v => cases h
          | none =>
            simp only [Option.isSome_none, Bool.false_eq_true, if_false, Option.map_none] at h ⊢
            rw [arp_bind] at h ⊢
            cases hs : arp P (Instr.sliceBounds false s.size s.size lo hi none) with
            | none => rw [hs] at h; cases h
            | some y =>
              rw [hs] at h
              have := bounds_ren (ρ := ρ) hs
              simp only [Option.map_none] at this
              rw [this]
              simp only [Option.bind_some] at h ⊢
              cases h
              simp
        | slice a n c => cases a <;> cases h
        | _ => cases h
      | slice elem =>
        cases x with
        | slice a n c =>
          cases a with
          | none =>
            simp only [ren_nilslice] at h ⊢
            refine bnd _ _ _ _ _ (fun y => ?_) h
            refine siz _ _ _ (fun z h => ?_)
            cases h
            simp
          | some a =>
            simp only [ren_slice, capN_lt hc] at h ⊢
            refine bnd _ _ _ _ _ (fun y => ?_) h
            refine siz _ _ _ (fun z h => ?_)
            obtain ⟨l, h', m⟩ := y
            have e1 : ∀ b : Addr, (if m = l then some b else Option.map (fun x => x.add (l * z)) (some b)) = some (if m = l then b else b.add (l * z)) := by intro b; split <;> rfl
            simp only [e1] at h ⊢
            exact ptr a l z _ m h
        | _ => cases h
      | pointer arr =>
        cases x with
        | pointer a =>
          cases a with
          | none =>
            simp only [asAddr, arp_bind] at h
            cases h
          | some a =>
            simp only [asAddr, ren_pointer, Option.map_some] at h ⊢
            rw [arp_bind] at h ⊢
            simp only [arp_pure, Option.bind_some] at h ⊢
            rw [arp_bind] at h ⊢
            cases hq2 : arp P (underlying arr) with
            | none => rw [hq2] at h; cases h
            | some d2 =>
              rw [hq2] at h
              simp only [Option.bind_some] at h ⊢
              cases d2 with
              | array n elem =>
                refine bnd _ _ _ _ _ (fun y => ?_) h
                refine siz _ _ _ (fun z h => ?_)
                exact ptr a _ z _ _ h
              | _ => cases h
        | slice a n c => cases a <;> (simp only [asAddr, arp_bind, arp_stuck] at h; cases h)
        | _ => simp only [asAddr, arp_bind, arp_stuck] at h; cases h
      | _ => cases x with
        | slice a n c => cases a <;> cases h
        | _ => cases h
    cases d with
    | array n elem =>
      simp only at h ⊢
      cases x with
      | pointer a =>
        cases a with
        | none => cases h
        | some a =>
          simp only [Instr.sureAddr, ren_pointer, Option.map_some] at h ⊢
          rw [arp_bind] at h ⊢
          simp only [arp_pure, Option.bind_some] at h ⊢
          refine bnd _ _ _ _ _ (fun y => ?_) h
          refine siz _ _ _ (fun z h => ?_)
          exact ptr a _ z _ _ h
      | slice a n c => cases a <;> cases h
      | _ => cases h
    | _ => exact other h
end Ex
end Go.Proofs.Ytlpjnhoafaamkaa
