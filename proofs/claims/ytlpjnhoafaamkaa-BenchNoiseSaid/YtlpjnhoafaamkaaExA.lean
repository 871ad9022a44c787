/-
  AN EXECUTOR, checked once: names for blocks, and memory under names.
-/
import Derived.Orders
import Derived.Below
import Derived.Laws.Rows
import Derived.Laws.AppendOwn
import Derived.KernelRfl

set_option linter.unusedVariables false
set_option linter.unusedSimpArgs false
namespace Go.Proofs.Ytlpjnhoafaamkaa
open Go Go.RowKit
namespace Ex

/-- what the names of blocks, and of capacities, stand for -/
structure Nm where
  b : Nat → Nat
  n : Nat → Nat
def CB : Nat := 18446744073709551616
def CD : Nat := 1099511627776
def capN (ρ : Nm) (c : Nat) : Nat := if c < CB then c else ρ.n ((c - CB) / CD) - (c - CB) % CD
def aren (ρ : Nm) (a : Addr) : Addr := ⟨ρ.b a.block, a.off, a.spot⟩
def fren (ρ : Nm) : Fn → Fn
  | .yield l => .yield (ρ.b l)
  | f => f
def ren (ρ : Nm) : Value → Value
  | .pointer a => .pointer (a.map (aren ρ))
  | .slice (some a) n c => .slice (some (aren ρ a)) n (capN ρ c)
  | .map r => .map (r.map ρ.b)
  | .chan r => .chan (r.map ρ.b)
  | .func f x y => .func (fren ρ f) (x.attach.map fun v => ren ρ v.1) (y.attach.map fun v => ren ρ v.1)
  | .iface t v => .iface t (ren ρ v)
  | .agg xs => .agg (xs.attach.map fun v => ren ρ v.1)
  | .tuple xs => .tuple (xs.attach.map fun v => ren ρ v.1)
  | v => v
termination_by x => x
decreasing_by
  all_goals first
    | (have := Array.sizeOf_lt_of_mem v.2; simp; omega)
    | (simp; done)
    | (simp; omega)
section
variable (ρ : Nm)
@[simp] theorem ren_bool (b : Bool) : ren ρ (.bool b) = .bool b := by rw [ren]; all_goals (intros; simp_all)
@[simp] theorem ren_int (k : IntKind) (n : Int) : ren ρ (.int k n) = .int k n := by rw [ren]; all_goals (intros; simp_all)
@[simp] theorem ren_float (k : FloatKind) (n : Nat) : ren ρ (.float k n) = .float k n := by rw [ren]; all_goals (intros; simp_all)
@[simp] theorem ren_complex (k : FloatKind) (n m : Nat) : ren ρ (.complex k n m) = .complex k n m := by rw [ren]; all_goals (intros; simp_all)
@[simp] theorem ren_string (s : ByteArray) : ren ρ (.string s) = .string s := by rw [ren]; all_goals (intros; simp_all)
@[simp] theorem ren_nilslice (n c : Nat) : ren ρ (.slice none n c) = .slice none n c := by rw [ren]; all_goals (intros; simp_all)
@[simp] theorem ren_nilFunc : ren ρ .nilFunc = .nilFunc := by rw [ren]; all_goals (intros; simp_all)
@[simp] theorem ren_nilIface : ren ρ .nilIface = .nilIface := by rw [ren]; all_goals (intros; simp_all)
@[simp] theorem ren_pointer (a : Option Addr) : ren ρ (.pointer a) = .pointer (a.map (aren ρ)) := by rw [ren]
@[simp] theorem ren_slice (a : Addr) (n c : Nat) : ren ρ (.slice (some a) n c) = .slice (some (aren ρ a)) n (capN ρ c) := by rw [ren]
@[simp] theorem ren_map (r : Option Nat) : ren ρ (.map r) = .map (r.map ρ.b) := by rw [ren]
@[simp] theorem ren_chan (r : Option Nat) : ren ρ (.chan r) = .chan (r.map ρ.b) := by rw [ren]
@[simp] theorem ren_iface (t : TypeId) (v : Value) : ren ρ (.iface t v) = .iface t (ren ρ v) := by rw [ren]
theorem attach_map (xs : Array Value) : (xs.attach.map fun v => ren ρ v.1) = xs.map (ren ρ) := by simp
@[simp] theorem ren_agg (xs : Array Value) : ren ρ (.agg xs) = .agg (xs.map (ren ρ)) := by rw [ren, attach_map]
@[simp] theorem ren_tuple (xs : Array Value) : ren ρ (.tuple xs) = .tuple (xs.map (ren ρ)) := by rw [ren, attach_map]
@[simp] theorem ren_func (f : Fn) (x y : Array Value) : ren ρ (.func f x y) = .func (fren ρ f) (x.map (ren ρ)) (y.map (ren ρ)) := by rw [ren, attach_map, attach_map]
end
def idsL (f : Value → Option (List Nat)) : List Value → Option (List Nat)
  | [] => some []
  | v :: l => match f v with
    | none => none
    | some a => match idsL f l with
      | none => none
      | some b => some (a ++ b)
/-- the names in a value -/
def idsV : Nat → Value → Option (List Nat)
  | 0, _ => none
  | d + 1, v => match v with
    | .pointer (some a) => some [a.block]
    | .slice (some a) _ c => some (bif Nat.blt c CB then [a.block] else [a.block, (c - CB) / CD])
    | .map (some r) => some [r]
    | .chan (some r) => some [r]
    | .func (.yield l) x y => match idsL (idsV d) x.toList, idsL (idsV d) y.toList with
      | some a, some b => some (l :: (a ++ b))
      | _, _ => none
    | .func _ x y => match idsL (idsV d) x.toList, idsL (idsV d) y.toList with
      | some a, some b => some (a ++ b)
      | _, _ => none
    | .iface _ v => idsV d v
    | .agg xs => idsL (idsV d) xs.toList
    | .tuple xs => idsL (idsV d) xs.toList
    | _ => some []
def alike (ρ ρ' : Nm) (i : Nat) : Prop := ρ.b i = ρ'.b i ∧ ρ.n i = ρ'.n i
theorem idsL_ren {ρ ρ' : Nm} {f : Value → Option (List Nat)} (h : ∀ v l, f v = some l → (∀ i ∈ l, alike ρ ρ' i) → ren ρ v = ren ρ' v) : ∀ (vs : List Value) (l : List Nat), idsL f vs = some l → (∀ i ∈ l, alike ρ ρ' i) → vs.map (ren ρ) = vs.map (ren ρ')
  | [], _, _, _ => rfl
  | v :: vs, l, e, hl => by
    unfold idsL at e
    split at e
    · cases e
    · rename_i a ha
      split at e
      · cases e
      · rename_i b hb
        cases e
        rw [List.map_cons, List.map_cons, h v a ha fun i hi => hl i (List.mem_append_left _ hi), idsL_ren h vs b hb fun i hi => hl i (List.mem_append_right _ hi)]
theorem ids_ren {ρ ρ' : Nm} : ∀ (d : Nat) (v : Value) (l : List Nat), idsV d v = some l → (∀ i ∈ l, alike ρ ρ' i) → ren ρ v = ren ρ' v
  | 0, v, l, e, _ => by cases e
  | d + 1, v, l, e, hl => by
    have arr : ∀ (xs : Array Value) (l : List Nat), idsL (idsV d) xs.toList = some l → (∀ i ∈ l, alike ρ ρ' i) → xs.map (ren ρ) = xs.map (ren ρ') := fun xs l e hl => by
      apply Array.ext'
      simp only [Array.toList_map]
      exact idsL_ren (ids_ren d) _ l e hl
    have fun2 : ∀ (f : Fn) (x y : Array Value), fren ρ f = fren ρ' f → (∀ a b, idsL (idsV d) x.toList = some a → idsL (idsV d) y.toList = some b → (∀ i ∈ a ++ b, alike ρ ρ' i) → ren ρ (.func f x y) = ren ρ' (.func f x y)) := by
      intro f x y hf a b ha hb hl
      rw [ren_func, ren_func, hf, arr x a ha fun i hi => hl i (List.mem_append_left _ hi), arr y b hb fun i hi => hl i (List.mem_append_right _ hi)]
    cases v with
    | pointer a => cases a with
      | none => simp
      | some a =>
        simp only [idsV, Option.some.injEq] at e
        subst e
        have := (hl a.block (by simp)).1
        simp [aren, this]
    | slice a n c => cases a with
      | none => simp
      | some a =>
        simp only [idsV, Option.some.injEq] at e
        subst e
        have h1 : ρ.b a.block = ρ'.b a.block := (hl a.block (by cases Nat.blt c CB <;> simp)).1
        have h2 : capN ρ c = capN ρ' c := by
          unfold capN
          split
          · rfl
          · rename_i hc
            have hb : Nat.blt c CB = false := by
              cases hb : Nat.blt c CB with
              | false => rfl
              | true => exact absurd (show c < CB from Nat.le_of_ble_eq_true hb) hc
            rw [hb] at hl
            rw [(hl ((c - CB) / CD) (by simp)).2]
        simp [aren, h1, h2]
    | map r => cases r with
      | none => simp
      | some r =>
        simp only [idsV, Option.some.injEq] at e
        subst e
        simp [(hl r (by simp)).1]
    | chan r => cases r with
      | none => simp
      | some r =>
        simp only [idsV, Option.some.injEq] at e
        subst e
        simp [(hl r (by simp)).1]
    | func f x y =>
      cases f with
      | yield k =>
        simp only [idsV] at e
        split at e
        · rename_i a b ha hb
          cases e
          exact fun2 _ x y (by simp [fren, (hl k (by simp)).1]) a b ha hb fun i hi => hl i (List.mem_cons_of_mem _ hi)
        · cases e
      | _ =>
        simp only [idsV] at e
        split at e
        · rename_i a b ha hb
          cases e
          exact fun2 _ x y rfl a b ha hb hl
        · cases e
    | iface t v =>
      simp only [idsV] at e
      rw [ren_iface, ren_iface, ids_ren d v l e hl]
    | agg xs =>
      simp only [idsV] at e
      rw [ren_agg, ren_agg, arr xs l e hl]
    | tuple xs =>
      simp only [idsV] at e
      rw [ren_tuple, ren_tuple, arr xs l e hl]
    | _ => simp
theorem idsL_nil {ρ : Nm} {f : Value → Option (List Nat)} (h : ∀ v, f v = some [] → ren ρ v = v) : ∀ vs : List Value, idsL f vs = some [] → vs.map (ren ρ) = vs
  | [], _ => rfl
  | v :: vs, e => by
    unfold idsL at e
    split at e
    · cases e
    · rename_i a ha
      split at e
      · cases e
      · rename_i b hb
        simp only [Option.some.injEq, List.append_eq_nil_iff] at e
        rw [List.map_cons, h v (by rw [ha, e.1]), idsL_nil h vs (by rw [hb, e.2])]
theorem ids_nil {ρ : Nm} : ∀ (d : Nat) (v : Value), idsV d v = some [] → ren ρ v = v
  | 0, v, e => by cases e
  | d + 1, v, e => by
    have arr : ∀ (xs : Array Value), idsL (idsV d) xs.toList = some [] → xs.map (ren ρ) = xs := fun xs e => by
      apply Array.ext'
      simp only [Array.toList_map]
      exact idsL_nil (ids_nil d) _ e
    cases v with
    | pointer a => cases a with
      | none => simp
      | some a => simp [idsV] at e
    | slice a n c => cases a with
      | none => simp
      | some a => simp only [idsV, Option.some.injEq] at e; cases hb : Nat.blt c CB <;> simp [hb] at e
    | map r => cases r <;> simp [idsV] at e ⊢
    | chan r => cases r <;> simp [idsV] at e ⊢
    | func f x y =>
      cases f with
      | yield k => simp only [idsV] at e; split at e <;> simp at e
      | _ =>
        simp only [idsV] at e
        split at e
        · rename_i a b ha hb
          simp only [Option.some.injEq, List.append_eq_nil_iff] at e
          rw [ren_func, arr x (by rw [ha, e.1]), arr y (by rw [hb, e.2])]
          rfl
        · cases e
    | iface t v =>
      simp only [idsV] at e
      rw [ren_iface, ids_nil d v e]
    | agg xs =>
      simp only [idsV] at e
      rw [ren_agg, arr xs e]
    | tuple xs =>
      simp only [idsV] at e
      rw [ren_tuple, arr xs e]
    | _ => simp
/-- a tree of numbered things -/
inductive Tr (α : Type) where
  | nil
  | node (l : Tr α) (x : Option α) (r : Tr α)
def Tr.get {α : Type} : Tr α → Nat → Option α
  | .nil, _ => none
  | .node l x r, k => bif Nat.beq k 0 then x else bif Nat.beq (k % 2) 1 then l.get (k / 2) else r.get (k / 2 - 1)
def Tr.setF {α : Type} : Nat → Tr α → Nat → Option α → Tr α
  | 0, t, _, _ => t
  | f + 1, .nil, k, v => bif Nat.beq k 0 then .node .nil v .nil else bif Nat.beq (k % 2) 1 then .node (Tr.setF f .nil (k / 2) v) none .nil else .node .nil none (Tr.setF f .nil (k / 2 - 1) v)
  | f + 1, .node l x r, k, v => bif Nat.beq k 0 then .node l v r else bif Nat.beq (k % 2) 1 then .node (Tr.setF f l (k / 2) v) x r else .node l x (Tr.setF f r (k / 2 - 1) v)
theorem Tr.get_setF {α : Type} : ∀ (f : Nat) (t : Tr α) (k : Nat) (v : Option α) (j : Nat), k < 2 ^ f - 1 → (Tr.setF f t k v).get j = if j = k then v else t.get j
  | 0, t, k, v, j, h => by simp at h
  | f + 1, t, k, v, j, h => by
    have e2 : 2 ^ (f + 1) = 2 * 2 ^ f := by rw [Nat.pow_succ, Nat.mul_comm]
    have b0 : ∀ n : Nat, Nat.beq n 0 = decide (n = 0) := fun n => by cases n <;> rfl
    have b1 : ∀ n : Nat, Nat.beq n 1 = decide (n = 1) := fun n => by
      cases h : Nat.beq n 1 with
      | true => have := Nat.eq_of_beq_eq_true h; simp [this]
      | false => have : n ≠ 1 := fun e => by subst e; cases h
                 simp [this]
    have ih := fun (t : Tr α) (k j : Nat) (h : k < 2 ^ f - 1) => Tr.get_setF f t k v j h
    have hn : ∀ j, (Tr.nil : Tr α).get j = none := fun j => by simp [Tr.get]
    cases t with
    | nil =>
      unfold Tr.setF
      by_cases hk : k = 0
      · subst hk
        simp only [b0, decide_true, cond_true, Tr.get, hn]
        by_cases hj : j = 0 <;> simp [hj]
      · by_cases ho : k % 2 = 1
        · simp only [b0, b1, hk, ho, decide_false, decide_true, cond_false, cond_true, Tr.get, hn]
          rw [ih _ _ _ (by omega)]
          by_cases hj : j = 0
          · simp [hj, Ne.symm hk]
          · by_cases hjo : j % 2 = 1
            · simp only [hj, hjo, decide_false, decide_true, cond_false, cond_true, hn]
              by_cases e : j = k
              · simp [e]
              · rw [if_neg (by omega), if_neg e]
            · have : j ≠ k := fun e => hjo (by rw [e]; exact ho)
              simp [hj, hjo, this]
        · simp only [b0, b1, hk, ho, decide_false, cond_false, Tr.get, hn]
          rw [ih _ _ _ (by omega)]
          by_cases hj : j = 0
          · simp [hj, Ne.symm hk]
          · by_cases hjo : j % 2 = 1
            · have : j ≠ k := fun e => ho (by rw [← e]; exact hjo)
              simp [hj, hjo, this]
            · simp only [hj, hjo, decide_false, cond_false, hn]
              by_cases e : j = k
              · simp [e]
              · rw [if_neg (by omega), if_neg e]
    | node l x r =>
      unfold Tr.setF
      by_cases hk : k = 0
      · subst hk
        simp only [b0, decide_true, cond_true, Tr.get]
        by_cases hj : j = 0 <;> simp [hj]
      · by_cases ho : k % 2 = 1
        · simp only [b0, b1, hk, ho, decide_false, decide_true, cond_false, cond_true, Tr.get]
          rw [ih _ _ _ (by omega)]
          by_cases hj : j = 0
          · simp [hj, Ne.symm hk]
          · by_cases hjo : j % 2 = 1
            · simp only [hj, hjo, decide_false, decide_true, cond_false, cond_true]
              by_cases e : j = k
              · simp [e]
              · rw [if_neg (by omega), if_neg e]
            · have : j ≠ k := fun e => hjo (by rw [e]; exact ho)
              simp [hj, hjo, this]
        · simp only [b0, b1, hk, ho, decide_false, cond_false, Tr.get]
          rw [ih _ _ _ (by omega)]
          by_cases hj : j = 0
          · simp [hj, Ne.symm hk]
          · by_cases hjo : j % 2 = 1
            · have : j ≠ k := fun e => ho (by rw [← e]; exact hjo)
              simp [hj, hjo, this]
            · simp only [hj, hjo, decide_false, cond_false]
              by_cases e : j = k
              · simp [e]
              · rw [if_neg (by omega), if_neg e]
def LIM : Nat := 1000000000
def Tr.set {α : Type} (t : Tr α) (k : Nat) (v : Option α) : Tr α := Tr.setF 40 t k v
theorem Tr.get_set {α : Type} (t : Tr α) {k : Nat} (v : Option α) (j : Nat) (h : k < LIM) : (t.set k v).get j = if j = k then v else t.get j :=
  Tr.get_setF 40 t k v j (Nat.lt_of_lt_of_le h (by decide))
end Ex
end Go.Proofs.Ytlpjnhoafaamkaa
