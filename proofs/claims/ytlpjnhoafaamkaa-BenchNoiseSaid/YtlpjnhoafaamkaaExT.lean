/-
  AN EXECUTOR, checked once: what an operation comes to.
-/
import Derived.Test.YtlpjnhoafaamkaaExQ
set_option linter.unusedVariables false
set_option linter.unusedSimpArgs false
namespace Go.Proofs.Ytlpjnhoafaamkaa
open Go Go.RowKit
namespace Ex

section cmp
variable {P : Program} {t : TypeId}
theorem eq_ptr (a a' : Addr) (n : Nat) : Op.equalIn (n + 1) t (.pointer (some a)) (.pointer none) = Op.equalIn (n + 1) t (.pointer (some a')) (.pointer none) := by
  simp only [Op.equalIn]
  congr 1
  funext d
  cases d <;> rfl
theorem eq_ptr' (a a' : Addr) (n : Nat) : Op.equalIn (n + 1) t (.pointer none) (.pointer (some a)) = Op.equalIn (n + 1) t (.pointer none) (.pointer (some a')) := by
  simp only [Op.equalIn]
  congr 1
  funext d
  cases d <;> rfl
theorem eq_slice (a a' : Addr) (l c c' n k m : Nat) : Op.equalIn (n + 1) t (.slice (some a) l c) (.slice none k m) = Op.equalIn (n + 1) t (.slice (some a') l c') (.slice none k m) := by
  simp only [Op.equalIn]
  congr 1
  funext d
  cases d <;> rfl
theorem eq_slice' (a a' : Addr) (l c c' n k m : Nat) : Op.equalIn (n + 1) t (.slice none k m) (.slice (some a) l c) = Op.equalIn (n + 1) t (.slice none k m) (.slice (some a') l c') := by
  simp only [Op.equalIn]
  congr 1
  funext d
  cases d <;> rfl
theorem eq_map (a a' : Nat) (n : Nat) : Op.equalIn (n + 1) t (.map (some a)) (.map none) = Op.equalIn (n + 1) t (.map (some a')) (.map none) := by
  simp only [Op.equalIn]
  congr 1
  funext d
  cases d <;> rfl
theorem eq_map' (a a' : Nat) (n : Nat) : Op.equalIn (n + 1) t (.map none) (.map (some a)) = Op.equalIn (n + 1) t (.map none) (.map (some a')) := by
  simp only [Op.equalIn]
  congr 1
  funext d
  cases d <;> rfl
theorem eq_func (f f' : Fn) (x y x' y' : Array Value) (n : Nat) : Op.equalIn (n + 1) t (.func f x y) .nilFunc = Op.equalIn (n + 1) t (.func f' x' y') .nilFunc := by
  simp only [Op.equalIn]
  congr 1
  funext d
  cases d <;> rfl
theorem eq_func' (f f' : Fn) (x y x' y' : Array Value) (n : Nat) : Op.equalIn (n + 1) t .nilFunc (.func f x y) = Op.equalIn (n + 1) t .nilFunc (.func f' x' y') := by
  simp only [Op.equalIn]
  congr 1
  funext d
  cases d <;> rfl
theorem eq_iface (u : TypeId) (v v' : Value) (n : Nat) : Op.equalIn (n + 1) t (.iface u v) .nilIface = Op.equalIn (n + 1) t (.iface u v') .nilIface := by
  simp only [Op.equalIn]
  congr 1
  funext d
  cases d <;> rfl
theorem eq_iface' (u : TypeId) (v v' : Value) (n : Nat) : Op.equalIn (n + 1) t .nilIface (.iface u v) = Op.equalIn (n + 1) t .nilIface (.iface u v') := by
  simp only [Op.equalIn]
  congr 1
  funext d
  cases d <;> rfl
end cmp
/-- a comparison with nil -/
def nilCmp : Value → Value → Bool
  | .pointer (some _), .pointer none | .pointer none, .pointer (some _) => true
  | .slice (some _) _ _, .slice none _ _ | .slice none _ _, .slice (some _) _ _ => true
  | .map (some _), .map none | .map none, .map (some _) => true
  | .func .., .nilFunc | .nilFunc, .func .. => true
  | .iface .., .nilIface | .nilIface, .iface .. => true
  | _, _ => false
theorem nilCmp_ren {P : Program} {ρ : Nm} {op : BinOp} {t : TypeId} {xo yo : Operand} {x y v : Value} (hop : op = .eql ∨ op = .neq) (h : nilCmp x y = true) (hv : arp P (binOp op t x y) = some v) :
    arp P (do eqGuard op t xo yo (ren ρ x) (ren ρ y); binOp op t (ren ρ x) (ren ρ y)) = some v := by
  have e : Op.maxDepth = 9999 + 1 := rfl
  have guard : ∀ a b : Value, nilCmp a b = true → arp P (eqGuard op t xo yo a b) = some () := by
    intro a b hab
    unfold eqGuard
    rcases hop with rfl | rfl <;> (unfold nilCmp at hab; split at hab <;> first | rfl | cases hab)
  have hren : nilCmp (ren ρ x) (ren ρ y) = true := by
    unfold nilCmp at h
    split at h <;> first | (simp [nilCmp]; done) | cases h
  have hval : ∀ b, arp P (Op.equal t x y) = some b → arp P (Op.equal t (ren ρ x) (ren ρ y)) = some b := by
    intro b hb
    unfold Op.equal at hb ⊢
    rw [e] at hb ⊢
    unfold nilCmp at h
    split at h
    · simp only [ren_pointer, Option.map_some, Option.map_none]; rw [eq_ptr _ _]; exact hb
    · simp only [ren_pointer, Option.map_some, Option.map_none]; rw [eq_ptr' _ _]; exact hb
    · simp only [ren_slice, ren_nilslice]; rw [eq_slice _ _ _ _ _]; exact hb
    · simp only [ren_slice, ren_nilslice]; rw [eq_slice' _ _ _ _ _]; exact hb
    · simp only [ren_map, Option.map_some, Option.map_none]; rw [eq_map _ _]; exact hb
    · simp only [ren_map, Option.map_some, Option.map_none]; rw [eq_map' _ _]; exact hb
    · simp only [ren_func, ren_nilFunc]; rw [eq_func]; exact hb
    · simp only [ren_func, ren_nilFunc]; rw [eq_func']; exact hb
    · simp only [ren_iface, ren_nilIface]; rw [eq_iface]; exact hb
    · simp only [ren_iface, ren_nilIface]; rw [eq_iface']; exact hb
    · cases h
  rw [arp_bind, guard _ _ hren]
  simp only [Option.bind_some]
  have red : ∀ a b : Value, nilCmp a b = true → binOp op t a b = (if op = .eql then do pure (.bool (← Op.equal t a b)) else do pure (.bool (!(← Op.equal t a b)))) := by
    intro a b hab
    rcases hop with rfl | rfl <;> (unfold nilCmp at hab; split at hab <;> first | rfl | cases hab)
  rw [red _ _ hren]
  rw [red _ _ h] at hv
  rcases hop with rfl | rfl
  · simp only [if_true, arp_bind] at hv ⊢
    cases hb : arp P (Op.equal t x y) with
    | none => rw [hb] at hv; cases hv
    | some b => rw [hval b hb]; rw [hb] at hv; exact hv
  · rw [if_neg (by decide)] at hv ⊢
    simp only [arp_bind] at hv ⊢
    cases hb : arp P (Op.equal t x y) with
    | none => rw [hb] at hv; cases hv
    | some b => rw [hval b hb]; rw [hb] at hv; exact hv
theorem arp_ta {α : Type} {P : Program} (a b : Option TypeId) (u : TypeId) (m : String) : arp P (runtimePanic (.typeAssertion a b u m) : Sem α) = none := by
  unfold runtimePanic
  simp only [arp_bind, arp_program, Option.bind_some]
  cases arp P (elemOf P.rt.typeAssertionError) <;> rfl
theorem assert_ren {P : Program} {ρ : Nm} {x v : Value} {t u : TypeId} {ok : Bool} (hz : zeroOk P u = true) (h : arp P (Instr.typeAssert x t u ok) = some v) : arp P (Instr.typeAssert (ren ρ x) t u ok) = some (ren ρ v) := by
  unfold zeroOk at hz
  split at hz
  case h_2 => cases hz
  rename_i z hzz
  have fails : ∀ (a b : Option TypeId) (m : String), arp P (if ok = true then do pure (.tuple #[← zeroValue u, .bool false]) else runtimePanic (.typeAssertion a b u m)) = some v → arp P (if ok = true then do pure (.tuple #[← zeroValue u, .bool false]) else runtimePanic (.typeAssertion a b u m)) = some (ren ρ v) := by
    intro a b m h
    cases ok with
    | true =>
      simp only [if_true, arp_bind, hzz] at h ⊢
      cases h
      simp [gnd_ren hz]
    | false => exfalso; simp only [Bool.false_eq_true, if_false] at h; rw [arp_ta] at h; cases h
  have holds : ∀ y : Value, arp P (pure (if ok = true then .tuple #[y, .bool true] else y) : Sem Value) = some v → arp P (pure (if ok = true then .tuple #[ren ρ y, .bool true] else ren ρ y) : Sem Value) = some (ren ρ v) := by
    intro y h
    cases h
    cases ok <;> simp
  unfold Instr.typeAssert at h ⊢
  rw [arp_bind] at h ⊢
  generalize arp P (underlying u) = q at h ⊢
  cases q with
  | none => cases h
  | some d =>
    simp only [Option.bind_some] at h ⊢
    cases x with
    | nilIface =>
      simp only [ren_nilIface]
      cases d <;> exact fails _ _ _ h
    | iface t' y =>
      simp only [ren_iface]
      have key : arp P (if t' = u then pure (if ok = true then .tuple #[y, .bool true] else y) else (if ok = true then do pure (.tuple #[← zeroValue u, .bool false]) else runtimePanic (.typeAssertion (some t) (some t') u ""))) = some v → arp P (if t' = u then pure (if ok = true then .tuple #[ren ρ y, .bool true] else ren ρ y) else (if ok = true then do pure (.tuple #[← zeroValue u, .bool false]) else runtimePanic (.typeAssertion (some t) (some t') u ""))) = some (ren ρ v) := by
        intro h
        split at h
        · rename_i hh; rw [if_pos hh]; exact holds y h
        · rename_i hh; rw [if_neg hh]; exact fails _ _ _ h
      cases d with
      | interface want =>
        simp only [arp_bind] at h ⊢
        generalize arp P (typeInfo t') = q at h ⊢
        cases q with
        | none => cases h
        | some i =>
          simp only [Option.bind_some] at h ⊢
          generalize Instr.missingMethod want i.methods = mm at h ⊢
          cases mm with
          | none => have := holds (.iface t' y) h; rw [ren_iface] at this; exact this
          | some m => exact fails _ _ _ h
      | _ => exact key h
    | slice a n c => cases a <;> cases d <;> cases h
    | _ => cases d <;> cases h
def natOf : Value → Option Nat
  | .int _ i => bif decide (0 ≤ i) then some i.toNat else none
  | _ => none
theorem natOf_ok {v : Value} {n : Nat} (h : natOf v = some n) : ∃ k, v = .int k (n : Int) := by
  cases v with
  | int k i =>
    unfold natOf at h
    by_cases h0 : 0 ≤ i
    · simp only [h0, decide_true, cond_true, Option.some.injEq] at h
      exact ⟨k, by congr 1; omega⟩
    · simp only [h0, decide_false, cond_false] at h; cases h
  | _ => cases h
def optN (o : Option Value) (d : Nat) : Option Nat := match o with | none => some d | some v => natOf v
/-- a slice of a row -/
def evSliceRow (P : Program) (t : TypeId) (x : Value) (lo hi : Option Value) (H : Nat → Option Ent) : Option (Value × Nat) :=
  match x with
  | .slice (some ⟨b, off, none⟩) len c => match arp P (underlying t), H b with
    | some (.slice e), some (.row xs sz T) => match arp P (sizeOf e) with
      | some s =>
        let k := (c - CB) % CD
        match optN lo 0, optN hi len with
        | some l, some h => bif Nat.beq c (CB + b * CD + k) && Nat.blt k CD && Nat.beq off (k * s) && Nat.beq sz s && Nat.blt 0 s && Nat.ble ((k + len) * s) xs.length && Nat.ble l h && Nat.ble h len && (Nat.blt l len || Nat.beq l 0) && Nat.blt (k + l) CD then
            some (.slice (some ⟨b, off + l * s, none⟩) (h - l) (c + l), b) else none
        | _, _ => none
      | none => none
    | _, _ => none
  | _ => none
theorem capN_row {ρ : Nm} {c b k : Nat} (h : c = CB + b * CD + k) (hk : k < CD) : capN ρ c = ρ.n b - k := by
  have hcd : 0 < CD := by decide
  unfold capN
  rw [if_neg (by omega)]
  have e : c - CB = k + CD * b := by rw [Nat.mul_comm CD b]; omega
  rw [e, Nat.add_mul_div_left _ _ hcd, Nat.add_mul_mod_self_left, Nat.div_eq_of_lt hk, Nat.mod_eq_of_lt hk, Nat.zero_add]
theorem sliceRow_run {P : Program} {ρ : Nm} {w : World} {t : TypeId} {x v : Value} {lo hi : Option Value} {H : Nat → Option Ent} {b : Nat} (h : evSliceRow P t x lo hi H = some (v, b)) (hh : ∀ c, H b = some c → c.holds ρ w b) : (Instr.sliceAt t (ren ρ x) (lo.map (ren ρ)) (hi.map (ren ρ)) none).run P w = .ok (ren ρ v) w := by
  unfold evSliceRow at h
  split at h
  case h_2 => cases h
  rename_i b' off len c
  split at h
  case h_2 => cases h
  rename_i e xs sz T hu hH
  split at h
  case h_2 => cases h
  rename_i s hs
  simp only at h
  split at h
  case h_2 => cases h
  rename_i l h' hlo hhi
  revert h
  generalize hk : (c - CB) % CD = k
  intro h
  cases hb : (Nat.beq c (CB + b' * CD + k) && Nat.blt k CD && Nat.beq off (k * s) && Nat.beq sz s && Nat.blt 0 s && Nat.ble ((k + len) * s) xs.length && Nat.ble l h' && Nat.ble h' len && (Nat.blt l len || Nat.beq l 0) && Nat.blt (k + l) CD) with
  | false => rw [hb] at h; cases h
  | true =>
    rw [hb] at h
    cases h
    simp only [Bool.and_eq_true, Bool.or_eq_true] at hb
    obtain ⟨⟨⟨⟨⟨⟨⟨⟨⟨q1, q2⟩, q3⟩, q4⟩, q5⟩, q6⟩, q7⟩, q8⟩, q9⟩, q10⟩ := hb
    have q1 := Nat.eq_of_beq_eq_true q1
    have q2 : k < CD := Nat.le_of_ble_eq_true q2
    have q3 := Nat.eq_of_beq_eq_true q3
    have q4 := Nat.eq_of_beq_eq_true q4
    have q5 : 0 < s := Nat.le_of_ble_eq_true q5
    have q6 := Nat.le_of_ble_eq_true q6
    have q7 := Nat.le_of_ble_eq_true q7
    have q8 := Nat.le_of_ble_eq_true q8
    have q9 : l < len ∨ l = 0 := q9.imp Nat.le_of_ble_eq_true Nat.eq_of_beq_eq_true
    have q10 : k + l < CD := Nat.le_of_ble_eq_true q10
    subst q3 q4
    obtain ⟨cur, r1, r2, r3, r4, r5⟩ := hh _ hH
    have hcap : k + len ≤ ρ.n b := by
      rcases Nat.lt_or_ge (ρ.n b) (k + len) with hl | hg
      · exfalso
        have : (ρ.n b + 1) * sz ≤ (k + len) * sz := Nat.mul_le_mul_right _ hl
        rw [Nat.add_mul] at this
        omega
      · exact hg
    have e1 : capN ρ c = ρ.n b - k := capN_row q1 q2
    have e2 : capN ρ (c + l) = ρ.n b - (k + l) := capN_row (by omega) q10
    have bnd : ∀ (v : Value) (m : Nat) (code : BoundsCode) (y : Nat), natOf v = some y → y ≤ m → (Instr.sliceBound (ren ρ v) m code).run P w = .ok y w := by
      intro v m code y hy hm
      obtain ⟨k, rfl⟩ := natOf_ok hy
      have : (y : Int) ≤ (m : Int) := by omega
      simp [Instr.sliceBound, asIntOf, this]
    have hbs : (Instr.sliceBounds true len (ρ.n b - k) (lo.map (ren ρ)) (hi.map (ren ρ)) none).run P w = .ok (l, h', ρ.n b - k) w := by
      unfold Instr.sliceBounds
      cases lo with
      | none =>
        cases hlo
        cases hi with
        | none => cases hhi; simp
        | some v => simp [bnd v (ρ.n b - k) .sliceAcap h' hhi (by omega)]
      | some u =>
        cases hi with
        | none => cases hhi; simp [bnd u _ _ l hlo q7]
        | some v => simp [bnd v (ρ.n b - k) .sliceAcap h' hhi (by omega), bnd u h' .sliceB l hlo q7]
    unfold Instr.sliceAt
    simp only [Sem.run_bind, arp_run hu, Result.andThen_ok]
    simp only [ren_slice, aren, e1]
    unfold Instr.slice
    simp only [Sem.run_bind, arp_run hu, Result.andThen_ok, hbs, arp_run hs, Sem.run_pure]
    have e3 : (if ρ.n b - k = l then some (⟨ρ.b b, k * sz, none⟩ : Addr) else Option.map (fun (x : Addr) => x.add (l * sz)) (some ⟨ρ.b b, k * sz, none⟩)) = some ⟨ρ.b b, k * sz + l * sz, none⟩ := by
      split
      · rename_i hh
        rcases q9 with q | q
        · omega
        · subst q; simp
      · simp [addr_add]
    rw [e3, e2, Nat.sub_sub]
end Ex
end Go.Proofs.Ytlpjnhoafaamkaa
