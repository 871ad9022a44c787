/-
  SAMPLES of any word: whole or not, within the bound or not; the first wrong one.
-/
import Derived.Test.YthgnemkfaiejbaaFlg
import Derived.Test.YthgnemkfaiejbaaTErr
import Derived.Deep.Draws
set_option linter.unusedVariables false
set_option linter.unusedSimpArgs false
set_option exponentiation.threshold 3000
namespace Go.Proofs.Ythgnemkfaiejbaa
open Go.RowKit
open Ieee (Format Datum)

/-- what a double is that has been made of a single -/
def DD (x y : Nat) : Prop := y < 2 ^ 64 ∧ match Ieee.single.read x with
  | .number s m e => IsD y s (mg m e)
  | .infinity s => Ieee.double.read y = .infinity s
  | .nan _ _ => (Ieee.double.read y).isNaN = true
theorem read_inf (s : Bool) : Ieee.double.read (Ieee.double.word s Ieee.double.infRung) = .infinity s := by cases s <;> decide +kernel
theorem read_cut (t : Nat) : (Ieee.double.read ((t % 2) * 2 ^ 63 + 0x7ff0000000000000 + 1 + (t / 2) % (2 ^ 52 - 1))).isNaN = true ∧ (t % 2) * 2 ^ 63 + 0x7ff0000000000000 + 1 + (t / 2) % (2 ^ 52 - 1) < 2 ^ 64 := by
  have h1 : t % 2 < 2 := Nat.mod_lt _ (by decide)
  have h2 : (t / 2) % (2 ^ 52 - 1) < 2 ^ 52 - 1 := Nat.mod_lt _ (by decide)
  generalize t % 2 = a at *
  generalize (t / 2) % (2 ^ 52 - 1) = r at *
  refine ⟨?_, by omega⟩
  have hs : Ieee.double.signWeight = 2 ^ 63 := rfl
  have hb : Ieee.double.binade = 2 ^ 52 := by decide
  have hi : Ieee.double.infRung = 0x7ff0000000000000 := by decide
  unfold Format.read
  simp only [hs, hb, hi]
  have e : (a * 2 ^ 63 + 0x7ff0000000000000 + 1 + r) % 2 ^ 63 = 0x7ff0000000000000 + 1 + r := by omega
  rw [e, if_neg (by omega), if_neg (by omega), if_neg (by omega)]
  rfl
theorem conv_w (x : Nat) (hx : x < 2 ^ 32) : ∃ f : World → Nat × Nat, (∀ w, (convert 24 201 (.float .f32 x)).run Try.prog w = .ok (.float .f64 (f w).1) (w.drewN (f w).2)) ∧ ∀ w, DD x (f w).1 := by
  have hd : FloatKind.f32.decode x = Ieee.single.read x := rfl
  cases h : Ieee.single.read x with
  | number s m e =>
    have hb := single_bd h
    have hD : IsD (Ieee.double.nearest s m e) s (mg m e) := by
      have := isD_nearest s (m := m) (by omega) 0 e (by omega) (by omega) (by omega)
      rw [Nat.pow_zero, Nat.mul_one, show e + ((0 : Nat) : Int) = e by omega] at this
      exact this
    refine ⟨fun _ => (Ieee.double.nearest s m e, 0), fun w => ?_, fun _ => ?_⟩
    · refine run_convert_float_float w _ _ _ _ _ _ (by rw [Try.underlying24]; rfl) Try.underlying201 ?_
      unfold floatToFloatBits
      rw [if_neg (by decide)]
      simp only [hd, h]
      obtain ⟨m', e', r, _⟩ := hD
      have e2 : FloatKind.f64.encode (.number s m e) = Ieee.double.nearest s m e := rfl
      have r2 : FloatKind.f64.decode (Ieee.double.nearest s m e) = .number s m' e' := r
      rw [e2, r2]
      rfl
    · refine ⟨Ieee.double.nearest_lt _ _ _, ?_⟩
      rw [h]
      exact hD
  | infinity s =>
    refine ⟨fun _ => (Ieee.double.word s Ieee.double.infRung, 0), fun w => ?_, fun _ => ?_⟩
    · refine run_convert_float_float w _ _ _ _ _ _ (by rw [Try.underlying24]; rfl) Try.underlying201 ?_
      unfold floatToFloatBits
      rw [if_neg (by decide)]
      simp only [hd, h]
      rfl
    · refine ⟨by show Ieee.double.word s Ieee.double.infRung < 2 ^ 64; cases s <;> decide +kernel, ?_⟩
      rw [h]
      exact read_inf s
  | nan s t =>
    refine ⟨fun w => (Question.cut (.nanConv .f64 x) (w.tape w.drawn (.nanConv .f64 x)), 1), fun w => ?_, fun w => ?_⟩
    · obtain ⟨u, hu⟩ := Option.isSome_iff_exists.1 (show (Try.prog.underlying 24).isSome = true by rw [Try.underlying24]; rfl)
      cases u <;> simp [convert, run_underlying hu, run_underlying Try.underlying201, Conv.floatToFloat, hd, h, Question.forced, World.drew_is_drewN]
    · refine ⟨(read_cut _).2, ?_⟩
      rw [h]
      exact (read_cut _).1
/-- whether Trunc gives a double back; whether it is infinite; whether it is whole -/
def wT (y : Nat) : Bool := match Ieee.double.read y with | .number _ m e => mg m e % Z == 0 | .infinity _ => true | .nan _ _ => false
def gM (y c : Nat) : Bool := FloatKind.f64.format.order (y % 2 ^ 63) c == some .gt
def wY (y : Nat) : Bool := wT y && !gM y 9218868437227405311
def eD (y : Nat) : Int := if wY y then (if gM y 4656717616654581760 then 2 else 0) else 25
theorem beq_cmp_eq {a b : Int} : ((some (compare a b) : Option Ordering) == some .eq) = decide (a = b) := by
  rcases Int.lt_trichotomy a b with c | c | c
  · rw [Int.compare_eq_lt.2 c, decide_eq_false (by omega)]; rfl
  · rw [Int.compare_eq_eq.2 c, decide_eq_true c]; rfl
  · rw [Int.compare_eq_gt.2 c, decide_eq_false (by omega)]; rfl
theorem beq_cmp_gt {a b : Int} : ((some (compare a b) : Option Ordering) == some .gt) = decide (b < a) := by
  rcases Int.lt_trichotomy a b with c | c | c
  · rw [Int.compare_eq_lt.2 c, decide_eq_false (by omega)]; rfl
  · rw [Int.compare_eq_eq.2 c, decide_eq_false (by omega)]; rfl
  · rw [Int.compare_eq_gt.2 c, decide_eq_true c]; rfl
theorem beq_cmp_lt {a b : Int} : ((some (compare a b) : Option Ordering) == some .lt) = decide (a < b) := by
  rcases Int.lt_trichotomy a b with c | c | c
  · rw [Int.compare_eq_lt.2 c, decide_eq_true c]; rfl
  · rw [Int.compare_eq_eq.2 c, decide_eq_false (by omega)]; rfl
  · rw [Int.compare_eq_gt.2 c, decide_eq_false (by omega)]; rfl
theorem toIntegral_w (y : Nat) : ∃ f : World → Nat × Nat, (∀ w, (Extern.MathFloor.toIntegral "math.archTrunc" .zero #[.float .f64 y]).run Try.prog w = .ok (.float .f64 (f w).1) (w.drewN (f w).2)) ∧ ∀ w, (FloatKind.f64.format.order y (f w).1 == some .eq) = wT y := by
  have hd : FloatKind.f64.decode y = Ieee.double.read y := rfl
  cases h : Ieee.double.read y with
  | number s m e =>
    have hb := double_bd h
    refine ⟨fun _ => (Ieee.double.nearest s (mg m e / Z) 0, 0), fun w => ?_, fun _ => ?_⟩
    · change Sem.run Try.prog (match FloatKind.f64.decode y with | .nan s t => _ | d => pure (Value.float .f64 (FloatKind.f64.encode (d.integral .zero)))) w = _
      rw [hd, h]
      show Result.ok (Value.float .f64 (FloatKind.f64.encode (Ieee.Datum.integral .zero (.number s m e)))) w = _
      rw [integral_num _ _ (by omega)]
      rfl
    · rw [(isD_read h).order (isD_whole s hb.1 hb.2.1 hb.2.2), beq_cmp_eq]
      unfold wT
      rw [h]
      simp only
      have hw := whole_iff (mg m e)
      rw [Bool.eq_iff_iff, decide_eq_true_eq, beq_iff_eq, ← hw]
      unfold sg
      cases s
      · simp only [Bool.false_eq_true, if_false]; omega
      · simp only [if_true]; omega
  | infinity s =>
    refine ⟨fun _ => (Ieee.double.word s Ieee.double.infRung, 0), fun w => ?_, fun _ => ?_⟩
    · change Sem.run Try.prog (match FloatKind.f64.decode y with | .nan s t => _ | d => pure (Value.float .f64 (FloatKind.f64.encode (d.integral .zero)))) w = _
      rw [hd, h]
      rfl
    · show (Ieee.double.order _ _ == _) = _
      unfold Format.order wT
      rw [h, read_inf]
      cases s <;> rfl
  | nan s t =>
    have e : Extern.MathFloor.toIntegral "math.archTrunc" .zero #[.float .f64 y] = (match FloatKind.f64.decode y with
      | .nan s t => if FloatKind.f64.format.quiet t = t then pure (Value.float .f64 y) else do
          let kept ← choose (.extern "math.Floor,Ceil,Trunc,RoundToEven.signallingNaN kept" 2)
          pure (Value.float .f64 (if kept == 1 then y else FloatKind.f64.encode (.nan s (FloatKind.f64.format.quiet t))))
      | d => pure (Value.float .f64 (FloatKind.f64.encode (d.integral .zero)))) := rfl
    by_cases q : FloatKind.f64.format.quiet t = t
    · refine ⟨fun _ => (y, 0), fun w => ?_, fun _ => ?_⟩
      · rw [e, hd, h]
        simp only
        rw [if_pos q]
        rfl
      · show (Ieee.double.order _ _ == _) = _
        unfold Format.order wT
        rw [h]
        rfl
    · refine ⟨fun w => (if Question.cut (.extern "math.Floor,Ceil,Trunc,RoundToEven.signallingNaN kept" 2) (w.tape w.drawn (.extern "math.Floor,Ceil,Trunc,RoundToEven.signallingNaN kept" 2)) == 1 then y else FloatKind.f64.encode (.nan s (FloatKind.f64.format.quiet t)), 1), fun w => ?_, fun w => ?_⟩
      · rw [e, hd, h]
        simp only
        rw [if_neg q]
        simp [Question.forced, World.drew_is_drewN]
      · show (Ieee.double.order _ _ == _) = _
        unfold Format.order wT
        rw [h]
        cases Ieee.double.read _ <;> rfl
set_option maxRecDepth 100000 in
theorem trunc_w (y : Nat) (w : World) : Calls Try.prog 179 #[.float .f64 y] w fun e w' => ∃ z q, e = .returned (.float .f64 z) ∧ w' = w.drewN q ∧ (FloatKind.f64.format.order y z == some .eq) = wT y := by
  obtain ⟨f, hf, ho⟩ := toIntegral_w y
  have hT0 : ∀ w, (callFunc 182 #[.float .f64 y]).run Try.prog w = .ok (.value (.float .f64 (f w).1)) (w.drewN (f w).2) := fun w => by
    rw [run_callFunc_extern (e := Extern.MathFloor.toIntegral "math.archTrunc" .zero) Try.func182 (by kernel_rfl) (by kernel_rfl) (by kernel_rfl) (by rfl)]
    rw [hf]
    rfl
  clear hf
  go_enter Try.func179, Try.ntmps179
  go_wp2
  go_ret
  exact ⟨_, _, rfl, rfl, ho _⟩
set_option maxRecDepth 100000 in
theorem abs_w (y : Nat) (w : World) (hy : y < 2 ^ 64) : Calls Try.prog 175 #[.float .f64 y] w fun e w' => e = .returned (.float .f64 (y % 2 ^ 63)) ∧ w = w' := by
  have hT0 : ∀ (x : Nat) w, (callFunc 170 #[.float .f64 x]).run Try.prog w = .ok (.value (.int .u64 x)) w := fun x w => by
    rw [run_callFunc_extern (e := Extern.MathFloatBits.float64bits) Try.func170 (by kernel_rfl) (by kernel_rfl) (by kernel_rfl) (by rfl)]
    rfl
  have hT1 : ∀ (x : Int) w, (callFunc 181 #[.int .u64 x]).run Try.prog w = .ok (.value (.float .f64 x.toNat)) w := fun x w => by
    rw [run_callFunc_extern (e := Extern.MathFloatBits.float64frombits) Try.func181 (by kernel_rfl) (by kernel_rfl) (by kernel_rfl) (by rfl)]
    rfl
  have HW := Lib.hid (andNot_mod (a := y) (by omega))
  clear hy
  go_enter Try.func175, Try.ntmps175
  go_wp2
  go_ret
  exact ⟨by show Ending.returned (Value.float .f64 (bits .andNot .u64 (y : Int) 9223372036854775808).toNat) = _; rw [HW.out], rfl⟩
set_option maxRecDepth 100000 in
theorem isInf_w (y : Nat) (w : World) (hy : y < 2 ^ 64) : Calls Try.prog 180 #[.float .f64 y, .int .i64 0] w fun e w' => e = .returned (.bool (gM y 9218868437227405311)) ∧ w = w' := by
  have K := Lib.hid (fun W => abs_w y W hy)
  have HG := Lib.hid (show gM y 9218868437227405311 = (FloatKind.f64.format.order (y % 2 ^ 63) 9218868437227405311 == some .gt) from rfl)
  clear hy
  generalize y % 2 ^ 63 = a at *
  go_enter Try.func180, Try.ntmps180
  go_wp2_with fail
  refine (K.out _).mono ?_
  rintro e w' ⟨rfl, rfl⟩
  go_wp2
  go_ret
  exact ⟨by rw [HG.out]; rfl, rfl⟩
set_option maxRecDepth 100000 in
theorem kIsWhole_w (y : Nat) (w : World) (hy : y < 2 ^ 64) : Calls Try.prog 174 #[.float .f64 y] w fun e w' => e = .returned (.bool (wY y)) ∧ ∃ q, w' = w.drewN q := by
  have K1 := Lib.hid (fun W => trunc_w y W)
  have K2 := Lib.hid (fun W => isInf_w y W hy)
  have HY := Lib.hid (show wY y = (wT y && !gM y 9218868437227405311) from rfl)
  clear hy
  generalize gM y 9218868437227405311 = g at *
  generalize wY y = r at *
  cases ht : wT y with
  | true =>
    rw [ht] at K1 HY
    clear ht
    have HR := Lib.hid (show r = !g by rw [HY.out, Bool.true_and])
    clear HY
    go_enter Try.func174, Try.ntmps174
    go_wp2_with fail
    refine (K1.out _).mono ?_
    rintro e w' ⟨z, q, rfl, rfl, ho⟩
    go_wp2_with fail
    refine (K2.out _).mono ?_
    rintro e w' ⟨rfl, rfl⟩
    go_wp2
    go_ret
    exact ⟨by rw [HR.out]; try rfl, _, rfl⟩
  | false =>
    rw [ht] at K1 HY
    clear ht
    have HR := Lib.hid (show r = false by rw [HY.out, Bool.false_and])
    clear HY
    go_enter Try.func174, Try.ntmps174
    go_wp2_with fail
    refine (K1.out _).mono ?_
    rintro e w' ⟨z, q, rfl, rfl, ho⟩
    go_wp2
    go_ret
    exact ⟨by rw [HR.out]; try rfl, _, rfl⟩
set_option maxRecDepth 100000 in
theorem sampleError_w (y : Nat) (w : World) (hy : y < 2 ^ 64) : Calls Try.prog 158 #[.float .f64 y] w fun e w' => e = .returned (.int .i64 (eD y)) ∧ ∃ q, w' = w.drewN q := by
  have K1 := Lib.hid (fun W => kIsWhole_w y W hy)
  have K3 := Lib.hid (fun W => abs_w y W hy)
  have hE : eD y = if wY y then (if (FloatKind.f64.format.order (y % 2 ^ 63) 4656717616654581760 == some .gt) then 2 else 0) else 25 := rfl
  clear hy
  generalize y % 2 ^ 63 = a at *
  generalize eD y = r at *
  cases hw : wY y with
  | false =>
    rw [hw] at K1 hE
    have HE := Lib.hid hE
    clear hE hw K3
    go_enter Try.func158, Try.ntmps158
    go_wp2_with fail
    refine (K1.out _).mono ?_
    rintro e w' ⟨rfl, q, rfl⟩
    go_wp2
    go_ret
    exact ⟨ri HE.out.symm, _, rfl⟩
  | true =>
    rw [hw] at K1 hE
    clear hw
    cases hg : (FloatKind.f64.format.order a 4656717616654581760 == some .gt) with
    | true =>
      rw [hg] at hE
      have HE := Lib.hid hE
      clear hE
      go_enter Try.func158, Try.ntmps158
      go_wp2_with fail
      refine (K1.out _).mono ?_
      rintro e w' ⟨rfl, q, rfl⟩
      go_wp2_with fail
      refine (K3.out _).mono ?_
      rintro e w' ⟨rfl, rfl⟩
      go_wp2
      go_ret
      exact ⟨ri HE.out.symm, _, rfl⟩
    | false =>
      rw [hg] at hE
      have HE := Lib.hid hE
      clear hE
      go_enter Try.func158, Try.ntmps158
      go_wp2_with fail
      refine (K1.out _).mono ?_
      rintro e w' ⟨rfl, q, rfl⟩
      go_wp2_with fail
      refine (K3.out _).mono ?_
      rintro e w' ⟨rfl, rfl⟩
      go_wp2
      go_ret
      exact ⟨ri HE.out.symm, _, rfl⟩
/-- the error of a single -/
def eS (x : Nat) : Int := match Ieee.single.read x with
  | .number _ m e => if mg m e % Z = 0 then (if mg m e ≤ 2047 * Z then 0 else 2) else 25
  | _ => 25
theorem isD_nat (n : Nat) (h : n < 2 ^ 53) : IsD (Ieee.double.nearest false n 0) false (n * Z) := by
  have := isD_nearest false h 0 0 (by decide) (by decide) (by decide)
  rw [Nat.pow_zero, Nat.mul_one, show (0 : Int) + ((0 : Nat) : Int) = 0 from rfl] at this
  exact this
theorem isD_2047 : IsD 4656717616654581760 false (2047 * Z) := by
  have := isD_nat 2047 (by decide)
  rwa [show Ieee.double.nearest false 2047 0 = 4656717616654581760 by decide +kernel] at this
theorem isD_max : IsD 9218868437227405311 false (mg 9007199254740991 971) := isD_read read_max
theorem mg_le_max {m : Nat} {e : Int} (h : m < 2 ^ 53) (h2 : e ≤ 971) : mg m e ≤ mg 9007199254740991 971 := by
  unfold mg
  exact Nat.mul_le_mul (by omega) (Nat.pow_le_pow_right (by decide) (by omega))
theorem eD_DD {x y : Nat} (h : DD x y) : eD y = eS x := by
  obtain ⟨hy, h⟩ := h
  unfold eD eS
  cases hx : Ieee.single.read x with
  | number s m e =>
    rw [hx] at h
    simp only at h ⊢
    have ha := h.abs
    obtain ⟨m', e', r, b1, b2, b3, v⟩ := h
    have i1 : gM y 9218868437227405311 = false := by
      unfold gM
      rw [ha.order isD_max, beq_cmp_gt]
      have := mg_le_max b1 b3
      rw [v] at this
      exact decide_eq_false (by unfold sg; simp only [Bool.false_eq_true, if_false]; omega)
    have i2 : gM y 4656717616654581760 = decide (2047 * Z < mg m e) := by
      unfold gM
      rw [ha.order isD_2047, beq_cmp_gt]
      unfold sg
      simp only [Bool.false_eq_true, if_false]
      exact decide_eq_decide.2 (by omega)
    have i3 : wY y = (mg m e % Z == 0) := by
      unfold wY wT
      rw [i1, r]
      simp only
      rw [v, Bool.not_false, Bool.and_true]
    rw [i2, i3]
    generalize mg m e % Z = t
    generalize mg m e = M
    generalize 2047 * Z = B
    by_cases c : t = 0
    · rw [if_pos (beq_iff_eq.2 c), if_pos c]
      by_cases d : M ≤ B
      · rw [if_pos d, if_neg (by rw [decide_eq_true_eq]; omega)]
      · rw [if_neg d, if_pos (by rw [decide_eq_true_eq]; omega)]
    · rw [if_neg (by rw [beq_iff_eq]; exact c), if_neg c]
  | infinity s =>
    rw [hx] at h
    simp only at h ⊢
    have i1 : gM y 9218868437227405311 = true := by
      unfold gM
      show (Ieee.double.order _ _ == _) = _
      unfold Format.order
      rw [read_abs, h, read_max]
      rfl
    rw [if_neg]
    unfold wY
    rw [i1, Bool.not_true, Bool.and_false]
    decide
  | nan s t =>
    rw [hx] at h
    simp only at h ⊢
    rw [if_neg]
    unfold wY wT
    cases hr : Ieee.double.read y with
    | nan _ _ => simp
    | number _ _ _ => rw [hr] at h; cases h
    | infinity _ => rw [hr] at h; cases h
/-- the first number below n with an error -/
def fE (e : Nat → Int) : Nat → Option Nat
  | 0 => none
  | n + 1 => match fE e n with
    | some k => some k
    | none => if e n = 0 then none else some n
theorem fE_none (e : Nat → Int) : ∀ n, fE e n = none ↔ ∀ k, k < n → e k = 0
  | 0 => by simp [fE]
  | n + 1 => by
    have ih := fE_none e n
    unfold fE
    cases h : fE e n with
    | some j =>
      simp only [reduceCtorEq, false_iff]
      intro hh
      rw [ih.2 (fun k hk => hh k (by omega))] at h
      cases h
    | none =>
      simp only
      have ih' := ih.1 h
      by_cases c : e n = 0
      · rw [if_pos c]
        simp only [true_iff]
        intro k hk
        by_cases d : k = n
        · rw [d]; exact c
        · exact ih' k (by omega)
      · rw [if_neg c]
        simp only [reduceCtorEq, false_iff]
        intro hh
        exact c (hh n (by omega))
theorem fE_stay (e : Nat → Int) {k j : Nat} (h : fE e j = some k) : ∀ n, fE e (j + n) = some k
  | 0 => h
  | n + 1 => by
    show (match fE e (j + n) with | some k => some k | none => _) = _
    rw [fE_stay e h n]
/-- the number of the first error, and it -/
def nE (e : Nat → Int) (n : Nat) : Int := match fE e n with | some k => (k : Int) | none => 0
def vE (e : Nat → Int) (n : Nat) : Int := match fE e n with | some k => e k | none => 0
theorem fE_at (e : Nat → Int) {k n : Nat} (h : fE e k = none) (hk : k < n) (hz : ¬ e k = 0) : nE e n = k ∧ vE e n = e k := by
  have h1 : fE e (k + 1) = some k := by show (match fE e k with | some k => some k | none => _) = _; rw [h]; simp only; rw [if_neg hz]
  have h2 := fE_stay e h1 (n - (k + 1))
  rw [show k + 1 + (n - (k + 1)) = n by omega] at h2
  unfold nE vE
  rw [h2]
  exact ⟨rfl, rfl⟩
theorem fE_next (e : Nat → Int) {k : Nat} (h : fE e k = none) (hz : e k = 0) : fE e (k + 1) = none := by
  show (match fE e k with | some k => some k | none => _) = _
  rw [h]; simp only; rw [if_pos hz]
set_option maxRecDepth 100000 in
set_option maxHeartbeats 1000000 in
theorem samplesError_w (u : Nat → Nat) (p : Option Addr) (g n cap : Nat) (w : World) (hn : n ≤ 20000) (hc : n ≤ cap ∧ cap ≤ maxLen) (hp : 0 < n → p = some ⟨g, 0, none⟩) (hx : Hid (∀ k, k < n → u k < 2 ^ 32)) (hcell : Hid (∀ k, k < n → w.cell? ⟨g, k, none⟩ = some (.float .f32 (u k)))) :
    Calls Try.prog 96 #[.slice p n cap] w fun e w' => e = .returned (.tuple #[.int .i64 (nE (fun k => eS (u k)) n), .int .i64 (vE (fun k => eS (u k)) n)]) ∧ ∃ q, w' = w.drewN q := by
  have hmax := hc.2
  unfold maxLen at hmax
  go_enter Try.func96, Try.ntmps96
  go_wp2
  go_loopw [9] (fun i wr => ∃ k q : Nat, k ≤ n ∧ fE (fun k => eS (u k)) k = none ∧ i = .int .i64 (k : Int) ∧ wr = w.drewN q) (fun i _ => n - (intOf i).toNat)
  case atStart => exact ⟨0, 0, Nat.zero_le _, rfl, rfl, rfl⟩
  case round =>
    obtain ⟨k, q, hk, hfw, rfl, rfl⟩ := hrel
    have HFW := Lib.hid hfw
    clear hfw
    by_cases hlt : k < n
    · obtain rfl := hp (by omega)
      have hc0 := hcell.out k hlt
      obtain ⟨f, hcv, hD⟩ := conv_w (u k) (hx.out k hlt)
      have K := Lib.hid (fun W W' => sampleError_w (f W).1 W' (hD W).1)
      have HED := Lib.hid (fun W => eD_DD (hD W))
      clear hD
      generalize hz : u k = a at *
      have e0 : (0 : Int) ≤ (k : Int) := by omega
      have e1 : (k : Int) < (n : Int) := by omega
      by_cases hg : eS a = 0
      · have HW := Lib.hid (fE_next (fun k => eS (u k)) HFW.out (by show eS (u k) = 0; rw [hz]; exact hg))
        have KK := Lib.hid (fun W W' => by have := K.out W W'; rw [HED.out W, hg] at this; exact this)
        clear hg K HED hz
        go_wp2_with fail
        refine (KK.out _ _).mono ?_
        rintro e w' ⟨rfl, q', rfl⟩
        go_wp2
        go_roundw
        case rel => exact ⟨k + 1, _, by omega, HW.out, by go_num, rfl⟩
        case measure => simp [intOf]; omega
      · have HN := Lib.hid (fE_at (fun k => eS (u k)) HFW.out hlt (by show ¬ eS (u k) = 0; rw [hz]; exact hg))
        have KK := Lib.hid (fun W W' => by have := K.out W W'; rw [HED.out W] at this; exact this)
        have HV := Lib.hid (show eS (u k) = eS a by rw [hz])
        clear K HED hz
        generalize eS a = v at *
        go_wp2_with fail
        refine (KK.out _ _).mono ?_
        rintro e w' ⟨rfl, q', rfl⟩
        go_wp2
        go_ret2
        exact ⟨by rw [HN.out.1, HN.out.2]; simp only; rw [HV.out]; rfl, _, rfl⟩
    · have e1 : ¬ (k : Int) < (n : Int) := by omega
      obtain rfl : k = n := by omega
      have HN := Lib.hid (show nE (fun k => eS (u k)) k = 0 by unfold nE; rw [HFW.out])
      have HE := Lib.hid (show vE (fun k => eS (u k)) k = 0 by unfold vE; rw [HFW.out])
      go_wp2
      go_ret2
      exact ⟨by rw [HN.out, HE.out]; rfl, _, rfl⟩
end Go.Proofs.Ythgnemkfaiejbaa
