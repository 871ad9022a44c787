/-
  SAMPLES of any word, as the reference tells them.
-/
import Derived.Test.YthgnemkfaiejbaaTFw
import Derived.Test.YthgnemkfaiejbaaTChk
set_option linter.unusedVariables false
set_option linter.unusedSimpArgs false
set_option exponentiation.threshold 3000
namespace Go.Proofs.Ythgnemkfaiejbaa
open Go.RowKit
open Ieee (Format Datum)

theorem gM_max {y : Nat} {s : Bool} {M : Nat} (h : IsD y s M) : gM y 9218868437227405311 = false := by
  have ha := h.abs
  obtain ⟨m', e', r, b1, b2, b3, v⟩ := h
  unfold gM
  rw [ha.order isD_max, beq_cmp_gt]
  have := mg_le_max b1 b3
  rw [v] at this
  exact decide_eq_false (by unfold sg; simp only [Bool.false_eq_true, if_false]; omega)
theorem wY_num {y : Nat} {s : Bool} {M : Nat} (h : IsD y s M) : wY y = (M % Z == 0) := by
  have i1 := gM_max h
  obtain ⟨m', e', r, b1, b2, b3, v⟩ := h
  unfold wY wT
  rw [i1, r]
  simp only
  rw [v, Bool.not_false, Bool.and_true]
theorem wY_inf {y : Nat} {s : Bool} (h : Ieee.double.read y = .infinity s) : wY y = false := by
  have i1 : gM y 9218868437227405311 = true := by
    unfold gM
    show (Ieee.double.order _ _ == _) = _
    unfold Format.order
    rw [read_abs, h, read_max]
    rfl
  unfold wY
  rw [i1, Bool.not_true, Bool.and_false]
theorem wY_nan {y : Nat} {s : Bool} {t : Nat} (h : Ieee.double.read y = .nan s t) : wY y = false := by
  unfold wY wT
  rw [h]
  rfl
theorem isD_lo : IsD 14069741636278059008 true (10000000000000000 * Z) := by
  have := isD_read (y := 14069741636278059008) (s := true) (m := 5000000000000000) (e := 1) read_lo
  rwa [show mg 5000000000000000 1 = 10000000000000000 * Z by unfold mg Z; decide +kernel] at this
theorem isD_hi : IsD 4846369599423283200 false (10000000000000000 * Z) := by
  have := isD_read (y := 4846369599423283200) (s := false) (m := 5000000000000000) (e := 1) read_hi
  rwa [show mg 5000000000000000 1 = 10000000000000000 * Z by unfold mg Z; decide +kernel] at this
theorem sub_num {y : Nat} {s : Bool} {M : Nat} (h : IsD y s M) (w : World) : (binOp .sub 201 (.float .f64 y) (.float .f64 y)).run Try.prog w = .ok (.float .f64 0) w :=
  run_float_arith w .sub _ .f64 _ _ _ (by
    obtain ⟨m', e', r, b1, b2, b3, v⟩ := h
    show Ieee.double.sub y y = some 0
    unfold Format.sub
    rw [r]
    show (Datum.sum (.number s m' e') (.number (!s) m' e')).map _ = _
    unfold Datum.sum
    simp only
    have e0 : Ieee.signed s m' (e' - min e' e').toNat + Ieee.signed (!s) m' (e' - min e' e').toNat = 0 := by
      unfold Ieee.signed
      cases s <;> simp <;> omega
    rw [e0, if_pos rfl]
    cases s
    · show some (Ieee.double.nearest _ 0 _) = _; rw [nearest_zero]; rfl
    · show some (Ieee.double.nearest _ 0 _) = _; rw [nearest_zero]; rfl)
theorem sub_inf {y : Nat} {s : Bool} (h : Ieee.double.read y = .infinity s) : ∃ f : World → Nat, (∀ w, (binOp .sub 201 (.float .f64 y) (.float .f64 y)).run Try.prog w = .ok (.float .f64 (f w)) w.drew) ∧ ∀ w, FloatKind.f64.format.order (f w) 0 = none := by
  refine ⟨fun w => Question.cut (.nanBits .f64 y y) (w.tape w.drawn (.nanBits .f64 y y)), fun w => ?_, fun w => ?_⟩
  · have e : FloatKind.f64.format.sub y y = none := by
      show Ieee.double.sub y y = none
      unfold Format.sub
      rw [h]
      cases s <;> rfl
    simp [binOp, Op.floatArith, e, Question.forced]
  · have := (read_cut (w.tape w.drawn (.nanBits .f64 y y))).1
    show Ieee.double.order (Question.cut (.nanBits .f64 y y) _) 0 = none
    unfold Format.order
    show Datum.order (Ieee.double.read ((w.tape w.drawn (.nanBits .f64 y y) % 2) * 2 ^ 63 + 0x7ff0000000000000 + 1 + (w.tape w.drawn (.nanBits .f64 y y) / 2) % (2 ^ 52 - 1))) _ = _
    cases hr : Ieee.double.read ((w.tape w.drawn (.nanBits .f64 y y) % 2) * 2 ^ 63 + 0x7ff0000000000000 + 1 + (w.tape w.drawn (.nanBits .f64 y y) / 2) % (2 ^ 52 - 1)) with
    | nan _ _ => rfl
    | number _ _ _ => rw [hr] at this; cases this
    | infinity _ => rw [hr] at this; cases this
theorem wholeR_nan {y : Nat} {s : Bool} {t : Nat} (h : Ieee.double.read y = .nan s t) (w : World) : Calls Try.prog 176 #[.float .f64 y] w fun e w' => e = .returned (.bool false) ∧ ∃ q, w' = w.drewN q := by
  have o1 : FloatKind.f64.format.order y y = none := by show Ieee.double.order y y = none; unfold Format.order; rw [h]; rfl
  clear h
  go_enter Try.func176, Try.ntmps176
  go_wp2
  go_ret
  exact ⟨rfl, 0, rfl⟩
theorem wholeR_inf {y : Nat} {s : Bool} (h : Ieee.double.read y = .infinity s) (w : World) : Calls Try.prog 176 #[.float .f64 y] w fun e w' => e = .returned (.bool false) ∧ ∃ q, w' = w.drewN q := by
  have o1 : FloatKind.f64.format.order y y = some .eq := by show Ieee.double.order y y = _; unfold Format.order; rw [h]; cases s <;> rfl
  obtain ⟨f, hf, ho⟩ := sub_inf h
  clear h
  go_enter Try.func176, Try.ntmps176
  go_wp2
  go_ret
  exact ⟨rfl, 1, rfl⟩
theorem int_num {y : Nat} {s : Bool} {M : Nat} (h : IsD y s M) (hM : M ≤ 10000000000000000 * Z) (w : World) : (convert 201 3 (.float .f64 y)).run Try.prog w = .ok (.int .i64 (sg s (M / Z))) w := by
  refine run_convert_float_int w _ _ _ _ _ _ (by rw [Try.underlying201]; rfl) Try.underlying3 ?_
  obtain ⟨m', e', r, b1, b2, b3, v⟩ := h
  have e : (FloatKind.f64.decode y).toInt .zero = some (sg s (M / Z)) := by
    show (Ieee.double.read y).toInt .zero = _
    rw [r]
    unfold Datum.toInt
    rw [integral_num _ _ (by omega), v]
    show some (Ieee.signed s (M / Z) 0) = _
    unfold Ieee.signed sg
    rw [Nat.shiftLeft_eq, Nat.pow_zero, Nat.mul_one]
  have hq : M / Z ≤ 10000000000000000 := Nat.div_le_of_le_mul (by rw [Nat.mul_comm]; exact hM)
  unfold floatToIntVal
  rw [e]
  show (if _ then _ else _) = _
  rw [if_pos]
  unfold sg
  generalize M / Z = q at *
  constructor
  · show (-9223372036854775808 : Int) ≤ _; split <;> omega
  · show _ ≤ (9223372036854775807 : Int); split <;> omega
theorem back_num {y : Nat} {s : Bool} {M : Nat} (h : IsD y s M) : (FloatKind.f64.format.order (wd Ieee.double (sg s (M / Z))) y == some .eq) = (M % Z == 0) := by
  have h0 := h
  obtain ⟨m', e', r, b1, b2, b3, v⟩ := h
  have hw := isD_whole (decide (sg s (M / Z) < 0)) b1 b2 b3
  rw [v] at hw
  have ea : (sg s (M / Z)).natAbs = M / Z := by unfold sg; generalize M / Z = q; split <;> omega
  have hh : IsD (wd Ieee.double (sg s (M / Z))) (decide (sg s (M / Z) < 0)) (M / Z * Z) := by
    unfold wd; rw [ea]; exact hw
  rw [hh.order h0, beq_cmp_eq, Bool.eq_iff_iff, decide_eq_true_eq, beq_iff_eq, ← whole_iff M]
  have z := Z_pos
  have hm : M / Z * Z ≤ M := Nat.div_mul_le_self _ _
  have hq : M / Z = 0 → M / Z * Z = 0 := fun e => by rw [e, Nat.zero_mul]
  have hq2 : ¬ M / Z = 0 → 0 < M / Z * Z := fun e => Nat.mul_pos (by omega) z
  unfold sg
  generalize M / Z * Z = T at *
  generalize M / Z = q at *
  cases s
  · simp only [Bool.false_eq_true, if_false]
    rw [decide_eq_false (by omega)]
    simp only [Bool.false_eq_true, if_false]
    omega
  · simp only [if_true]
    by_cases c : q = 0
    · rw [decide_eq_false (by omega)]
      simp only [Bool.false_eq_true, if_false]
      have := hq c
      omega
    · rw [decide_eq_true (by omega)]
      simp only [if_true]
      omega
set_option maxRecDepth 100000 in
set_option maxHeartbeats 1000000 in
theorem wholeR_num {y : Nat} {s : Bool} {M : Nat} (h : IsD y s M) (w : World) : Calls Try.prog 176 #[.float .f64 y] w fun e w' => e = .returned (.bool (M % Z == 0)) ∧ ∃ q, w' = w.drewN q := by
  have o1 : FloatKind.f64.format.order y y = some .eq := by rw [h.order h, Int.compare_eq_eq.2 rfl]
  have o4 : FloatKind.f64.format.order 0 0 = some .eq := by decide +kernel
  have s1 : ∀ w, _ := fun w => sub_num h w
  have o2 := h.order isD_lo
  have o3 := h.order isD_hi
  have hbig : 10000000000000000 * Z < M → (M % Z == 0) = true := by
    intro hb
    obtain ⟨m', e', r, b1, b2, b3, v⟩ := h
    rw [← v] at hb ⊢
    rw [big_whole b1 b2 hb]; rfl
  by_cases hM : M ≤ 10000000000000000 * Z
  · have c1 : ∀ w, _ := fun w => int_num h hM w
    have c2 : ∀ w, _ := fun w => run_float64 (sg s (M / Z)) w
    have ob := back_num h
    have zp := Z_pos
    have k1 : compare (sg s M) (sg true (10000000000000000 * Z)) = .gt ∨ compare (sg s M) (sg true (10000000000000000 * Z)) = .eq := by
      rcases hc : compare (sg s M) (sg true (10000000000000000 * Z)) with _ | _ | _
      · exfalso
        have := Int.compare_eq_lt.1 hc
        unfold sg at this
        simp only [if_true] at this
        split at this <;> omega
      · exact .inr rfl
      · exact .inl rfl
    have k2 : compare (sg s M) (sg false (10000000000000000 * Z)) = .lt ∨ compare (sg s M) (sg false (10000000000000000 * Z)) = .eq := by
      rcases hc : compare (sg s M) (sg false (10000000000000000 * Z)) with _ | _ | _
      · exact .inl rfl
      · exact .inr rfl
      · exfalso
        have := Int.compare_eq_gt.1 hc
        unfold sg at this
        simp only [Bool.false_eq_true, if_false] at this
        split at this <;> omega
    clear hbig h hM zp
    generalize sg s (M / Z) = n at *
    generalize wd Ieee.double n = v at *
    generalize (M % Z == 0) = r at *
    generalize compare (sg s M) (sg true (10000000000000000 * Z)) = A at *
    generalize compare (sg s M) (sg false (10000000000000000 * Z)) = B at *
    rcases k1 with rfl | rfl <;> rcases k2 with rfl | rfl
    all_goals
      go_enter Try.func176, Try.ntmps176
      go_wp2
      go_ret
      exact ⟨by rw [← ob]; rfl, 0, rfl⟩
  · have hr := hbig (by omega)
    rw [hr]
    have zp := Z_pos
    clear hbig hr
    cases s
    · have k1 : compare (sg false M) (sg true (10000000000000000 * Z)) = .gt := Int.compare_eq_gt.2 (by unfold sg; simp only [if_true, Bool.false_eq_true, if_false]; omega)
      have k2 : compare (sg false M) (sg false (10000000000000000 * Z)) = .gt := Int.compare_eq_gt.2 (by unfold sg; simp only [if_true, Bool.false_eq_true, if_false]; omega)
      rw [k1] at o2
      rw [k2] at o3
      clear h hM zp k1 k2
      go_enter Try.func176, Try.ntmps176
      go_wp2
      go_ret
      exact ⟨rfl, 0, rfl⟩
    · have k1 : compare (sg true M) (sg true (10000000000000000 * Z)) = .lt := Int.compare_eq_lt.2 (by unfold sg; simp only [if_true, Bool.false_eq_true, if_false]; omega)
      rw [k1] at o2
      clear h hM zp k1 o3
      go_enter Try.func176, Try.ntmps176
      go_wp2
      go_ret
      exact ⟨rfl, 0, rfl⟩
theorem wholeR_w {x y : Nat} (h : DD x y) (w : World) : Calls Try.prog 176 #[.float .f64 y] w fun e w' => e = .returned (.bool (wY y)) ∧ ∃ q, w' = w.drewN q := by
  cases hr : Ieee.double.read y with
  | number s m e => rw [wY_num (isD_read hr)]; exact wholeR_num (isD_read hr) w
  | infinity s => rw [wY_inf hr]; exact wholeR_inf hr w
  | nan s t => rw [wY_nan hr]; exact wholeR_nan hr w
theorem order_single {x c : Nat} {s t : Bool} {m n : Nat} {e f : Int} (h : Ieee.single.read x = .number s m e) (hc : Ieee.single.read c = .number t n f) : FloatKind.f32.format.order x c = some (compare (sg s (mg m e)) (sg t (mg n f))) := by
  show Ieee.single.order x c = _
  unfold Format.order
  rw [h, hc, order_mg _ _ _ _ _ _ (by have := single_bd h; omega) (by have := single_bd hc; omega)]
theorem mg_2047 : mg 16769024 (-13) = 2047 * Z := by unfold mg Z; decide +kernel
set_option maxRecDepth 100000 in
set_option maxHeartbeats 1000000 in
theorem sampleErrR_w (x : Nat) (w : World) (hx : x < 2 ^ 32) : Calls Try.prog 159 #[.float .f32 x] w fun e w' => e = .returned (.int .i64 (eS x)) ∧ ∃ q, w' = w.drewN q := by
  obtain ⟨f, hcv, hD⟩ := conv_w x hx
  have K := Lib.hid (fun W W' => wholeR_w (hD W) W')
  by_cases hn : ∃ s m e, Ieee.single.read x = .number s m e ∧ mg m e % Z = 0
  · obtain ⟨s, m, e, hr, hz⟩ := hn
    have HY : ∀ W, wY (f W).1 = true := fun W => by
      have h := (hD W).2
      rw [hr] at h
      rw [wY_num h, hz]; rfl
    have hE : eS x = if mg m e ≤ 2047 * Z then 0 else 2 := by
      unfold eS
      rw [hr]
      simp only
      rw [if_pos hz]
    have o1 := order_single hr (show Ieee.single.read 3305103360 = .number true 16769024 (-13) by decide +kernel)
    have o2 := order_single hr (show Ieee.single.read 1157619712 = .number false 16769024 (-13) by decide +kernel)
    rw [mg_2047] at o1 o2
    have KK := Lib.hid (fun W W' => by have := K.out W W'; rw [HY W] at this; exact this)
    clear K hD HY hz hr hx
    generalize eS x = v at *
    have zp := Z_pos
    generalize 2047 * Z = B at *
    generalize mg m e = M at *
    have p1 : (FloatKind.f32.format.order x 3305103360 == some .lt) = decide (sg s M < sg true B) := by rw [o1, beq_cmp_lt]
    have p2 : (FloatKind.f32.format.order x 1157619712 == some .gt) = decide (sg false B < sg s M) := by rw [o2, beq_cmp_gt]
    clear o1 o2
    by_cases c : M ≤ B
    · rw [if_pos c] at hE
      have HE := Lib.hid hE
      rw [decide_eq_false (by unfold sg; simp only [if_true]; split <;> omega)] at p1
      rw [decide_eq_false (by unfold sg; simp only [Bool.false_eq_true, if_false]; split <;> omega)] at p2
      clear hE c zp
      go_enter Try.func159, Try.ntmps159
      go_wp2_with fail
      refine (KK.out _ _).mono ?_
      rintro e w' ⟨rfl, q, rfl⟩
      go_wp2
      go_ret
      exact ⟨ri HE.out.symm, _, rfl⟩
    · rw [if_neg c] at hE
      have HE := Lib.hid hE
      cases s
      · rw [decide_eq_false (by unfold sg; simp only [Bool.false_eq_true, if_false, if_true]; omega)] at p1
        rw [decide_eq_true (by unfold sg; simp only [Bool.false_eq_true, if_false]; omega)] at p2
        clear hE c zp
        go_enter Try.func159, Try.ntmps159
        go_wp2_with fail
        refine (KK.out _ _).mono ?_
        rintro e w' ⟨rfl, q, rfl⟩
        go_wp2
        go_ret
        exact ⟨ri HE.out.symm, _, rfl⟩
      · rw [decide_eq_true (by unfold sg; simp only [if_true]; omega)] at p1
        clear hE c zp p2
        go_enter Try.func159, Try.ntmps159
        go_wp2_with fail
        refine (KK.out _ _).mono ?_
        rintro e w' ⟨rfl, q, rfl⟩
        go_wp2
        go_ret
        exact ⟨ri HE.out.symm, _, rfl⟩
  · have HY : ∀ W, wY (f W).1 = false := fun W => by
      have h := (hD W).2
      cases hr : Ieee.single.read x with
      | number s m e =>
        rw [hr] at h
        rw [wY_num h, Bool.eq_false_iff, Ne, beq_iff_eq]
        exact fun hz => hn ⟨s, m, e, hr, hz⟩
      | infinity s => rw [hr] at h; exact wY_inf h
      | nan s t =>
        rw [hr] at h
        cases hd : Ieee.double.read (f W).1 with
        | nan _ _ => exact wY_nan hd
        | number _ _ _ => simp only at h; rw [hd] at h; cases h
        | infinity _ => simp only at h; rw [hd] at h; cases h
    have HE := Lib.hid (show eS x = 25 by
      unfold eS
      cases hr : Ieee.single.read x with
      | number s m e => simp only; rw [if_neg (fun hz => hn ⟨s, m, e, hr, hz⟩)]
      | infinity s => rfl
      | nan s t => rfl)
    have KK := Lib.hid (fun W W' => by have := K.out W W'; rw [HY W] at this; exact this)
    clear K hD HY hn hx
    generalize eS x = v at *
    go_enter Try.func159, Try.ntmps159
    go_wp2_with fail
    refine (KK.out _ _).mono ?_
    rintro e w' ⟨rfl, q, rfl⟩
    go_wp2
    go_ret
    exact ⟨ri HE.out.symm, _, rfl⟩
set_option maxRecDepth 100000 in
set_option maxHeartbeats 1000000 in
theorem samplesErrR_w (u : Nat → Nat) (p : Option Addr) (g n cap : Nat) (w : World) (hn : n ≤ 20000) (hc : n ≤ cap ∧ cap ≤ maxLen) (hp : 0 < n → p = some ⟨g, 0, none⟩) (hx : Hid (∀ k, k < n → u k < 2 ^ 32)) (hcell : Hid (∀ k, k < n → w.cell? ⟨g, k, none⟩ = some (.float .f32 (u k)))) :
    Calls Try.prog 97 #[.slice p n cap] w fun e w' => e = .returned (.tuple #[.int .i64 (nE (fun k => eS (u k)) n), .int .i64 (vE (fun k => eS (u k)) n)]) ∧ ∃ q, w' = w.drewN q := by
  have hmax := hc.2
  unfold maxLen at hmax
  go_enter Try.func97, Try.ntmps97
  go_wp2
  go_loopw [4] (fun i wr => ∃ k q : Nat, k ≤ n ∧ fE (fun k => eS (u k)) k = none ∧ i = .int .i64 (k : Int) ∧ wr = w.drewN q) (fun i _ => n - (intOf i).toNat)
  case atStart => exact ⟨0, 0, Nat.zero_le _, rfl, rfl, rfl⟩
  case round =>
    obtain ⟨k, q, hk, hfw, rfl, rfl⟩ := hrel
    have HFW := Lib.hid hfw
    clear hfw
    by_cases hlt : k < n
    · obtain rfl := hp (by omega)
      have hc0 := hcell.out k hlt
      have K := Lib.hid (fun W => sampleErrR_w (u k) W (hx.out k hlt))
      generalize hz : u k = a at *
      have e0 : (0 : Int) ≤ (k : Int) := by omega
      have e1 : (k : Int) < (n : Int) := by omega
      by_cases hg : eS a = 0
      · have HW := Lib.hid (fE_next (fun k => eS (u k)) HFW.out (by show eS (u k) = 0; rw [hz]; exact hg))
        rw [hg] at K
        clear hg hz
        go_wp2_with fail
        refine (K.out _).mono ?_
        rintro e w' ⟨rfl, q', rfl⟩
        go_wp2
        go_roundw
        case rel => exact ⟨k + 1, _, by omega, HW.out, by go_num, rfl⟩
        case measure => simp [intOf]; omega
      · have HN := Lib.hid (fE_at (fun k => eS (u k)) HFW.out hlt (by show ¬ eS (u k) = 0; rw [hz]; exact hg))
        have HV := Lib.hid (show eS (u k) = eS a by rw [hz])
        clear hz
        generalize eS a = v at *
        go_wp2_with fail
        refine (K.out _).mono ?_
        rintro e w' ⟨rfl, q', rfl⟩
        go_wp2
        go_ret2
        exact ⟨by rw [HN.out.1, HN.out.2]; simp only; rw [HV.out]; rfl, _, rfl⟩
    · have e1 : ¬ (k : Int) < (n : Int) := by omega
      obtain rfl : k = n := by omega
      have HN := Lib.hid (show nE (fun k => eS (u k)) k = 0 by unfold nE; rw [HFW.out])
      have HE := Lib.hid (show vE (fun k => eS (u k)) k = 0 by unfold vE; rw [HFW.out])
      go_wp2
      go_ret2
      exact ⟨by rw [HN.out, HE.out]; rfl, _, rfl⟩
end Go.Proofs.Ythgnemkfaiejbaa
