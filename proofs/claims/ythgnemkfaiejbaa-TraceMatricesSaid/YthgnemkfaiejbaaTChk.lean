/-
  CHECKS OF TRACES, as the reference tells them: traces of whole numbers.
-/
import Derived.Test.YthgnemkfaiejbaaTErr
set_option linter.unusedVariables false
set_option linter.unusedSimpArgs false
namespace Go.Proofs.Ythgnemkfaiejbaa
open Go.RowKit

set_option exponentiation.threshold 2000 in
theorem order_big {n : Int} (h : n.natAbs < 2 ^ 53) {c : Nat} {s : Bool} {M : Nat} {e : Nat} (hc : Ieee.double.read c = .number s M (e : Int)) : FloatKind.f64.format.order (wd Ieee.double n) c = some (compare n ((if s then -(M : Int) else (M : Int)) * ((2 ^ e : Nat) : Int))) := by
  obtain ⟨j, hj⟩ := read_wd fine_double h
  show Ieee.double.order _ _ = _
  unfold Ieee.Format.order
  rw [hj, hc]
  unfold Ieee.Datum.order
  have em : min (-(j : Int)) (e : Int) = -(j : Int) := by omega
  simp only [em]
  rw [show (-(j : Int) - -(j : Int)).toNat = 0 by omega, show ((e : Int) - -(j : Int)).toNat = e + j by omega]
  rw [signed_rep (abs_rep n j) 0, Nat.add_zero]
  have e2 : Ieee.signed s M (e + j) = (if s then -(M : Int) else (M : Int)) * ((2 ^ e : Nat) : Int) * ((2 ^ j : Nat) : Int) := by
    unfold Ieee.signed
    rw [Nat.shiftLeft_eq, Nat.pow_add, Int.natCast_mul, Int.natCast_mul, Int.mul_assoc]
    cases s
    · simp
    · simp [Int.neg_mul]
  rw [e2]
  generalize (if s then -(M : Int) else (M : Int)) * ((2 ^ e : Nat) : Int) = B
  congr 1
  have p : (0 : Int) < ((2 ^ j : Nat) : Int) := by have := Nat.two_pow_pos j; omega
  generalize ((2 ^ j : Nat) : Int) = P at *
  rcases Int.lt_trichotomy n B with c | c | c
  · have : n * P < B * P := Int.mul_lt_mul_of_pos_right c p
    rw [Int.compare_eq_lt.2 c, Int.compare_eq_lt.2 this]
  · subst c; rw [Int.compare_eq_eq.2 rfl, Int.compare_eq_eq.2 rfl]
  · have : B * P < n * P := Int.mul_lt_mul_of_pos_right c p
    rw [Int.compare_eq_gt.2 c, Int.compare_eq_gt.2 this]
theorem read_lo : Ieee.double.read 14069741636278059008 = .number true 5000000000000000 (1 : Nat) := by decide +kernel
theorem read_hi : Ieee.double.read 4846369599423283200 = .number false 5000000000000000 (1 : Nat) := by decide +kernel
theorem order_lo {n : Int} (h : n.natAbs < 2 ^ 24) : FloatKind.f64.format.order (wd Ieee.double n) 14069741636278059008 = some .gt := by
  rw [order_big (by omega) read_lo, Int.compare_eq_gt.2 (by simp; omega)]
theorem order_hi {n : Int} (h : n.natAbs < 2 ^ 24) : FloatKind.f64.format.order (wd Ieee.double n) 4846369599423283200 = some .lt := by
  rw [order_big (by omega) read_hi, Int.compare_eq_lt.2 (by simp; omega)]
theorem same_order64 {n : Int} (h : n.natAbs < 2 ^ 53) : FloatKind.f64.format.order (wd Ieee.double n) (wd Ieee.double n) = some .eq := by
  have := order_wd fine_double h h
  rw [Int.compare_eq_eq.2 rfl] at this
  exact this
theorem run_int64 (n : Int) (w : World) (h : n.natAbs < 2 ^ 24) : (convert 201 3 (.float .f64 (wd Ieee.double n))).run Try.prog w = .ok (.int .i64 n) w := by
  refine run_convert_float_int w _ _ _ _ _ _ (by rw [Try.underlying201]; rfl) Try.underlying3 ?_
  have e : (FloatKind.f64.decode (wd Ieee.double n)).toInt .zero = some n := toInt_wd fine_double .zero (by show _ < 2 ^ 53; omega)
  unfold floatToIntVal
  rw [e]
  have : n.natAbs < 16777216 := h
  show (if _ then _ else _) = _
  rw [if_pos]
  exact ⟨by show (-9223372036854775808 : Int) ≤ n; omega, by show n ≤ (9223372036854775807 : Int); omega⟩
theorem run_float64 (n : Int) (w : World) : (convert 3 201 (.int .i64 n)).run Try.prog w = .ok (.float .f64 (wd Ieee.double n)) w :=
  run_convert_int_float w _ _ _ _ _ (by rw [Try.underlying3]; rfl) Try.underlying201
theorem sub_same (n : Int) (w : World) (h : n.natAbs < 2 ^ 24) : (binOp .sub 201 (.float .f64 (wd Ieee.double n)) (.float .f64 (wd Ieee.double n))).run Try.prog w = .ok (.float .f64 0) w :=
  run_float_arith w .sub _ .f64 _ _ _ (by
    have := sub_wd fine_double (a := n) (b := n) (by show _ < 2 ^ 53; omega) (by show _ < 2 ^ 53; omega) (by rw [Int.sub_self]; decide)
    rw [Int.sub_self] at this
    exact this.trans (congrArg some (by decide +kernel)))
set_option maxRecDepth 100000 in
set_option maxHeartbeats 1000000 in
theorem isWhole_ok (n : Int) (w : World) (hn : n.natAbs < 2 ^ 24) : Calls Try.prog 176 #[.float .f64 (wd Ieee.double n)] w fun e w' => e = .returned (.bool true) ∧ w = w' := by
  have o1 := same_order64 (n := n) (by omega)
  have o2 := order_lo hn
  have o3 := order_hi hn
  have o4 : FloatKind.f64.format.order 0 0 = some .eq := by decide +kernel
  have c1 : ∀ w, _ := fun w => run_int64 n w hn
  have c2 : ∀ w, _ := fun w => run_float64 n w
  have s1 : ∀ w, _ := fun w => sub_same n w hn
  clear hn
  generalize wd Ieee.double n = x at *
  go_enter Try.func176, Try.ntmps176
  go_wp2
  go_ret
  exact ⟨rfl, rfl⟩
set_option maxRecDepth 100000 in
set_option maxHeartbeats 1000000 in
theorem sampleErrR_any (n : Int) (w : World) (hn : n.natAbs < 2 ^ 24) : Calls Try.prog 159 #[f32 n] w fun e w' => e = .returned (.int .i64 (sE n)) ∧ w = w' := by
  have K := Lib.hid (fun W => isWhole_ok n W hn)
  have cv : ∀ w, _ := fun w => run_conv32 n w hn
  have o1 : FloatKind.f32.format.order (wd Ieee.single n) 3305103360 = some (compare n (-2047)) := by
    have := order_wd fine_single (a := n) (b := -2047) hn (by decide)
    rw [show wd Ieee.single (-2047) = 3305103360 by decide +kernel] at this
    exact this
  have o2 : FloatKind.f32.format.order (wd Ieee.single n) 1157619712 = some (compare n 2047) := by
    have := order_wd fine_single (a := n) (b := 2047) hn (by decide)
    rw [show wd Ieee.single 2047 = 1157619712 by decide +kernel] at this
    exact this
  unfold f32
  by_cases h1 : n < -2047
  · have HE := Lib.hid (show sE n = 2 by unfold sE; rw [if_neg (by omega)])
    rw [Int.compare_eq_lt.2 h1] at o1
    clear hn h1 o2
    generalize wd Ieee.single n = x at *
    generalize wd Ieee.double n = y at *
    go_enter Try.func159, Try.ntmps159
    go_wp2_with (go_at_call 176; refine (K.out _).mono ?_; rintro e w' ⟨rfl, rfl⟩)
    go_ret
    exact ⟨ri HE.out.symm, rfl⟩
  · by_cases h2 : 2047 < n
    · have HE := Lib.hid (show sE n = 2 by unfold sE; rw [if_neg (by omega)])
      have o1' : (FloatKind.f32.format.order (wd Ieee.single n) 3305103360 == some .lt) = false := by
        rw [o1, Int.compare_eq_gt.2 (by omega)]; rfl
      rw [Int.compare_eq_gt.2 h2] at o2
      clear hn h1 h2 o1
      generalize wd Ieee.single n = x at *
      generalize wd Ieee.double n = y at *
      go_enter Try.func159, Try.ntmps159
      go_wp2_with (go_at_call 176; refine (K.out _).mono ?_; rintro e w' ⟨rfl, rfl⟩)
      go_ret
      exact ⟨ri HE.out.symm, rfl⟩
    · have HE := Lib.hid (show sE n = 0 by unfold sE; rw [if_pos (by omega)])
      have o1' : (FloatKind.f32.format.order (wd Ieee.single n) 3305103360 == some .lt) = false := by
        rw [o1]
        cases hh : compare n (-2047)
        · exact absurd (Int.compare_eq_lt.1 hh) h1
        · rfl
        · rfl
      have o2' : (FloatKind.f32.format.order (wd Ieee.single n) 1157619712 == some .gt) = false := by
        rw [o2]
        cases hh : compare n 2047
        · rfl
        · rfl
        · exact absurd (Int.compare_eq_gt.1 hh) (by omega)
      clear hn h1 h2 o1 o2
      generalize wd Ieee.single n = x at *
      generalize wd Ieee.double n = y at *
      go_enter Try.func159, Try.ntmps159
      go_wp2_with (go_at_call 176; refine (K.out _).mono ?_; rintro e w' ⟨rfl, rfl⟩)
      go_ret
      exact ⟨ri HE.out.symm, rfl⟩
set_option maxRecDepth 100000 in
set_option maxHeartbeats 1000000 in
theorem samplesErrR_any (x : Nat → Int) (g n cap : Nat) (w : World) (hn : n ≤ 20000) (hc : n ≤ cap ∧ cap ≤ maxLen) (hx : Hid (∀ k, k < n → (x k).natAbs < 2 ^ 24)) (hcell : Hid (∀ k, k < n → w.cell? ⟨g, k, none⟩ = some (f32 (x k)))) :
    Calls Try.prog 97 #[.slice (some ⟨g, 0, none⟩) n cap] w fun e w' => e = .returned (.tuple #[.int .i64 (tN x n), .int .i64 (tE x n)]) ∧ w = w' := by
  have hmax := hc.2
  unfold maxLen at hmax
  go_enter Try.func97, Try.ntmps97
  go_wp2
  go_loop [4] (fun i => ∃ k : Nat, k ≤ n ∧ fw x k = none ∧ i = .int .i64 (k : Int)) (fun i => n - (intOf i).toNat)
  case atStart => exact ⟨0, Nat.zero_le _, rfl, rfl⟩
  case round =>
    obtain ⟨k, hk, hfw, rfl⟩ := hrel
    have HFW := Lib.hid hfw
    clear hfw
    by_cases hlt : k < n
    · have hc0 := hcell.out k hlt
      have hxk := hx.out k hlt
      have K := Lib.hid (fun W => sampleErrR_any (x k) W hxk)
      unfold f32 at hc0 K
      generalize wd Ieee.single (x k) = a at *
      have e0 : (0 : Int) ≤ (k : Int) := by omega
      have e1 : (k : Int) < (n : Int) := by omega
      by_cases hg : (x k).natAbs ≤ 2047
      · rw [show sE (x k) = 0 by unfold sE; rw [if_pos hg]] at K
        have HW := Lib.hid (show fw x (k + 1) = none by show (match fw x k with | some k => some k | none => _) = _; rw [HFW.out]; simp only; rw [if_pos hg])
        clear hxk hg
        go_wp2_with fail
        refine (K.out _).mono ?_
        rintro e w' ⟨rfl, rfl⟩
        go_wp2
        go_round
        case rel => exact ⟨k + 1, by omega, HW.out, by go_num⟩
        case measure => simp [intOf]; omega
      · rw [show sE (x k) = 2 by unfold sE; rw [if_neg hg]] at K
        have hw1 : fw x (k + 1) = some k := by show (match fw x k with | some k => some k | none => _) = _; rw [HFW.out]; simp only; rw [if_neg hg]
        have hw2 := fw_stay x hw1 (n - (k + 1))
        rw [show k + 1 + (n - (k + 1)) = n by omega] at hw2
        have HN := Lib.hid (show tN x n = (k : Int) by unfold tN; rw [hw2])
        have HE := Lib.hid (show tE x n = 2 by unfold tE; rw [hw2])
        clear hxk hg hw1 hw2
        go_wp2_with fail
        refine (K.out _).mono ?_
        rintro e w' ⟨rfl, rfl⟩
        go_wp2
        go_ret2
        exact ⟨by rw [HN.out, HE.out]; rfl, rfl⟩
    · have e1 : ¬ (k : Int) < (n : Int) := by omega
      obtain rfl : k = n := by omega
      have HN := Lib.hid (show tN x k = 0 by unfold tN; rw [HFW.out])
      have HE := Lib.hid (show tE x k = 0 by unfold tE; rw [HFW.out])
      go_wp2
      go_ret2
      exact ⟨by rw [HN.out, HE.out]; rfl, rfl⟩
set_option maxRecDepth 100000 in
set_option maxHeartbeats 1000000 in
theorem checkTraceR_any (x : Nat → Int) (w : World) (hx : Hid (∀ k, k < 64 → (x k).natAbs < 2 ^ 24)) :
    Calls Try.prog 23 #[.agg (tC x)] w fun e w' => e = .returned (.tuple #[.int .i64 (tN x 64), .int .i64 (tE x 64)]) ∧ Below w.heap.size w w' := by
  have K := Lib.hid (fun W hc => samplesErrR_any x w.heap.size 64 64 W (by omega) ⟨Nat.le_refl _, by unfold maxLen; omega⟩ hx hc)
  go_enter Try.func23, Try.ntmps23
  go_wp2_with fail
  refine (K.out _ (Lib.hid fun k hk => (cell_block (heap_alloc_last w _)).trans (tC_get x hk))).mono ?_
  rintro e w' ⟨rfl, rfl⟩
  go_wp2
  go_ret2
  exact ⟨rfl, by (repeat' (first | (with_reducible exact Below.refl _ _) | (with_reducible assumption) | (with_reducible refine Below.alloc ?_ ?_ _) | (with_reducible refine Below.drew ?_) | (with_reducible refine below_drewN ?_ _) | (with_reducible refine Below.setCell ?_ ?_ _) | (with_reducible refine below_step (by with_reducible assumption) ?_ ?_) | (with_reducible exact Below.size (by with_reducible assumption)) | go_size))⟩
end Go.Proofs.Ythgnemkfaiejbaa
