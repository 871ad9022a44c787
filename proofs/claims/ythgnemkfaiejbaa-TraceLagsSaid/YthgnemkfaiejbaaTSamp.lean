/-
  SAMPLES: Trunc, Abs, IsInf at whole numbers; sampleError of package trace.
-/
import Derived.Test.YthgnemkfaiejbaaTScal
import Derived.Test.YthgnemkfaiejbaaTArr
import Derived.Test.YthgnemkfaiejbaaFlo
import Derived.Laws.BitsAllLaws
set_option linter.unusedVariables false
set_option linter.unusedSimpArgs false
namespace Go.Proofs.Ythgnemkfaiejbaa
open Go.RowKit

def f32 (n : Int) : Value := .float .f32 (wd Ieee.single n)
def f64 (n : Int) : Value := .float .f64 (wd Ieee.double n)
theorem toIntegral_wd {P : Program} (name : String) (n : Int) (w : World) (hn : n.natAbs < 2 ^ 53) : (Extern.MathFloor.toIntegral name .zero #[f64 n]).run P w = .ok (f64 n) w := by
  obtain ⟨j, hj⟩ := read_wd fine_double hn
  have e := integral_wd fine_double .zero hn
  have hd : FloatKind.f64.decode (wd Ieee.double n) = .number (decide (n < 0)) (n.natAbs * 2 ^ j) (-(j : Int)) := hj
  rw [hj] at e
  unfold f64
  change Sem.run P (match FloatKind.f64.decode (wd Ieee.double n) with | .nan s t => _ | d => pure (Value.float .f64 (FloatKind.f64.encode (d.integral .zero)))) w = _
  rw [hd]
  show Result.ok (Value.float .f64 (FloatKind.f64.encode _)) w = _
  unfold FloatKind.encode
  rw [show FloatKind.f64.format = Ieee.double from rfl, e]
set_option maxRecDepth 100000 in
theorem trunc_any (n : Int) (w : World) (hn : n.natAbs < 2 ^ 53) : Calls Try.prog 179 #[f64 n] w fun e w' => e = .returned (f64 n) ∧ w = w' := by
  have hT0 : ∀ w, (callFunc 182 #[f64 n]).run Try.prog w = .ok (.value (f64 n)) w := fun w => by
    rw [run_callFunc_extern (e := Extern.MathFloor.toIntegral "math.archTrunc" .zero) Try.func182 (by kernel_rfl) (by kernel_rfl) (by kernel_rfl) (by rfl)]
    rw [toIntegral_wd _ _ _ hn]
    rfl
  clear hn
  unfold f64 at *
  generalize wd Ieee.double n = x at *
  go_enter Try.func179, Try.ntmps179
  go_wp2
  go_ret
  exact ⟨rfl, rfl⟩
theorem wd_size {n : Int} (h : n.natAbs < 2 ^ 53) : wd Ieee.double n % 2 ^ 63 = wd Ieee.double (n.natAbs : Int) ∧ wd Ieee.double n < 2 ^ 64 := by
  have lt : wd Ieee.double n < 2 ^ 64 := Ieee.double.nearest_lt _ _ _
  refine ⟨?_, lt⟩
  have hs : Ieee.double.signWeight = 2 ^ 63 := rfl
  unfold wd
  rw [show decide (((n.natAbs : Nat) : Int) < 0) = false from decide_eq_false (by omega), Int.natAbs_natCast]
  by_cases h0 : n.natAbs = 0
  · rw [h0, nearest_zero, nearest_zero, ← hs]
    exact ((read_word (f := Ieee.double) (decide (n < 0)) (r := 0) (by rw [hs]; decide)).2).trans rfl
  · have a := nearest_scaled fine_double (decide (n < 0)) h h0 0
    have b := nearest_scaled fine_double false h h0 0
    rw [Nat.pow_zero, Nat.mul_one, show (-((0 : Nat) : Int)) = 0 from rfl] at a b
    rw [a, b, ← hs]
    have r := rung_bd fine_double h h0
    have i := Ieee.double.infRung_lt
    exact (read_word (f := Ieee.double) (decide (n < 0)) (by omega)).2
theorem andNot_mod {a : Nat} (ha : a < 18446744073709551616) : (bits .andNot .u64 (a : Int) 9223372036854775808).toNat = a % 2 ^ 63 := by
  have := u64_andNot_nat a 9223372036854775808 ha (by omega)
  rw [show ((9223372036854775808 : Nat) : Int) = 9223372036854775808 from rfl] at this
  rw [this, Int.toNat_natCast, show 18446744073709551615 - 9223372036854775808 = 2 ^ 63 - 1 from rfl, Nat.and_two_pow_sub_one_eq_mod]
set_option maxRecDepth 100000 in
theorem abs_any (n : Int) (w : World) (hn : n.natAbs < 2 ^ 53) : Calls Try.prog 175 #[f64 n] w fun e w' => e = .returned (f64 (n.natAbs : Int)) ∧ w = w' := by
  have hT0 : ∀ (x : Nat) w, (callFunc 170 #[.float .f64 x]).run Try.prog w = .ok (.value (.int .u64 x)) w := fun x w => by
    rw [run_callFunc_extern (e := Extern.MathFloatBits.float64bits) Try.func170 (by kernel_rfl) (by kernel_rfl) (by kernel_rfl) (by rfl)]
    rfl
  have hT1 : ∀ (x : Int) w, (callFunc 181 #[.int .u64 x]).run Try.prog w = .ok (.value (.float .f64 x.toNat)) w := fun x w => by
    rw [run_callFunc_extern (e := Extern.MathFloatBits.float64frombits) Try.func181 (by kernel_rfl) (by kernel_rfl) (by kernel_rfl) (by rfl)]
    rfl
  have HW := Lib.hid (wd_size hn)
  clear hn
  unfold f64
  generalize wd Ieee.double ((n.natAbs : Nat) : Int) = y at *
  generalize hx : wd Ieee.double n = x at *
  have HX := Lib.hid hx
  clear hx
  go_enter Try.func175, Try.ntmps175
  go_wp2
  go_ret
  have h := HW.out
  exact ⟨by show Ending.returned (Value.float .f64 (bits .andNot .u64 (x : Int) 9223372036854775808).toNat) = _; rw [andNot_mod h.2, h.1], rfl⟩
theorem read_max : Ieee.double.read 9218868437227405311 = .number false 9007199254740991 971 := by decide +kernel
set_option exponentiation.threshold 2000 in
theorem order_max {m : Nat} (h : m < 2 ^ 53) : (FloatKind.f64.format.order (wd Ieee.double (m : Int)) 9218868437227405311 == some .gt) = false := by
  have hm : ((m : Int)).natAbs < 2 ^ 53 := by simpa using h
  obtain ⟨j, hj⟩ := read_wd fine_double hm
  have hz : decide ((m : Int) < 0) = false := decide_eq_false (by omega)
  rw [hz, Int.natAbs_natCast] at hj
  show (Ieee.double.order _ _ == some .gt) = false
  unfold Ieee.Format.order
  rw [hj, read_max]
  unfold Ieee.Datum.order
  have em : min (-(j : Int)) 971 = -(j : Int) := by omega
  simp only [em]
  rw [show (-(j : Int) - -(j : Int)).toNat = 0 by omega, show ((971 : Int) - -(j : Int)).toNat = 971 + j by omega]
  unfold Ieee.signed
  simp only [Bool.false_eq_true, if_false, Nat.shiftLeft_eq, Nat.pow_zero, Nat.mul_one]
  have p : m * 2 ^ j < 9007199254740991 * 2 ^ (971 + j) := by
    rw [Nat.pow_add, ← Nat.mul_assoc]
    refine Nat.mul_lt_mul_of_pos_right ?_ (Nat.two_pow_pos j)
    have : 1 ≤ 2 ^ 971 := Nat.one_le_two_pow
    have h2 : 9007199254740991 * 2 ≤ 9007199254740991 * 2 ^ 971 := Nat.mul_le_mul_left _ (by rw [show 971 = 970 + 1 from rfl, Nat.pow_succ]; have : 1 ≤ 2 ^ 970 := Nat.one_le_two_pow; omega)
    omega
  rw [Int.compare_eq_lt.2 (by exact_mod_cast p)]
  rfl
set_option maxRecDepth 100000 in
theorem isInf_any (n : Int) (w : World) (hn : n.natAbs < 2 ^ 53) : Calls Try.prog 180 #[f64 n, .int .i64 0] w fun e w' => e = .returned (.bool false) ∧ w = w' := by
  have K : Hid (∀ W, Calls Try.prog 175 #[f64 n] W fun e w' => e = .returned (f64 (n.natAbs : Int)) ∧ W = w') := Lib.hid (fun W => abs_any n W hn)
  have HO := Lib.hid (order_max hn)
  clear hn
  unfold f64 at *
  generalize wd Ieee.double n = x at *
  generalize wd Ieee.double ((n.natAbs : Nat) : Int) = y at *
  go_enter Try.func180, Try.ntmps180
  go_wp2_with fail
  refine (K.out _).mono ?_
  rintro e w' ⟨rfl, rfl⟩
  go_wp2
  go_ret
  exact ⟨by show Ending.returned (Value.bool (FloatKind.f64.format.order y 9218868437227405311 == some .gt)) = _; rw [HO.out], rfl⟩
set_option maxRecDepth 100000 in
theorem kIsWhole_any (n : Int) (w : World) (hn : n.natAbs < 2 ^ 53) : Calls Try.prog 174 #[f64 n] w fun e w' => e = .returned (.bool true) ∧ w = w' := by
  have K1 : Hid (∀ W, Calls Try.prog 179 #[f64 n] W fun e w' => e = .returned (f64 n) ∧ W = w') := Lib.hid (fun W => trunc_any n W hn)
  have K2 : Hid (∀ W, Calls Try.prog 180 #[f64 n, .int .i64 0] W fun e w' => e = .returned (.bool false) ∧ W = w') := Lib.hid (fun W => isInf_any n W hn)
  have hO1 : FloatKind.f64.format.order (wd Ieee.double n) (wd Ieee.double n) = some .eq := by
    have := order_wd fine_double hn hn
    rw [Int.compare_eq_eq.2 rfl] at this
    exact this
  clear hn
  unfold f64 at *
  generalize wd Ieee.double n = x at *
  go_enter Try.func174, Try.ntmps174
  go_wp2_with fail
  refine (K1.out _).mono ?_
  rintro e w' ⟨rfl, rfl⟩
  go_wp2_with fail
  refine (K2.out _).mono ?_
  rintro e w' ⟨rfl, rfl⟩
  go_wp2
  go_ret
  exact ⟨rfl, rfl⟩
/-- the error of a whole sample -/
def sE (n : Int) : Int := if n.natAbs ≤ 2047 then 0 else 2
set_option maxRecDepth 100000 in
theorem sampleError_any (n : Int) (w : World) (hn : n.natAbs < 2 ^ 53) : Calls Try.prog 158 #[f64 n] w fun e w' => e = .returned (.int .i64 (sE n)) ∧ w = w' := by
  have K1 : Hid (∀ W, Calls Try.prog 174 #[f64 n] W fun e w' => e = .returned (.bool true) ∧ W = w') := Lib.hid (fun W => kIsWhole_any n W hn)
  have K3 : Hid (∀ W, Calls Try.prog 175 #[f64 n] W fun e w' => e = .returned (f64 (n.natAbs : Int)) ∧ W = w') := Lib.hid (fun W => abs_any n W hn)
  have hO2 : FloatKind.f64.format.order (wd Ieee.double ((n.natAbs : Nat) : Int)) 4656717616654581760 = some (compare ((n.natAbs : Nat) : Int) 2047) := by
    have := order_wd fine_double (a := ((n.natAbs : Nat) : Int)) (b := 2047) (by rw [Int.natAbs_natCast]; exact hn) (by decide)
    rw [show wd Ieee.double 2047 = 4656717616654581760 by decide +kernel] at this
    exact this
  clear hn
  unfold f64 at *
  by_cases h : n.natAbs ≤ 2047
  · have HE := Lib.hid (show sE n = 0 by unfold sE; rw [if_pos h])
    have h2 : compare ((n.natAbs : Nat) : Int) 2047 ≠ .gt := by
      intro e
      have := Int.compare_eq_gt.1 e
      omega
    have hO3 : (FloatKind.f64.format.order (wd Ieee.double ((n.natAbs : Nat) : Int)) 4656717616654581760 == some .gt) = false := by
      rw [hO2]; simpa using h2
    clear h h2 hO2
    generalize wd Ieee.double n = x at *
    generalize wd Ieee.double ((n.natAbs : Nat) : Int) = y at *
    go_enter Try.func158, Try.ntmps158
    go_wp2_with fail
    refine (K1.out _).mono ?_
    rintro e w' ⟨rfl, rfl⟩
    go_wp2_with fail
    refine (K3.out _).mono ?_
    rintro e w' ⟨rfl, rfl⟩
    go_wp2
    go_ret
    exact ⟨ri HE.out.symm, rfl⟩
  · have HE := Lib.hid (show sE n = 2 by unfold sE; rw [if_neg h])
    have hO3 : (FloatKind.f64.format.order (wd Ieee.double ((n.natAbs : Nat) : Int)) 4656717616654581760 == some .gt) = true := by
      rw [hO2, Int.compare_eq_gt.2 (by omega)]; rfl
    clear h hO2
    generalize wd Ieee.double n = x at *
    generalize wd Ieee.double ((n.natAbs : Nat) : Int) = y at *
    go_enter Try.func158, Try.ntmps158
    go_wp2_with fail
    refine (K1.out _).mono ?_
    rintro e w' ⟨rfl, rfl⟩
    go_wp2_with fail
    refine (K3.out _).mono ?_
    rintro e w' ⟨rfl, rfl⟩
    go_wp2
    go_ret
    exact ⟨ri HE.out.symm, rfl⟩
end Go.Proofs.Ythgnemkfaiejbaa
