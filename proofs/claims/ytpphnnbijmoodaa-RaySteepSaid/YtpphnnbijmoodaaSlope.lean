/-
  THE SLOPE of a crossing, as package ray and the reference tell its sign; what a crossing is.
-/
import Derived.Test.YtpphnnbijmoodaaCmp
import Derived.Test.YtpphnnbijmoodaaMath
set_option linter.unusedVariables false
set_option linter.unusedSimpArgs false
namespace Go.Proofs.Ytpphnnbijmoodaa
open Go.RowKit

/-- a crossing -/
structure Cr where
  X1 : Int
  H1 : Int
  V1 : Int
  X2 : Int
  H2 : Int
  V2 : Int

/-- a crossing is right -/
def okC (x : Cr) : Prop := (-100000 ≤ x.X1 ∧ x.X1 ≤ 100000) ∧ (-100000 ≤ x.X2 ∧ x.X2 ≤ 100000) ∧ (1 ≤ x.H1 ∧ x.H1 ≤ 100000) ∧ (1 ≤ x.H2 ∧ x.H2 ≤ 100000) ∧ (500 ≤ x.V1 ∧ x.V1 ≤ 10000) ∧ (500 ≤ x.V2 ∧ x.V2 ≤ 10000)
/-- a place is between both of a crossing -/
def inC (x : Cr) (t : Int) : Prop := min x.X1 x.X2 ≤ t ∧ t ≤ max x.X1 x.X2

/-- both terms of the slope, squared and multiplied out: the first less the second -/
def slpC (x : Cr) (t : Int) : Int := (t - x.X1) * (t - x.X1) * (x.V2 * x.V2 * ((x.X2 - t) * (x.X2 - t) + x.H2 * x.H2)) - (x.X2 - t) * (x.X2 - t) * (x.V1 * x.V1 * ((t - x.X1) * (t - x.X1) + x.H1 * x.H1))
/-- the sign of the slope -/
def slp (x : Cr) (t : Int) : Int := if x.X2 < x.X1 then -(sgn (slpC x t)) else sgn (slpC x t)
theorem sgn_bd (n : Int) : -1 ≤ sgn n ∧ sgn n ≤ 1 := by unfold sgn; split <;> (try split) <;> omega
theorem slp_bd (x : Cr) (t : Int) : -1 ≤ slp x t ∧ slp x t ≤ 1 := by
  have := sgn_bd (slpC x t)
  unfold slp; split <;> omega

theorem prod_bd {a b A B : Int} (h1 : 0 ≤ a) (h2 : a ≤ A) (h3 : 0 ≤ b) (h4 : b ≤ B) : 0 ≤ a * b ∧ a * b ≤ A * B :=
  ⟨Int.mul_nonneg h1 h3, mulle h2 h4 h3 (by omega)⟩

/-! the reference's comparison of fractions -/
theorem cmp_step {n d m k : Int} (hq : n / d = m / k) : n * k - m * d = (n - n / d * d) * k - (m - m / k * k) * d := by
  rw [hq]; grind
theorem cmp_lt {n d m k : Int} (hd : 1 ≤ d) (hk : 1 ≤ k) (hq : n / d < m / k) : n * k - m * d < 0 := by
  have e1 := Int.mul_ediv_add_emod n d
  have e2 := Int.emod_lt_of_pos n (show 0 < d by omega)
  have e3 := Int.mul_ediv_add_emod m k
  have e4 := Int.emod_nonneg m (show k ≠ 0 by omega)
  generalize n / d = p at *
  generalize m / k = q at *
  have h1 : d * p + d ≤ d * q := by have := Int.mul_le_mul_of_nonneg_left (show p + 1 ≤ q by omega) (show 0 ≤ d by omega); grind
  have h2 : n < d * q := by omega
  have h3 : k * q ≤ m := by omega
  have h4 : n * k < d * q * k := Int.mul_lt_mul_of_pos_right h2 (by omega)
  have h5 : d * (k * q) ≤ d * m := Int.mul_le_mul_of_nonneg_left h3 (by omega)
  grind
theorem cmp_bd {n d : Int} (hd : 1 ≤ d) (hn : 0 ≤ n) : 0 ≤ n / d ∧ n / d ≤ n ∧ 0 ≤ n / d * d ∧ n / d * d ≤ n ∧ n - n / d * d < d ∧ 0 ≤ n - n / d * d := by
  have e1 := Int.mul_ediv_add_emod n d
  have e2 := Int.emod_lt_of_pos n (show 0 < d by omega)
  have e4 := Int.emod_nonneg n (show d ≠ 0 by omega)
  have h0 := Int.ediv_nonneg hn (show 0 ≤ d by omega)
  have h1 : n / d ≤ n := Int.ediv_le_self _ hn
  have h2 : d * (n / d) = n / d * d := Int.mul_comm _ _
  have h3 := Int.mul_nonneg h0 (show 0 ≤ d by omega)
  omega
theorem sgn_neg {n : Int} (h : n < 0) : sgn n = -1 := by unfold sgn; rw [if_neg (by omega), if_pos h]
theorem sgn_pos {n : Int} (h : 0 < n) : sgn n = 1 := by unfold sgn; rw [if_pos h]
theorem sgn_zero {n : Int} (h : n = 0) : sgn n = 0 := by subst h; rfl

set_option maxHeartbeats 2000000 in
theorem bcompare_any (n d m k : Int) (w : World) (hn : 0 ≤ n ∧ n ≤ 9223372036854775807) (hd : 1 ≤ d ∧ d ≤ 9223372036854775807) (hm : 0 ≤ m ∧ m ≤ 9223372036854775807) (hk : 1 ≤ k ∧ k ≤ 9223372036854775807) :
    Calls Try.prog 71 #[.int .i64 n, .int .i64 d, .int .i64 m, .int .i64 k] w fun e w' => e = .returned (.int .i64 (sgn (n * k - m * d))) ∧ w = w' := by
  go_enter Try.func71, Try.ntmps71
  go_wp2
  go_loop [0, 1, 2, 3] (fun n' d' m' k' => ∃ N D M K : Int, (0 ≤ N ∧ N ≤ 9223372036854775807) ∧ (1 ≤ D ∧ D ≤ 9223372036854775807) ∧ (0 ≤ M ∧ M ≤ 9223372036854775807) ∧ (1 ≤ K ∧ K ≤ 9223372036854775807) ∧ sgn (n * k - m * d) = sgn (N * K - M * D) ∧ n' = .int .i64 N ∧ d' = .int .i64 D ∧ m' = .int .i64 M ∧ k' = .int .i64 K) (fun _ d' _ k' => (intOf d').toNat + (intOf k').toNat)
  case atStart => exact ⟨n, d, m, k, hn, hd, hm, hk, rfl, rfl, rfl, rfl, rfl⟩
  case round =>
    obtain ⟨N, D, M, K, hN, hD, hM, hK, hs, rfl, rfl, rfl, rfl⟩ := hrel
    obtain ⟨p0, p1, p2, p3, p4, p5⟩ := cmp_bd (n := N) (d := D) hD.1 hN.1
    obtain ⟨q0, q1, q2, q3, q4, q5⟩ := cmp_bd (n := M) (d := K) hK.1 hM.1
    by_cases h1 : N / D < M / K
    · have HS := Lib.hid (hs.trans (sgn_neg (cmp_lt hD.1 hK.1 h1)))
      clear hs
      go_wp2_with (go_at_call 94; refine (floor_any _ _ _ (by omega) (by omega) (by omega) (by omega)).mono ?_; rintro e w' ⟨rfl, rfl⟩)
      go_ret
      exact ⟨ri HS.out.symm, rfl⟩
    · by_cases h2 : M / K < N / D
      · have HS := Lib.hid (hs.trans (sgn_pos (by have := cmp_lt hK.1 hD.1 h2; omega)))
        clear hs
        go_wp2_with (go_at_call 94; refine (floor_any _ _ _ (by omega) (by omega) (by omega) (by omega)).mono ?_; rintro e w' ⟨rfl, rfl⟩)
        go_ret
        exact ⟨ri HS.out.symm, rfl⟩
      · have h3 : N / D = M / K := by omega
        rw [cmp_step h3] at hs
        have ha : 0 ≤ (N - N / D * D) * K := Int.mul_nonneg p5 (by omega)
        have hb : 0 ≤ (M - M / K * K) * D := Int.mul_nonneg q5 (by omega)
        clear h3 ha hb
        by_cases z1 : N - N / D * D = 0
        · by_cases z2 : M - M / K * K = 0
          · have HS := Lib.hid (hs.trans (sgn_zero (by rw [z1, z2]; omega)))
            clear hs
            go_wp2_with (go_at_call 94; refine (floor_any _ _ _ (by omega) (by omega) (by omega) (by omega)).mono ?_; rintro e w' ⟨rfl, rfl⟩)
            go_ret
            exact ⟨ri HS.out.symm, rfl⟩
          · have h5 : 0 < (M - M / K * K) * D := Int.mul_pos (by omega) (by omega)
            have HS := Lib.hid (hs.trans (sgn_neg (by rw [z1]; omega)))
            clear hs h5
            go_wp2_with (go_at_call 94; refine (floor_any _ _ _ (by omega) (by omega) (by omega) (by omega)).mono ?_; rintro e w' ⟨rfl, rfl⟩)
            go_ret
            exact ⟨ri HS.out.symm, rfl⟩
        · by_cases z2 : M - M / K * K = 0
          · have h5 : 0 < (N - N / D * D) * K := Int.mul_pos (by omega) (by omega)
            have HS := Lib.hid (hs.trans (sgn_pos (by rw [z2]; omega)))
            clear hs h5
            go_wp2_with (go_at_call 94; refine (floor_any _ _ _ (by omega) (by omega) (by omega) (by omega)).mono ?_; rintro e w' ⟨rfl, rfl⟩)
            go_ret
            exact ⟨ri HS.out.symm, rfl⟩
          · have HS := Lib.hid hs
            clear hs
            go_wp2_with (go_at_call 94; refine (floor_any _ _ _ (by omega) (by omega) (by omega) (by omega)).mono ?_; rintro e w' ⟨rfl, rfl⟩)
            go_round
            case rel => exact ⟨K, M - M / K * K, D, N - N / D * D, by omega, by omega, by omega, by omega, by rw [HS.out]; congr 1; grind, rfl, rfl, rfl, rfl⟩
            case measure => simp [intOf]; omega
end Go.Proofs.Ytpphnnbijmoodaa
