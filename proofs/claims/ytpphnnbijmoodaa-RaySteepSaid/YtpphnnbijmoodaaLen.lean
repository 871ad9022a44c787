/-
  ROOTS: Newton's one of package ray and the one by bits of the reference both give the whole root 'sq'.
-/
import Derived.Test.YtpphnnbijmoodaaScal
import Derived.Test.YtpphnnbijmoodaaMath
import Derived.Test.YtpphnnbijmoodaaShelf
import Derived.Lib.ItoaNum
import Derived.Lib.Hide
import Derived.Deep.QuietTactic
import Derived.BigQuiet
import Derived.StillTailTactics
set_option linter.unusedVariables false
set_option linter.unusedSimpArgs false
namespace Go.Proofs.Ytpphnnbijmoodaa
open Go.RowKit

/-- Newton's step falls, or the root is found -/
theorem newton {n r : Int} (hr : 1 ≤ r) (h0 : 0 ≤ n) : n < ((r + n / r) / 2 + 1) * ((r + n / r) / 2 + 1) := by
  obtain ⟨q, hq⟩ : ∃ q, q = n / r := ⟨_, rfl⟩
  have e1 := Int.mul_ediv_add_emod n r
  have e2 := Int.emod_lt_of_pos n (show 0 < r by omega)
  have e0 := Int.ediv_nonneg h0 (show 0 ≤ r by omega)
  rw [← hq] at *
  obtain ⟨s, hs⟩ : ∃ s, s = (r + q) / 2 := ⟨_, rfl⟩
  rw [← hs]
  have h1 : r + q ≤ 2 * s + 1 := by omega
  have h3 : (r + (q + 1)) * (r + (q + 1)) ≤ (2 * s + 2) * (2 * s + 2) := sq_mono (by omega) (by omega)
  have h4 := sq_nonneg (r - (q + 1))
  have h5 : 4 * (r * (q + 1)) = (r + (q + 1)) * (r + (q + 1)) - (r - (q + 1)) * (r - (q + 1)) := by grind
  have h6 : (2 * s + 2) * (2 * s + 2) = 4 * ((s + 1) * (s + 1)) := by grind
  have h7 : r * (q + 1) = r * q + r := by grind
  omega
theorem newton_end {n r : Int} (hr : 1 ≤ r) (h : r ≤ (r + n / r) / 2) : r * r ≤ n := by
  have h1 : r ≤ n / r := by omega
  rw [Int.le_ediv_iff_mul_le (by omega)] at h1
  exact h1
theorem newton_start {n : Nat} (h2 : 2 ≤ n) (h : n < 4611686018427387904) : n < 2 ^ ((Lib.bitLen n + 1) / 2) * 2 ^ ((Lib.bitLen n + 1) / 2) ∧ (Lib.bitLen n + 1) / 2 ≤ 31 ∧ 1 ≤ 2 ^ ((Lib.bitLen n + 1) / 2) ∧ 2 ^ ((Lib.bitLen n + 1) / 2) ≤ 2147483648 := by
  obtain ⟨a, b, c⟩ := Lib.bitLenAux_bounds 64 n (by omega) (by omega)
  change 1 ≤ Lib.bitLen n at a
  change 2 ^ (Lib.bitLen n - 1) ≤ n at b
  change n < 2 ^ Lib.bitLen n at c
  have d : Lib.bitLen n ≤ 62 := by
    rcases Nat.lt_or_ge 62 (Lib.bitLen n) with h1 | h1
    · have : 2 ^ 62 ≤ 2 ^ (Lib.bitLen n - 1) := Nat.pow_le_pow_right (by omega) (by omega)
      omega
    · exact h1
  have e : (Lib.bitLen n + 1) / 2 ≤ 31 := by omega
  have f : 2 ^ ((Lib.bitLen n + 1) / 2) ≤ 2 ^ 31 := Nat.pow_le_pow_right (by omega) e
  refine ⟨?_, e, Nat.one_le_two_pow, f⟩
  rw [← Nat.pow_add]
  exact Nat.lt_of_lt_of_le c (Nat.pow_le_pow_right (by omega) (by omega))

set_option maxHeartbeats 400000 in
theorem root_any (n : Int) (w : World) (h0 : 0 ≤ n) (h1 : n < 4611686018427387904) :
    Calls Try.prog 119 #[.int .i64 n] w fun e w' => e = .returned (.int .i64 (sq n)) ∧ w = w' := by
  by_cases h2 : n < 2
  · have e1 : n = sq n := by
      have : n = 0 ∨ n = 1 := by omega
      rcases this with rfl | rfl
      · exact (sq_uniq (by omega) (by omega) (by omega) (by omega)).symm
      · exact (sq_uniq (by omega) (by omega) (by omega) (by omega)).symm
    have e := Lib.hid e1
    clear e1
    go_enter Try.func119, Try.ntmps119
    go_wp2
    go_ret
    exact ⟨ri e.out, rfl⟩
  · obtain ⟨a, b, c, d⟩ := newton_start (n := n.toNat) (by omega) (by omega)
    obtain ⟨m, hm⟩ : ∃ m : Nat, m = 2 ^ ((Lib.bitLen n.toNat + 1) / 2) := ⟨_, rfl⟩
    rw [← hm] at a c d
    have Hm := Lib.hid hm
    clear hm
    obtain ⟨l, hl⟩ : ∃ l : Nat, l = Lib.bitLen n.toNat := ⟨_, rfl⟩
    rw [← hl] at b Hm
    have Hl := Lib.hid hl
    clear hl
    go_enter Try.func119, Try.ntmps119
    go_wp2_with (go_at_call 132; refine (Try.bits_Len _ _ (by omega) (by omega)).mono ?_; rintro e w' ⟨rfl, rfl⟩; rw [← Hl.out])
    have hw : wrap64 (2 ^ ((l + 1) / 2)) = (m : Int) := by
      rw [show ((2 : Int) ^ ((l + 1) / 2)) = ((2 ^ ((l + 1) / 2) : Nat) : Int) by simp, ← Hm.out]
      exact IntWalk.wrap64_in _ (by omega)
    rw [hw]
    have a1 : n < ((m : Int) + 1) * (m + 1) := by
      have e2 : ((m : Int) + 1) * (m + 1) = ((m * m : Nat) : Int) + 2 * m + 1 := by simp; grind
      omega
    clear hw Hm b Hl a
    go_loop [3] (fun r => ∃ k : Int, 1 ≤ k ∧ k ≤ 2147483648 ∧ n < (k + 1) * (k + 1) ∧ r = .int .i64 k) (fun r => (intOf r).toNat)
    case atStart => exact ⟨m, by omega, by omega, a1, rfl⟩
    case round =>
      obtain ⟨k, hk1, hk2, hk3, rfl⟩ := hrel
      have hq0 := Int.ediv_nonneg h0 (show 0 ≤ k by omega)
      have hq1 : n / k ≤ n := Int.ediv_le_self _ h0
      have hn := newton (n := n) hk1 h0
      by_cases hlt : k ≤ (k + n / k) / 2
      · have he := newton_end hk1 hlt
        have hfin : sq n = k := sq_uniq (by omega) he hk3 h1
        have Hf := Lib.hid hfin
        clear hfin hn he hk3 a1
        go_wp2
        go_ret
        exact ⟨ri Hf.out.symm, rfl⟩
      · have hs : 1 ≤ (k + n / k) / 2 := by
          rcases Int.lt_or_le ((k + n / k) / 2) 1 with h4 | h4
          · have h5 : (k + n / k) / 2 = 0 := by omega
            rw [h5] at hn; omega
          · exact h4
        obtain ⟨s, hs2⟩ : ∃ s, s = (k + n / k) / 2 := ⟨_, rfl⟩
        go_wp2
        go_round
        case rel => exact ⟨(k + n / k) / 2, by omega, by omega, hn, rfl⟩
        case measure => simp [intOf]; omega

/-- the root by bits: the span s of what is left, and half of it as the bit -/
theorem bitroot {n r s : Int} (h1 : r * r ≤ n) (h2 : n < (r + 2 * s) * (r + 2 * s)) :
    ((r + s) * (r + s) ≤ n → (r + s) * (r + s) ≤ n ∧ n < (r + s + s) * (r + s + s)) ∧ (¬ (r + s) * (r + s) ≤ n → r * r ≤ n ∧ n < (r + s) * (r + s)) := by
  have e : (r + s + s) * (r + s + s) = (r + 2 * s) * (r + 2 * s) := by grind
  exact ⟨fun h => ⟨h, by omega⟩, fun h => ⟨h1, by omega⟩⟩

set_option maxHeartbeats 1000000 in
theorem broot_any (n : Int) (w : World) (h0 : 0 ≤ n) (h1 : n < 4611686018427387904) :
    Calls Try.prog 120 #[.int .i64 n] w fun e w' => e = .returned (.int .i64 (sq n)) ∧ w = w' := by
  go_enter Try.func120, Try.ntmps120
  go_wp2
  go_loop [3, 4] (fun r b => ∃ (k s : Int) (j : Nat), s = 2 ^ j ∧ 0 ≤ k ∧ k + s ≤ 2147483648 ∧ k * k ≤ n ∧ n < (k + s) * (k + s) ∧ r = .int .i64 k ∧ b = .int .i64 (s / 2)) (fun _ b => (intOf b).toNat)
  case atStart => exact ⟨0, 2147483648, 31, by decide, by omega, by omega, by omega, by omega, rfl, rfl⟩
  case round =>
    obtain ⟨k, s, j, hj, hk, hks, hk1, hk2, rfl, rfl⟩ := hrel
    cases j with
    | zero =>
      have hs1 : s = 1 := by simpa using hj
      subst hs1
      have hfin : sq n = k := sq_uniq hk hk1 hk2 h1
      have Hf := Lib.hid hfin
      clear hfin hk1 hk2 hj
      go_wp2
      go_ret
      exact ⟨ri Hf.out.symm, rfl⟩
    | succ j =>
      obtain ⟨t, ht⟩ : ∃ t : Int, t = 2 ^ j := ⟨_, rfl⟩
      have hst : s = 2 * t := by rw [hj, ht, Int.pow_succ]; omega
      have ht1 : 1 ≤ t := by rw [ht]; have : (0 : Int) < 2 ^ j := Int.pow_pos (by decide); omega
      have Ht := Lib.hid ht
      clear ht hj
      subst hst
      have hh : 2 * t / 2 = t := by omega
      rw [hh]
      have hb := bitroot hk1 hk2
      have hm : (k + t) * (k + t) ≤ 2147483648 * 2147483648 := sq_mono (by omega) (by omega)
      have hm0 := sq_nonneg (k + t)
      clear hh
      by_cases hc : (k + t) * (k + t) ≤ n
      · have hr := hb.1 hc
        have Hr := Lib.hid hr
        clear hr hb hk1 hk2
        go_wp2
        go_round
        case rel => exact ⟨k + t, t, j, Ht.out, by omega, by omega, Hr.out.1, Hr.out.2, rfl, rfl⟩
        case measure => simp [intOf]; omega
      · have hr := hb.2 hc
        have Hr := Lib.hid hr
        clear hr hb hk1 hk2
        go_wp2
        go_round
        case rel => exact ⟨k, t, j, Ht.out, by omega, by omega, Hr.out.1, Hr.out.2, rfl, rfl⟩
        case measure => simp [intOf]; omega

set_option maxHeartbeats 400000 in
theorem brootUp_any (n : Int) (w : World) (h0 : 0 ≤ n) (h1 : n < 4611686018427387904) :
    Calls Try.prog 121 #[.int .i64 n] w fun e w' => e = .returned (.int .i64 (sqU n)) ∧ w = w' := by
  obtain ⟨a, b⟩ := sq_spec n h0 h1
  have c := sq_nn n
  have d : sq n < 2147483648 := lt_of_sq (by omega) (by omega)
  have f := sq_nonneg (sq n)
  clear b
  by_cases h : sq n * sq n < n
  all_goals
    go_enter Try.func121, Try.ntmps121
    go_wp2_with (go_at_call 120; refine (broot_any _ _ (by omega) (by omega)).mono ?_; rintro e w' ⟨rfl, rfl⟩)
    go_ret
    exact ⟨ri (by unfold sqU; first | rw [if_pos h] | rw [if_neg (by omega)]), rfl⟩

set_option maxHeartbeats 400000 in
theorem rlengthOf_any (dx dz : Int) (w : World) (hx : -200000 ≤ dx ∧ dx ≤ 200000) (hz : -200000 ≤ dz ∧ dz ≤ 200000) :
    Calls Try.prog 82 #[.int .i64 dx, .int .i64 dz] w fun e w' => e = .returned (.agg #[.int .i64 (lLo dx dz), .int .i64 (lHi dx dz)]) ∧ Below w.heap.size w w' := by
  obtain ⟨a, b, c, d⟩ := sqm_bd hx hz
  have hm : sqm dx dz = 1000000 * (dx * dx + dz * dz) := rfl
  have Hm := Lib.hid hm
  clear hm
  go_enter Try.func82, Try.ntmps82
  go_wp2_with (first | (go_at_call 120; refine (broot_any _ _ (by omega) (by omega)).mono ?_; rintro e w' ⟨rfl, rfl⟩) | (go_at_call 121; refine (brootUp_any _ _ (by omega) (by omega)).mono ?_; rintro e w' ⟨rfl, rfl⟩))
  go_returns
  exact ⟨by rw [lLo, lHi, Hm.out], by go_grown⟩

set_option maxHeartbeats 400000 in
theorem lengthOf_any (x1 z1 x2 z2 : Int) (w : World) (h1 : inB x1 (-100000) 100000 = true) (h2 : inB z1 (-100000) 100000 = true) (h3 : inB x2 (-100000) 100000 = true) (h4 : inB z2 (-100000) 100000 = true) :
    Calls Try.prog 79 #[.agg #[.int .i64 x1, .int .i64 z1], .agg #[.int .i64 x2, .int .i64 z2]] w fun e w' => e = .returned (.agg #[.int .i64 (lLo (x2 - x1) (z2 - z1)), .int .i64 (lHi (x2 - x1) (z2 - z1))]) ∧ Below w.heap.size w w' := by
  simp only [inB, decide_eq_true_eq] at h1 h2 h3 h4
  obtain ⟨a, b, c, d⟩ := sqm_bd (x := x2 - x1) (z := z2 - z1) (by omega) (by omega)
  have hm : sqm (x2 - x1) (z2 - z1) = 1000000 * ((x2 - x1) * (x2 - x1) + (z2 - z1) * (z2 - z1)) := rfl
  have Hm := Lib.hid hm
  clear hm
  by_cases e1 : x1 = x2
  · by_cases e2 : z1 = z2
    · subst e1 e2
      have g : lLo (x1 - x1) (z1 - z1) = 0 ∧ lHi (x1 - x1) (z1 - z1) = 0 := by
        have g0 : sqm (x1 - x1) (z1 - z1) = 0 := by simp [sqm]
        have g1 : sq 0 = 0 := sq_uniq (by omega) (by omega) (by omega) (by omega)
        unfold lLo lHi sqU
        rw [g0, g1]; simp
      have G := Lib.hid g
      clear g
      go_enter Try.func79, Try.ntmps79
      go_wp2
      go_returns
      exact ⟨by rw [G.out.1, G.out.2], by go_grown⟩
    · subst e1
      have Hm2 := Lib.hid (show sqm (x1 - x1) (z2 - z1) = 1000000 * ((z2 - z1) * (z2 - z1)) by rw [Hm.out]; simp)
      clear Hm a b
      have hq := sq_spec (1000000 * ((z2 - z1) * (z2 - z1))) (by omega) (by omega)
      have hq0 := sq_nn (1000000 * ((z2 - z1) * (z2 - z1)))
      have hq2 : sq (1000000 * ((z2 - z1) * (z2 - z1))) < 300000000 := lt_of_sq (by omega) (by omega)
      have hq1 := hq.1
      have hq3 := sq_nonneg (sq (1000000 * ((z2 - z1) * (z2 - z1))))
      clear hq
      go_enter Try.func79, Try.ntmps79
      go_wp2
      go_quiet (fail)
      go_wp2_with (go_at_call 119; refine (root_any _ _ (by omega) (by omega)).mono ?_; rintro e w' ⟨rfl, rfl⟩)
      all_goals
        go_returns
        exact ⟨by rw [lLo, lHi, Hm2.out, sqU]; first | rw [if_pos ‹_›] | rw [if_neg (by omega)], by (repeat' (first | (with_reducible exact Below.refl _ _) | (with_reducible assumption) | (with_reducible refine Below.alloc ?_ ?_ _) | (with_reducible refine Below.drew ?_) | (with_reducible refine below_drewN ?_ _) | (with_reducible refine Below.setCell ?_ ?_ _) | (with_reducible refine below_step (by with_reducible assumption) ?_ ?_) | (with_reducible exact Below.size (by with_reducible assumption)) | go_size))⟩
  · have hq := sq_spec (1000000 * ((x2 - x1) * (x2 - x1) + (z2 - z1) * (z2 - z1))) (by omega) (by omega)
    have hq0 := sq_nn (1000000 * ((x2 - x1) * (x2 - x1) + (z2 - z1) * (z2 - z1)))
    have hq2 : sq (1000000 * ((x2 - x1) * (x2 - x1) + (z2 - z1) * (z2 - z1))) < 300000000 := lt_of_sq (by omega) (by omega)
    have hq1 := hq.1
    have hq3 := sq_nonneg (sq (1000000 * ((x2 - x1) * (x2 - x1) + (z2 - z1) * (z2 - z1))))
    clear hq
    go_enter Try.func79, Try.ntmps79
    go_wp2
    go_quiet (fail)
    go_wp2_with (go_at_call 119; refine (root_any _ _ (by omega) (by omega)).mono ?_; rintro e w' ⟨rfl, rfl⟩)
    all_goals
      go_returns
      exact ⟨by rw [lLo, lHi, Hm.out, sqU]; first | rw [if_pos ‹_›] | rw [if_neg (by omega)], by (repeat' (first | (with_reducible exact Below.refl _ _) | (with_reducible assumption) | (with_reducible refine Below.alloc ?_ ?_ _) | (with_reducible refine Below.drew ?_) | (with_reducible refine below_drewN ?_ _) | (with_reducible refine Below.setCell ?_ ?_ _) | (with_reducible refine below_step (by with_reducible assumption) ?_ ?_) | (with_reducible exact Below.size (by with_reducible assumption)) | go_size))⟩
end Go.Proofs.Ytpphnnbijmoodaa
