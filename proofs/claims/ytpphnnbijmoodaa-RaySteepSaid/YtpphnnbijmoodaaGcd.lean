/-
  THE GREATEST COMMON DIVISOR and fractions in lowest terms, in package ray and in the reference.
-/
import Derived.Test.YtpphnnbijmoodaaFirst
import Derived.Test.YtpphnnbijmoodaaMath
import Derived.Deep.QuietTactic
import Derived.BigQuiet
import Derived.StillTailTactics
set_option linter.unusedVariables false
set_option linter.unusedSimpArgs false
namespace Go.Proofs.Ytpphnnbijmoodaa
open Go.RowKit

theorem tmod_less (a : Int) {b : Int} (h : ¬ b = 0) : (a.tmod b).natAbs < b.natAbs := by
  rw [Int.natAbs_tmod]; exact Nat.mod_lt _ (by omega)
/-- Euclid's way, as both go it: remainders cut towards nought, the size at the end -/
def gcdR (a b : Int) : Int := if h : b = 0 then siz a else gcdR b (a.tmod b)
termination_by b.natAbs
decreasing_by exact tmod_less a h
theorem gcdR_zero (a : Int) : gcdR a 0 = siz a := by rw [gcdR]; simp
theorem gcdR_step (a b : Int) (h : b ≠ 0) : gcdR a b = gcdR b (a.tmod b) := by rw [gcdR]; simp [h]
theorem gcdR_nn (a b : Int) (ha : 0 ≤ a) (hb : 0 ≤ b) : gcdR a b = (Nat.gcd a.toNat b.toNat : Nat) := by
  induction hn : b.natAbs using Nat.strongRecOn generalizing a b with
  | _ n ih =>
    by_cases h : b = 0
    · subst h; rw [gcdR_zero]; unfold siz; rw [if_neg (by omega)]; simp; omega
    · have h2 := Int.tmod_nonneg b ha
      rw [gcdR_step a b h, ih (a.tmod b).natAbs (by rw [← hn]; exact tmod_less a h) b (a.tmod b) hb h2 rfl]
      congr 1
      have e : (a.tmod b).toNat = a.toNat % b.toNat := by
        rw [Int.tmod_eq_emod_of_nonneg ha]
        exact Int.toNat_emod ha hb
      rw [e, Nat.gcd_comm a.toNat, Nat.gcd_rec b.toNat a.toNat, Nat.gcd_comm]
theorem tmod_bd (a : Int) {b : Int} (h : ¬ b = 0) (ha : -9223372036854775808 ≤ a ∧ a ≤ 9223372036854775807) : -9223372036854775808 ≤ a.tmod b ∧ a.tmod b ≤ 9223372036854775807 := by
  have h1 := tmod_less a h
  have h2 : (a.tmod b).natAbs ≤ a.natAbs := by rw [Int.natAbs_tmod]; exact Nat.mod_le _ _
  rcases Int.lt_or_le a 0 with h3 | h3
  · have : a.tmod b ≤ 0 := by have := Int.tmod_nonneg (a := -a) b (by omega); rw [Int.neg_tmod] at this; omega
    omega
  · have := Int.tmod_nonneg b h3
    omega

set_option maxHeartbeats 400000 in
theorem cd_any (a b : Int) (w : World) (ha : -9223372036854775808 ≤ a ∧ a ≤ 9223372036854775807) (hb : -9223372036854775808 ≤ b ∧ b ≤ 9223372036854775807) :
    Calls Try.prog 128 #[.int .i64 a, .int .i64 b] w fun e w' => e = .returned (.int .i64 (gcdR a b)) ∧ Below w.heap.size w w' := by
  go_enter Try.func128, Try.ntmps128
  go_wp2
  go_loopw [0, 1] (fun x y wr => ∃ A B : Int, (-9223372036854775808 ≤ A ∧ A ≤ 9223372036854775807) ∧ (-9223372036854775808 ≤ B ∧ B ≤ 9223372036854775807) ∧ gcdR a b = gcdR A B ∧ Below w.heap.size w wr ∧ x = .int .i64 A ∧ y = .int .i64 B) (fun _ y _ => (intOf y).natAbs)
  case atStart => exact ⟨a, b, ha, hb, rfl, by (repeat' (first | (with_reducible exact Below.refl _ _) | (with_reducible assumption) | (with_reducible refine Below.alloc ?_ ?_ _) | (with_reducible refine Below.drew ?_) | (with_reducible refine below_drewN ?_ _) | (with_reducible refine Below.setCell ?_ ?_ _) | (with_reducible refine below_step (by with_reducible assumption) ?_ ?_) | (with_reducible exact Below.size (by with_reducible assumption)) | go_size)), rfl, rfl⟩
  case round =>
    obtain ⟨A, B, hA, hB, hg, hw, rfl, rfl⟩ := hrel
    have HG := Lib.hid hg
    have HW := Lib.hid hw
    clear hg hw
    by_cases h : B = 0
    · subst h
      go_wp2_with (go_at_call 115; refine (size_any _ _).mono ?_; rintro e w' ⟨rfl, rfl⟩)
      go_ret
      exact ⟨ri (by rw [HG.out, gcdR_zero]), HW.out⟩
    · have hb2 := tmod_bd A h hA
      have HS := Lib.hid (gcdR_step A B h)
      have HM := Lib.hid (tmod_less A h)
      go_wp2
      go_quiet (fail)
      go_wp2
      go_roundw
      case rel => exact ⟨B, A.tmod B, hB, hb2, by rw [HG.out, HS.out], below_drewN HW.out _, rfl, rfl⟩
      case measure => simp only [intOf]; exact HM.out

theorem bsize_any (n : Int) (w : World) (hn : -9223372036854775808 ≤ n ∧ n ≤ 9223372036854775807) :
    Calls Try.prog 118 #[.int .i64 n] w fun e w' => e = .returned (.int .i64 (siz n)) ∧ w = w' := by
  by_cases h : n < 0
  · by_cases h2 : n = -9223372036854775808
    · subst h2
      go_enter Try.func118, Try.ntmps118
      go_wp2
      all_goals
        go_ret
        exact ⟨ri (by unfold siz; split <;> simp [wrap64]), rfl⟩
    · by_cases h3 : -9223372036854775808 < n
      · go_enter Try.func118, Try.ntmps118
        go_wp2
        all_goals
          go_ret
          exact ⟨ri (by unfold siz; rw [if_pos h, IntWalk.wrap64_in _ (by omega)]), rfl⟩
      · omega
  · go_enter Try.func118, Try.ntmps118
    go_wp2
    all_goals
      go_ret
      exact ⟨ri (by unfold siz; rw [if_neg (by omega)]), rfl⟩

set_option maxHeartbeats 400000 in
theorem bgcd_any (a b : Int) (w : World) (ha : -9223372036854775808 ≤ a ∧ a ≤ 9223372036854775807) (hb : -9223372036854775808 ≤ b ∧ b ≤ 9223372036854775807) :
    Calls Try.prog 129 #[.int .i64 a, .int .i64 b] w fun e w' => e = .returned (.int .i64 (gcdR a b)) ∧ Below w.heap.size w w' := by
  go_enter Try.func129, Try.ntmps129
  go_wp2
  go_loopw [0, 1] (fun x y wr => ∃ A B : Int, (-9223372036854775808 ≤ A ∧ A ≤ 9223372036854775807) ∧ (-9223372036854775808 ≤ B ∧ B ≤ 9223372036854775807) ∧ gcdR a b = gcdR A B ∧ Below w.heap.size w wr ∧ x = .int .i64 A ∧ y = .int .i64 B) (fun _ y _ => (intOf y).natAbs)
  case atStart => exact ⟨a, b, ha, hb, rfl, by (repeat' (first | (with_reducible exact Below.refl _ _) | (with_reducible assumption) | (with_reducible refine Below.alloc ?_ ?_ _) | (with_reducible refine Below.drew ?_) | (with_reducible refine below_drewN ?_ _) | (with_reducible refine Below.setCell ?_ ?_ _) | (with_reducible refine below_step (by with_reducible assumption) ?_ ?_) | (with_reducible exact Below.size (by with_reducible assumption)) | go_size)), rfl, rfl⟩
  case round =>
    obtain ⟨A, B, hA, hB, hg, hw, rfl, rfl⟩ := hrel
    have HG := Lib.hid hg
    have HW := Lib.hid hw
    clear hg hw
    by_cases h : B = 0
    · subst h
      go_wp2_with (go_at_call 118; refine (bsize_any _ _ (by omega)).mono ?_; rintro e w' ⟨rfl, rfl⟩)
      go_ret
      exact ⟨ri (by rw [HG.out, gcdR_zero]), HW.out⟩
    · have hb2 := tmod_bd A h hA
      have HS := Lib.hid (gcdR_step A B h)
      have HM := Lib.hid (tmod_less A h)
      go_wp2
      go_quiet (fail)
      go_wp2
      go_roundw
      case rel => exact ⟨B, A.tmod B, hB, hb2, by rw [HG.out, HS.out], below_drewN HW.out _, rfl, rfl⟩
      case measure => simp only [intOf]; exact HM.out

theorem gcdR_pos {a b : Int} (ha : 0 ≤ a) (hb : 1 ≤ b) : 1 ≤ gcdR a b ∧ gcdR a b ≤ b := by
  rw [gcdR_nn a b ha (by omega)]
  have h1 : 0 < Nat.gcd a.toNat b.toNat := Nat.gcd_pos_of_pos_right _ (by omega)
  have h2 : Nat.gcd a.toNat b.toNat ≤ b.toNat := Nat.gcd_le_right _ (by omega)
  omega

set_option maxRecDepth 100000 in
set_option maxHeartbeats 400000 in
theorem lowest_any (a b : Int) (w : World) (ha : 0 ≤ a ∧ a ≤ 9223372036854775807) (hb : 1 ≤ b ∧ b ≤ 9223372036854775807) :
    Calls Try.prog 108 #[.int .i64 a, .int .i64 b] w fun e w' => e = .returned (.agg #[.int .i64 (a / gcdR a b), .int .i64 (b / gcdR a b)]) ∧ Below w.heap.size w w' := by
  obtain ⟨g1, g2⟩ := gcdR_pos ha.1 hb.1
  have K := Lib.hid (fun W => cd_any a b W (by omega) (by omega))
  generalize gcdR a b = g at *
  have h0 : ¬ g = 0 := by omega
  have q1 := IntWalk.tdiv_le a g ha.1 g1
  have q2 := IntWalk.tdiv_le b g (by omega) g1
  go_enter Try.func108, Try.ntmps108
  go_wp2_with fail; (refine (K.out _).mono ?_; rintro e w1 ⟨rfl, hw1⟩; obtain ⟨hcw1, hfw1, hlw1, hmw1, hnw1⟩ := bcell3 hw1; have hzw1 := hw1.size; (try simp only [World.size_alloc, World.size_setCell, World.size_drew, size_drewN] at hzw1))
  have r1_0 : w1.cell? ⟨w.heap.size, 0, none⟩ = some (.int .i64 0) := (hcw1 (w.heap.size) 0 (by first | omega | (simp only [World.size_alloc, World.size_drew, World.size_setCell, size_drewN]; omega))).trans (by simp [go_sem, *]); have p1_0 : w1.frozen? ⟨w.heap.size, 0, none⟩ = false := (hfw1 (w.heap.size) 0 (by first | omega | (simp only [World.size_alloc, World.size_drew, World.size_setCell, size_drewN]; omega))).trans (by simp [go_sem, *]); have r1_1 : w1.cell? ⟨w.heap.size, 1, none⟩ = some (.int .i64 0) := (hcw1 (w.heap.size) 1 (by first | omega | (simp only [World.size_alloc, World.size_drew, World.size_setCell, size_drewN]; omega))).trans (by simp [go_sem, *]); have p1_1 : w1.frozen? ⟨w.heap.size, 1, none⟩ = false := (hfw1 (w.heap.size) 1 (by first | omega | (simp only [World.size_alloc, World.size_drew, World.size_setCell, size_drewN]; omega))).trans (by simp [go_sem, *]); have o1 : w.heap.size < w1.heap.size := (by omega)
  have wq1 : IntKind.i64.wrap (a.tdiv g) = a / g := IntWalk.i64_quo a g ⟨ha.1, ha.2, g1⟩
  have wq2 : IntKind.i64.wrap (b.tdiv g) = b / g := IntWalk.i64_quo b g ⟨by omega, hb.2, g1⟩
  go_wp2
  refine wp_region_still_tail 7 (by kernel_rfl) (by kernel_rfl) ?_
  change wpStill _ _ w1.drew _ _ _
  simp only [List.take_succ_cons, List.take_zero, List.drop_succ_cons, List.drop_zero]
  repeat still_step
  refine wpStill_nil ?_
  change wpList _ _ _ _ _ w1.drew
  go_wp2
  refine bodyPost_ret (by simp [results, Try.results108, go_sem, *]; rfl) rfl ?_
  exact ⟨rfl, by (repeat' (first | (with_reducible exact Below.refl _ _) | (with_reducible assumption) | (with_reducible refine Below.alloc ?_ ?_ _) | (with_reducible refine Below.drew ?_) | (with_reducible refine below_drewN ?_ _) | (with_reducible refine Below.setCell ?_ ?_ _) | (with_reducible refine below_step (by with_reducible assumption) ?_ ?_) | (with_reducible exact Below.size (by with_reducible assumption)) | go_size))⟩
end Go.Proofs.Ytpphnnbijmoodaa
