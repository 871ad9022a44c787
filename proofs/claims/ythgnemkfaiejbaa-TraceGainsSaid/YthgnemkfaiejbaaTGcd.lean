/-
  THE GREATEST COMMON DIVISOR and fractions in lowest terms, on a seat without package ray; the error of a gain.
-/
import Derived.Test.YthgnemkfaiejbaaTTime
import Derived.Test.YthgnemkfaiejbaaTReg
import Derived.Deep.QuietTactic
import Derived.BigQuiet
import Derived.StillTailTactics
set_option linter.unusedVariables false
set_option linter.unusedSimpArgs false
namespace Go.Proofs.Ythgnemkfaiejbaa
open Go.RowKit

theorem tmod_less (a : Int) {b : Int} (h : ¬ b = 0) : (a.tmod b).natAbs < b.natAbs := by
  rw [Int.natAbs_tmod]; exact Nat.mod_lt _ (by omega)
/-- Euclid's way, as both go it: remainders cut towards nought, the size at the end -/
def gcdR (a b : Int) : Int := if h : b = 0 then siz a else gcdR b (a.tmod b)
termination_by b.natAbs
decreasing_by exact tmod_less a h
theorem gcdR_zero (a : Int) : gcdR a 0 = siz a := by rw [gcdR]; simp
theorem gcdR_step (a b : Int) (h : b ≠ 0) : gcdR a b = gcdR b (a.tmod b) := by rw [gcdR]; simp [h]
theorem gcdR_nn (a b : Int) (ha : 0 ≤ a) (hb : 0 ≤ b) : gcdR a b = (Nat.gcd a.toNat b.toNat : Nat) := by
  induction hn : b.natAbs using Nat.strongRecOn generalizing a b with
  | _ n ih =>
    by_cases h : b = 0
    · subst h; rw [gcdR_zero]; unfold siz; rw [if_neg (by omega)]; simp; omega
    · have h2 := Int.tmod_nonneg b ha
      rw [gcdR_step a b h, ih (a.tmod b).natAbs (by rw [← hn]; exact tmod_less a h) b (a.tmod b) hb h2 rfl]
      congr 1
      have e : (a.tmod b).toNat = a.toNat % b.toNat := by
        rw [Int.tmod_eq_emod_of_nonneg ha]
        exact Int.toNat_emod ha hb
      rw [e, Nat.gcd_comm a.toNat, Nat.gcd_rec b.toNat a.toNat, Nat.gcd_comm]
theorem tmod_bd (a : Int) {b : Int} (h : ¬ b = 0) (ha : -9223372036854775808 ≤ a ∧ a ≤ 9223372036854775807) : -9223372036854775808 ≤ a.tmod b ∧ a.tmod b ≤ 9223372036854775807 := by
  have h1 := tmod_less a h
  have h2 : (a.tmod b).natAbs ≤ a.natAbs := by rw [Int.natAbs_tmod]; exact Nat.mod_le _ _
  rcases Int.lt_or_le a 0 with h3 | h3
  · have : a.tmod b ≤ 0 := by have := Int.tmod_nonneg (a := -a) b (by omega); rw [Int.neg_tmod] at this; omega
    omega
  · have := Int.tmod_nonneg b h3
    omega

set_option maxHeartbeats 400000 in
theorem cd_any (a b : Int) (w : World) (ha : -9223372036854775808 ≤ a ∧ a ≤ 9223372036854775807) (hb : -9223372036854775808 ≤ b ∧ b ≤ 9223372036854775807) :
    Calls Try.prog 177 #[.int .i64 a, .int .i64 b] w fun e w' => e = .returned (.int .i64 (gcdR a b)) ∧ Below w.heap.size w w' := by
  go_enter Try.func177, Try.ntmps177
  go_wp2
  go_loopw [0, 1] (fun x y wr => ∃ A B : Int, (-9223372036854775808 ≤ A ∧ A ≤ 9223372036854775807) ∧ (-9223372036854775808 ≤ B ∧ B ≤ 9223372036854775807) ∧ gcdR a b = gcdR A B ∧ Below w.heap.size w wr ∧ x = .int .i64 A ∧ y = .int .i64 B) (fun _ y _ => (intOf y).natAbs)
  case atStart => exact ⟨a, b, ha, hb, rfl, by (repeat' (first | (with_reducible exact Below.refl _ _) | (with_reducible assumption) | (with_reducible refine Below.alloc ?_ ?_ _) | (with_reducible refine Below.drew ?_) | (with_reducible refine below_drewN ?_ _) | (with_reducible refine Below.setCell ?_ ?_ _) | (with_reducible refine below_step (by with_reducible assumption) ?_ ?_) | (with_reducible exact Below.size (by with_reducible assumption)) | go_size)), rfl, rfl⟩
  case round =>
    obtain ⟨A, B, hA, hB, hg, hw, rfl, rfl⟩ := hrel
    have HG := Lib.hid hg
    have HW := Lib.hid hw
    clear hg hw
    by_cases h : B = 0
    · subst h
      go_wp2_with (go_at_call 165; refine (size_any _ _).mono ?_; rintro e w' ⟨rfl, rfl⟩)
      go_ret
      exact ⟨ri (by rw [HG.out, gcdR_zero]), HW.out⟩
    · have hb2 := tmod_bd A h hA
      have HS := Lib.hid (gcdR_step A B h)
      have HM := Lib.hid (tmod_less A h)
      go_wp2
      go_quiet (fail)
      go_wp2
      go_roundw
      case rel => exact ⟨B, A.tmod B, hB, hb2, by rw [HG.out, HS.out], below_drewN HW.out _, rfl, rfl⟩
      case measure => simp only [intOf]; exact HM.out

theorem bsize_any (n : Int) (w : World) (hn : -9223372036854775808 ≤ n ∧ n ≤ 9223372036854775807) :
    Calls Try.prog 116 #[.int .i64 n] w fun e w' => e = .returned (.int .i64 (siz n)) ∧ w = w' := by
  by_cases h : n < 0
  · by_cases h2 : n = -9223372036854775808
    · subst h2
      go_enter Try.func116, Try.ntmps116
      go_wp2
      all_goals
        go_ret
        exact ⟨ri (by unfold siz; split <;> simp [wrap64]), rfl⟩
    · by_cases h3 : -9223372036854775808 < n
      · go_enter Try.func116, Try.ntmps116
        go_wp2
        all_goals
          go_ret
          exact ⟨ri (by unfold siz; rw [if_pos h, IntWalk.wrap64_in _ (by omega)]; omega), rfl⟩
      · omega
  · go_enter Try.func116, Try.ntmps116
    go_wp2
    all_goals
      go_ret
      exact ⟨ri (by unfold siz; rw [if_neg (by omega)]; omega), rfl⟩

set_option maxHeartbeats 400000 in
theorem bgcd_any (a b : Int) (w : World) (ha : -9223372036854775808 ≤ a ∧ a ≤ 9223372036854775807) (hb : -9223372036854775808 ≤ b ∧ b ≤ 9223372036854775807) :
    Calls Try.prog 169 #[.int .i64 a, .int .i64 b] w fun e w' => e = .returned (.int .i64 (gcdR a b)) ∧ Below w.heap.size w w' := by
  go_enter Try.func169, Try.ntmps169
  go_wp2
  go_loopw [0, 1] (fun x y wr => ∃ A B : Int, (-9223372036854775808 ≤ A ∧ A ≤ 9223372036854775807) ∧ (-9223372036854775808 ≤ B ∧ B ≤ 9223372036854775807) ∧ gcdR a b = gcdR A B ∧ Below w.heap.size w wr ∧ x = .int .i64 A ∧ y = .int .i64 B) (fun _ y _ => (intOf y).natAbs)
  case atStart => exact ⟨a, b, ha, hb, rfl, by (repeat' (first | (with_reducible exact Below.refl _ _) | (with_reducible assumption) | (with_reducible refine Below.alloc ?_ ?_ _) | (with_reducible refine Below.drew ?_) | (with_reducible refine below_drewN ?_ _) | (with_reducible refine Below.setCell ?_ ?_ _) | (with_reducible refine below_step (by with_reducible assumption) ?_ ?_) | (with_reducible exact Below.size (by with_reducible assumption)) | go_size)), rfl, rfl⟩
  case round =>
    obtain ⟨A, B, hA, hB, hg, hw, rfl, rfl⟩ := hrel
    have HG := Lib.hid hg
    have HW := Lib.hid hw
    clear hg hw
    by_cases h : B = 0
    · subst h
      go_wp2_with (go_at_call 116; refine (bsize_any _ _ (by omega)).mono ?_; rintro e w' ⟨rfl, rfl⟩)
      go_ret
      exact ⟨ri (by rw [HG.out, gcdR_zero]), HW.out⟩
    · have hb2 := tmod_bd A h hA
      have HS := Lib.hid (gcdR_step A B h)
      have HM := Lib.hid (tmod_less A h)
      go_wp2
      go_quiet (fail)
      go_wp2
      go_roundw
      case rel => exact ⟨B, A.tmod B, hB, hb2, by rw [HG.out, HS.out], below_drewN HW.out _, rfl, rfl⟩
      case measure => simp only [intOf]; exact HM.out

def in64 (n : Int) : Prop := -9223372036854775808 ≤ n ∧ n ≤ 9223372036854775807

set_option maxRecDepth 100000 in
set_option maxHeartbeats 1000000 in
theorem formError_any (n d : Int) (w : World) (hn : in64 n) (hd : in64 d) :
    Calls Try.prog 168 #[.agg #[.int .i64 n, .int .i64 d]] w fun e w' => e = .returned (.int .i64 (unl (decide (0 < d) && decide (gcdR n d = 1)) 3)) ∧ Below w.heap.size w w' := by
  have HE : unl (decide (0 < d) && decide (gcdR n d = 1)) 3 = unl (decide (0 < d) && (gcdR n d == 1)) 3 := rfl
  have K := Lib.hid (fun W => cd_any n d W hn hd)
  clear hn hd
  generalize gcdR n d = g at *
  by_cases c : 0 < d
  · rw [decide_eq_true c, Bool.true_and] at HE
    have HE := Lib.hid HE
    go_enter Try.func168, Try.ntmps168
    go_wp2_with fail; (refine (K.out _).mono ?_; rintro e w1 ⟨rfl, hw1⟩; obtain ⟨hcw1, hfw1, hlw1, hmw1, hnw1⟩ := bcell3 hw1; have hzw1 := hw1.size; (try simp only [World.size_alloc, World.size_setCell, World.size_drew, size_drewN] at hzw1))
    have ca1_0 : w1.cell? ⟨w.heap.size, 0, none⟩ = some (.int .i64 (n)) := (hcw1 (w.heap.size) (0) (by first | omega | (simp only [World.size_alloc, World.size_drew, World.size_setCell, size_drewN]; omega))).trans (by first | assumption | (simp [go_sem, *]; done)); have ca1_1 : w1.cell? ⟨w.heap.size, 1, none⟩ = some (.int .i64 (d)) := (hcw1 (w.heap.size) (1) (by first | omega | (simp only [World.size_alloc, World.size_drew, World.size_setCell, size_drewN]; omega))).trans (by first | assumption | (simp [go_sem, *]; done)); have oa1 : w.heap.size < w1.heap.size := (by omega)
    go_wp2_with fail
    refine (unless_any _ _ _).mono ?_
    rintro e w' ⟨rfl, rfl⟩
    go_wp2
    go_ret
    exact ⟨ri (by rw [decide_eq_true (show 0 < d by omega)]; rfl), by (repeat' (first | (with_reducible exact Below.refl _ _) | (with_reducible assumption) | (with_reducible refine Below.alloc ?_ ?_ _) | (with_reducible refine Below.drew ?_) | (with_reducible refine below_drewN ?_ _) | (with_reducible refine Below.setCell ?_ ?_ _) | (with_reducible refine below_step (by with_reducible assumption) ?_ ?_) | (with_reducible exact Below.size (by with_reducible assumption)) | go_size))⟩
  · rw [decide_eq_false c, Bool.false_and] at HE
    have HE := Lib.hid HE
    have c2 : decide (0 < d) = false := decide_eq_false c
    go_enter Try.func168, Try.ntmps168
    go_wp2_with fail
    refine (unless_any _ _ _).mono ?_
    rintro e w' ⟨rfl, rfl⟩
    go_wp2
    go_ret
    exact ⟨ri (by rw [decide_eq_false (show ¬ 0 < d by omega)]; rfl), by (repeat' (first | (with_reducible exact Below.refl _ _) | (with_reducible assumption) | (with_reducible refine Below.alloc ?_ ?_ _) | (with_reducible refine Below.drew ?_) | (with_reducible refine below_drewN ?_ _) | (with_reducible refine Below.setCell ?_ ?_ _) | (with_reducible refine below_step (by with_reducible assumption) ?_ ?_) | (with_reducible exact Below.size (by with_reducible assumption)) | go_size))⟩
def lowB (n d : Int) : Bool := decide (0 < d) && (gcdR n d == 1)
set_option maxRecDepth 100000 in
set_option maxHeartbeats 1000000 in
theorem isLowest_any (n d : Int) (w : World) (hn : in64 n) (hd : in64 d) :
    Calls Try.prog 134 #[.agg #[.int .i64 n, .int .i64 d]] w fun e w' => e = .returned (.bool (lowB n d)) ∧ Below w.heap.size w w' := by
  have HE : lowB n d = (decide (0 < d) && (gcdR n d == 1)) := rfl
  have K := Lib.hid (fun W => bgcd_any n d W hn hd)
  clear hn hd
  generalize gcdR n d = g at *
  by_cases c : 0 < d
  · rw [decide_eq_true c, Bool.true_and] at HE
    have HE := Lib.hid HE
    go_enter Try.func134, Try.ntmps134
    go_wp2_with fail; (refine (K.out _).mono ?_; rintro e w1 ⟨rfl, hw1⟩; obtain ⟨hcw1, hfw1, hlw1, hmw1, hnw1⟩ := bcell3 hw1; have hzw1 := hw1.size; (try simp only [World.size_alloc, World.size_setCell, World.size_drew, size_drewN] at hzw1))
    go_wp2
    go_ret
    exact ⟨by rw [HE.out]; rfl, by (repeat' (first | (with_reducible exact Below.refl _ _) | (with_reducible assumption) | (with_reducible refine Below.alloc ?_ ?_ _) | (with_reducible refine Below.drew ?_) | (with_reducible refine below_drewN ?_ _) | (with_reducible refine Below.setCell ?_ ?_ _) | (with_reducible refine below_step (by with_reducible assumption) ?_ ?_) | (with_reducible exact Below.size (by with_reducible assumption)) | go_size))⟩
  · rw [decide_eq_false c, Bool.false_and] at HE
    have HE := Lib.hid HE
    have c2 : decide (0 < d) = false := decide_eq_false c
    go_enter Try.func134, Try.ntmps134
    go_wp2
    go_ret
    exact ⟨rfl, by (repeat' (first | (with_reducible exact Below.refl _ _) | (with_reducible assumption) | (with_reducible refine Below.alloc ?_ ?_ _) | (with_reducible refine Below.drew ?_) | (with_reducible refine below_drewN ?_ _) | (with_reducible refine Below.setCell ?_ ?_ _) | (with_reducible refine below_step (by with_reducible assumption) ?_ ?_) | (with_reducible exact Below.size (by with_reducible assumption)) | go_size))⟩
def gnE (n d : Int) : Int := frst [unl (lowB n d) 3, unl (inB n 0 1000) 2, unl (inB d 1 1000) 2]
set_option maxRecDepth 100000 in
set_option maxHeartbeats 1000000 in
theorem gainError_any (n d : Int) (w : World) (hn : in64 n) (hd : in64 d) :
    Calls Try.prog 131 #[.agg #[.int .i64 n, .int .i64 d]] w fun e w' => e = .returned (.int .i64 (gnE n d)) ∧ Below w.heap.size w w' := by
  have HE := Lib.hid (show gnE n d = frst [unl (decide (0 < d) && decide (gcdR n d = 1)) 3, unl (inB n 0 1000) 2, unl (inB d 1 1000) 2] from rfl)
  have K := Lib.hid (fun W => formError_any n d W hn hd)
  clear hn hd
  go_enter Try.func131, Try.ntmps131
  go_wp2
  refine wp_region_held_drew (S := fun w' => w'.cell? ⟨w.heap.size, 0, none⟩ = some (.int .i64 (n)) ∧ w'.cell? ⟨w.heap.size, 1, none⟩ = some (.int .i64 (d))) (by kernel_rfl) ?_ (fun hH1 => ?_)
  · (first | assumption | (refine ⟨?_, ?_⟩ <;> assumption) | (go_keep; done) | (simp [*, go_sem]; done))
  refine wpAnyH_pure (i := 0) (v := ?_) rfl (by kernel_rfl) (by kernel_rfl) (by kernel_rfl) (fun _ _ _ h => h) (by rfl) (by assumption) ?_ ?_
  rotate_left
  · (intro w hSw; (try dsimp only at hSw); go_simp; (try with_reducible rfl))
  simp only [Act.put, List.getElem_toArray, List.getElem_cons_succ, List.getElem_cons_zero, List.setIfInBounds_toArray, List.set_cons_zero, List.set_cons_succ]
  refine wpAnyH_pure (i := 2) (v := ?_) rfl (by kernel_rfl) (by kernel_rfl) (by kernel_rfl) (fun _ _ _ h => h) (by rfl) (by assumption) ?_ ?_
  rotate_left
  · (intro w hSw; (try dsimp only at hSw); go_simp; (try with_reducible rfl))
  simp only [Act.put, List.getElem_toArray, List.getElem_cons_succ, List.getElem_cons_zero, List.setIfInBounds_toArray, List.set_cons_zero, List.set_cons_succ]
  refine wpAnyH_pure (i := 3) (v := ?_) rfl (by kernel_rfl) (by kernel_rfl) (by kernel_rfl) (fun _ _ _ h => h) (by rfl) (by assumption) ?_ ?_
  rotate_left
  · (intro w hSw; (try dsimp only at hSw); go_simp; (try with_reducible rfl))
  simp only [Act.put, List.getElem_toArray, List.getElem_cons_succ, List.getElem_cons_zero, List.setIfInBounds_toArray, List.set_cons_zero, List.set_cons_succ]
  refine wpAnyH_pure (i := 5) (v := ?_) rfl (by kernel_rfl) (by kernel_rfl) (by kernel_rfl) (fun _ _ _ h => h) (by rfl) (by assumption) ?_ ?_
  rotate_left
  · (intro w hSw; (try dsimp only at hSw); go_simp; (try with_reducible rfl))
  simp only [Act.put, List.getElem_toArray, List.getElem_cons_succ, List.getElem_cons_zero, List.setIfInBounds_toArray, List.set_cons_zero, List.set_cons_succ]
  refine wpAnyH_pure (i := 6) (v := ?_) rfl (by kernel_rfl) (by kernel_rfl) (by kernel_rfl) (fun _ _ _ h => h) (by rfl) (by assumption) ?_ ?_
  rotate_left
  · (intro w hSw; (try dsimp only at hSw); go_simp; (try with_reducible rfl))
  simp only [Act.put, List.getElem_toArray, List.getElem_cons_succ, List.getElem_cons_zero, List.setIfInBounds_toArray, List.set_cons_zero, List.set_cons_succ]
  refine wpAnyH_ready (rs := [1]) (by kernel_rfl) (by simp) ?_
  refine AllReadyH.cons rfl (fun Kq hKq => ?_) AllReadyH.nil
  go_simp
  refine (K.out _).mono ?_
  (rintro e w1 ⟨rfl, hw1⟩)
  obtain ⟨hcw1, hfw1, hlw1, hmw1, hnw1⟩ := bcell3 hw1
  have hzw1 := hw1.size
  (try simp only [World.size_alloc, World.size_setCell, World.size_drew, size_drewN] at hzw1)
  have cg1_0 : w1.cell? ⟨w.heap.size, 0, none⟩ = some (.int .i64 (n)) := (hcw1 (w.heap.size) (0) (by first | omega | (simp only [World.size_alloc, World.size_drew, World.size_setCell, size_drewN]; omega))).trans (by first | assumption | (simp [go_sem, *]; done)); have cg1_1 : w1.cell? ⟨w.heap.size, 1, none⟩ = some (.int .i64 (d)) := (hcw1 (w.heap.size) (1) (by first | omega | (simp only [World.size_alloc, World.size_drew, World.size_setCell, size_drewN]; omega))).trans (by first | assumption | (simp [go_sem, *]; done)); have og1 : w.heap.size < w1.heap.size := (by omega)
  refine hKq.out _ _ ?_ (fun hH2 => ?_)
  · (first | assumption | (refine ⟨?_, ?_⟩ <;> assumption) | (go_keep; done) | (simp [*, go_sem]; done))
  clear hKq Kq
  clear hH1
  refine wpAnyH_ready (rs := [4]) (by kernel_rfl) (by simp) ?_
  refine AllReadyH.cons rfl (fun Kq hKq => ?_) AllReadyH.nil
  go_simp
  refine (rangeError_any _ _ _ _).mono ?_
  (rintro e w' ⟨rfl, rfl⟩)
  refine hKq.out _ _ ?_ (fun hH3 => ?_)
  · (first | assumption | (refine ⟨?_, ?_⟩ <;> assumption) | (go_keep; done) | (simp [*, go_sem]; done))
  clear hKq Kq
  clear hH2
  refine wpAnyH_ready (rs := [7]) (by kernel_rfl) (by simp) ?_
  refine AllReadyH.cons rfl (fun Kq hKq => ?_) AllReadyH.nil
  go_simp
  refine (rangeError_any _ _ _ _).mono ?_
  (rintro e w' ⟨rfl, rfl⟩)
  refine hKq.out _ _ ?_ (fun hH4 => ?_)
  · (first | assumption | (refine ⟨?_, ?_⟩ <;> assumption) | (go_keep; done) | (simp [*, go_sem]; done))
  clear hKq Kq
  clear hH3
  refine wpAnyH_ready (rs := [8]) (by kernel_rfl) (by simp) ?_
  refine AllReadyH.cons rfl (fun Kq hKq => ?_) AllReadyH.nil
  go_simp
  refine hKq.out _ _ ?_ (fun hH5 => ?_)
  · (first | assumption | (refine ⟨?_, ?_⟩ <;> assumption) | (go_keep; done) | (simp [*, go_sem]; done))
  clear hKq Kq
  clear hH4
  refine wpAnyH_ready (rs := [9]) (by kernel_rfl) (by simp) ?_
  refine AllReadyH.cons rfl (fun Kq hKq => ?_) AllReadyH.nil
  go_simp
  apply Calls.mono
  focus ((apply first3 <;> exact cell_fresh _ _ _ _ _ _ (by first | rfl | simp) rfl); done)
  (rintro e w' ⟨rfl, rfl⟩)
  refine hKq.out _ _ ?_ (fun hH6 => ?_)
  · (first | assumption | (refine ⟨?_, ?_⟩ <;> assumption) | (go_keep; done) | (simp [*, go_sem]; done))
  clear hKq Kq
  clear hH5
  refine wpAnyH_pure (i := 10) (v := ?_) rfl (by kernel_rfl) (by kernel_rfl) (by kernel_rfl) (fun _ _ _ h => h) (by rfl) (by assumption) ?_ ?_
  rotate_left
  · (intro w hSw; (try dsimp only at hSw); go_simp; (try with_reducible rfl))
  simp only [Act.put, List.getElem_toArray, List.getElem_cons_succ, List.getElem_cons_zero, List.setIfInBounds_toArray, List.set_cons_zero, List.set_cons_succ]
  refine wpAnyH_done (by kernel_rfl) ?_ _
  go_wp2
  go_ret
  exact ⟨ri HE.out.symm, by (repeat' (first | (with_reducible exact Below.refl _ _) | (with_reducible assumption) | (with_reducible refine Below.alloc ?_ ?_ _) | (with_reducible refine Below.drew ?_) | (with_reducible refine below_drewN ?_ _) | (with_reducible refine Below.setCell ?_ ?_ _) | (with_reducible refine below_step (by with_reducible assumption) ?_ ?_) | (with_reducible exact Below.size (by with_reducible assumption)) | go_size))⟩
theorem gnE_ok {n d : Int} (h : gnE n d = 0) : (0 ≤ n ∧ n ≤ 1000) ∧ (1 ≤ d ∧ d ≤ 1000) ∧ lowB n d = true := by
  unfold gnE at h
  have h1 : lowB n d = true := by
    cases c : lowB n d
    · rw [c] at h; simp [frst, unl] at h
    · rfl
  rw [h1] at h
  have h2 : inB n 0 1000 = true := by
    cases c : inB n 0 1000
    · rw [c] at h; simp [frst, unl] at h
    · rfl
  rw [h2] at h
  have h3 : inB d 1 1000 = true := by
    cases c : inB d 1 1000
    · rw [c] at h; simp [frst, unl] at h
    · rfl
  exact ⟨of_decide_eq_true h2, of_decide_eq_true h3, h1⟩
set_option maxRecDepth 100000 in
set_option maxHeartbeats 1000000 in
theorem gainErrR_any (n d : Int) (w : World) (hn : in64 n) (hd : in64 d) :
    Calls Try.prog 57 #[.agg #[.int .i64 n, .int .i64 d]] w fun e w' => e = .returned (.int .i64 (gnE n d)) ∧ Below w.heap.size w w' := by
  have K := Lib.hid (fun W => isLowest_any n d W hn hd)
  have K1 := Lib.hid (fun W => bwithin_any n 0 1000 W)
  cases h1 : lowB n d with
  | false =>
    have HE := Lib.hid (show gnE n d = 3 by unfold gnE; rw [h1]; rfl)
    rw [h1] at K
    clear hn hd
    go_enter Try.func57, Try.ntmps57
    go_wp2_with fail; (refine (K.out _).mono ?_; rintro e w1 ⟨rfl, hw1⟩; obtain ⟨hcw1, hfw1, hlw1, hmw1, hnw1⟩ := bcell3 hw1; have hzw1 := hw1.size; (try simp only [World.size_alloc, World.size_setCell, World.size_drew, size_drewN] at hzw1))
    have cg1_0 : w1.cell? ⟨w.heap.size, 0, none⟩ = some (.int .i64 (n)) := (hcw1 (w.heap.size) (0) (by first | omega | (simp only [World.size_alloc, World.size_drew, World.size_setCell, size_drewN]; omega))).trans (by first | assumption | (simp [go_sem, *]; done)); have cg1_1 : w1.cell? ⟨w.heap.size, 1, none⟩ = some (.int .i64 (d)) := (hcw1 (w.heap.size) (1) (by first | omega | (simp only [World.size_alloc, World.size_drew, World.size_setCell, size_drewN]; omega))).trans (by first | assumption | (simp [go_sem, *]; done)); have og1 : w.heap.size < w1.heap.size := (by omega)
    go_wp2
    go_ret
    exact ⟨ri HE.out.symm, by (repeat' (first | (with_reducible exact Below.refl _ _) | (with_reducible assumption) | (with_reducible refine Below.alloc ?_ ?_ _) | (with_reducible refine Below.drew ?_) | (with_reducible refine below_drewN ?_ _) | (with_reducible refine Below.setCell ?_ ?_ _) | (with_reducible refine below_step (by with_reducible assumption) ?_ ?_) | (with_reducible exact Below.size (by with_reducible assumption)) | go_size))⟩
  | true =>
    rw [h1] at K
    have hd0 : 0 < d := by
      unfold lowB at h1
      rw [Bool.and_eq_true] at h1
      exact of_decide_eq_true h1.1
    cases h2 : inB n 0 1000 with
    | false =>
      have HE := Lib.hid (show gnE n d = 2 by unfold gnE; rw [h1, h2]; rfl)
      rw [h2] at K1
      clear hn hd
      go_enter Try.func57, Try.ntmps57
      go_wp2_with fail; (refine (K.out _).mono ?_; rintro e w1 ⟨rfl, hw1⟩; obtain ⟨hcw1, hfw1, hlw1, hmw1, hnw1⟩ := bcell3 hw1; have hzw1 := hw1.size; (try simp only [World.size_alloc, World.size_setCell, World.size_drew, size_drewN] at hzw1))
      have cg1_0 : w1.cell? ⟨w.heap.size, 0, none⟩ = some (.int .i64 (n)) := (hcw1 (w.heap.size) (0) (by first | omega | (simp only [World.size_alloc, World.size_drew, World.size_setCell, size_drewN]; omega))).trans (by first | assumption | (simp [go_sem, *]; done)); have cg1_1 : w1.cell? ⟨w.heap.size, 1, none⟩ = some (.int .i64 (d)) := (hcw1 (w.heap.size) (1) (by first | omega | (simp only [World.size_alloc, World.size_drew, World.size_setCell, size_drewN]; omega))).trans (by first | assumption | (simp [go_sem, *]; done)); have og1 : w.heap.size < w1.heap.size := (by omega)
      go_wp2_with fail
      refine (K1.out _).mono ?_
      rintro e w' ⟨rfl, rfl⟩
      go_wp2
      go_ret
      exact ⟨ri HE.out.symm, by (repeat' (first | (with_reducible exact Below.refl _ _) | (with_reducible assumption) | (with_reducible refine Below.alloc ?_ ?_ _) | (with_reducible refine Below.drew ?_) | (with_reducible refine below_drewN ?_ _) | (with_reducible refine Below.setCell ?_ ?_ _) | (with_reducible refine below_step (by with_reducible assumption) ?_ ?_) | (with_reducible exact Below.size (by with_reducible assumption)) | go_size))⟩
    | true =>
      rw [h2] at K1
      by_cases h3 : 1000 < d
      · have HE := Lib.hid (show gnE n d = 2 by unfold gnE; rw [h1, h2, show inB d 1 1000 = false by unfold inB; exact decide_eq_false (by omega)]; rfl)
        clear hn hd
        go_enter Try.func57, Try.ntmps57
        go_wp2_with fail; (refine (K.out _).mono ?_; rintro e w1 ⟨rfl, hw1⟩; obtain ⟨hcw1, hfw1, hlw1, hmw1, hnw1⟩ := bcell3 hw1; have hzw1 := hw1.size; (try simp only [World.size_alloc, World.size_setCell, World.size_drew, size_drewN] at hzw1))
        have cg1_0 : w1.cell? ⟨w.heap.size, 0, none⟩ = some (.int .i64 (n)) := (hcw1 (w.heap.size) (0) (by first | omega | (simp only [World.size_alloc, World.size_drew, World.size_setCell, size_drewN]; omega))).trans (by first | assumption | (simp [go_sem, *]; done)); have cg1_1 : w1.cell? ⟨w.heap.size, 1, none⟩ = some (.int .i64 (d)) := (hcw1 (w.heap.size) (1) (by first | omega | (simp only [World.size_alloc, World.size_drew, World.size_setCell, size_drewN]; omega))).trans (by first | assumption | (simp [go_sem, *]; done)); have og1 : w.heap.size < w1.heap.size := (by omega)
        go_wp2_with fail
        refine (K1.out _).mono ?_
        rintro e w' ⟨rfl, rfl⟩
        go_wp2
        go_ret
        exact ⟨ri HE.out.symm, by (repeat' (first | (with_reducible exact Below.refl _ _) | (with_reducible assumption) | (with_reducible refine Below.alloc ?_ ?_ _) | (with_reducible refine Below.drew ?_) | (with_reducible refine below_drewN ?_ _) | (with_reducible refine Below.setCell ?_ ?_ _) | (with_reducible refine below_step (by with_reducible assumption) ?_ ?_) | (with_reducible exact Below.size (by with_reducible assumption)) | go_size))⟩
      · have HE := Lib.hid (show gnE n d = 0 by unfold gnE; rw [h1, h2, show inB d 1 1000 = true by unfold inB; exact decide_eq_true (by omega)]; rfl)
        have h4 : decide (1000 < d) = false := decide_eq_false h3
        clear hn hd
        go_enter Try.func57, Try.ntmps57
        go_wp2_with fail; (refine (K.out _).mono ?_; rintro e w1 ⟨rfl, hw1⟩; obtain ⟨hcw1, hfw1, hlw1, hmw1, hnw1⟩ := bcell3 hw1; have hzw1 := hw1.size; (try simp only [World.size_alloc, World.size_setCell, World.size_drew, size_drewN] at hzw1))
        have cg1_0 : w1.cell? ⟨w.heap.size, 0, none⟩ = some (.int .i64 (n)) := (hcw1 (w.heap.size) (0) (by first | omega | (simp only [World.size_alloc, World.size_drew, World.size_setCell, size_drewN]; omega))).trans (by first | assumption | (simp [go_sem, *]; done)); have cg1_1 : w1.cell? ⟨w.heap.size, 1, none⟩ = some (.int .i64 (d)) := (hcw1 (w.heap.size) (1) (by first | omega | (simp only [World.size_alloc, World.size_drew, World.size_setCell, size_drewN]; omega))).trans (by first | assumption | (simp [go_sem, *]; done)); have og1 : w.heap.size < w1.heap.size := (by omega)
        go_wp2_with fail
        refine (K1.out _).mono ?_
        rintro e w' ⟨rfl, rfl⟩
        go_wp2
        go_ret
        exact ⟨ri HE.out.symm, by (repeat' (first | (with_reducible exact Below.refl _ _) | (with_reducible assumption) | (with_reducible refine Below.alloc ?_ ?_ _) | (with_reducible refine Below.drew ?_) | (with_reducible refine below_drewN ?_ _) | (with_reducible refine Below.setCell ?_ ?_ _) | (with_reducible refine below_step (by with_reducible assumption) ?_ ?_) | (with_reducible exact Below.size (by with_reducible assumption)) | go_size))⟩
end Go.Proofs.Ythgnemkfaiejbaa
