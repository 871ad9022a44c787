/-
  TopDelayedEcho: contracts for the trace that is delayed and strengthened.
-/
import Derived.Test.YthgnemkfaiejbaaTDelM
import Derived.Test.YthgnemkfaiejbaaTGained
import Derived.Test.YthgnemkfaiejbaaTAwake
import Derived.Test.YthgnemkfaiejbaaTMade
set_option linter.unusedVariables false
set_option linter.unusedSimpArgs false
namespace Go.Proofs.Ythgnemkfaiejbaa
open Go.RowKit

set_option maxRecDepth 100000 in
theorem wholeB_any (n : Int) (w : World) : Calls Try.prog 59 #[.int .i64 n] w fun e w' => e = .returned (.agg #[.int .i64 n, .int .i64 1]) ∧ Below w.heap.size w w' := by
  go_enter Try.func59, Try.ntmps59
  go_wp2
  refine bodyPost_ret (by simp [results, Try.results59, go_sem, *]; rfl) rfl ?_
  exact ⟨rfl, by (repeat' (first | (with_reducible exact Below.refl _ _) | (with_reducible assumption) | (with_reducible refine Below.alloc ?_ ?_ _) | (with_reducible refine Below.drew ?_) | (with_reducible refine below_drewN ?_ _) | (with_reducible refine Below.setCell ?_ ?_ _) | (with_reducible refine below_step (by with_reducible assumption) ?_ ?_) | (with_reducible exact Below.size (by with_reducible assumption)) | go_size))⟩
set_option maxRecDepth 100000 in
set_option maxHeartbeats 2000000 in
theorem traced_any (w : World) : Calls Try.prog 91 #[] w fun e w' => e = .returned (.bool true) ∧ Below w.heap.size w w' := by
  have KS := Lib.hid (fun W => spike_any 10 100 W (by decide) (by decide))
  have KS2 := Lib.hid (fun W => spike_any 13 50 W (by decide) (by decide))
  have KP := Lib.hid awP
  have KL := Lib.hid awL
  generalize tC (spk 10 100) = c at *
  generalize tC (spk 13 50) = d at *
  go_enter Try.func91, Try.ntmps91
  go_wp2_with fail; (refine (KS.out _).mono ?_; rintro e w1 ⟨rfl, hw1⟩; obtain ⟨hcw1, hfw1, hlw1, hmw1, hnw1⟩ := bcell3 hw1; have hzw1 := hw1.size; (try simp only [World.size_alloc, World.size_setCell, World.size_drew, size_drewN] at hzw1))
  clear hcw1 hfw1 hlw1 hmw1 hnw1
  go_wp2_with fail; (refine (KP.out _).mono ?_; rintro e w2 ⟨rfl, hw2⟩; obtain ⟨hcw2, hfw2, hlw2, hmw2, hnw2⟩ := bcell3 hw2; have hzw2 := hw2.size; (try simp only [World.size_alloc, World.size_setCell, World.size_drew, size_drewN] at hzw2))
  clear hcw2 hfw2 hlw2 hmw2 hnw2
  go_wp2_with fail
  go_wp2_with fail; (refine (KS.out _).mono ?_; rintro e w3 ⟨rfl, hw3⟩; obtain ⟨hcw3, hfw3, hlw3, hmw3, hnw3⟩ := bcell3 hw3; have hzw3 := hw3.size; (try simp only [World.size_alloc, World.size_setCell, World.size_drew, size_drewN] at hzw3))
  have cp3_0 : w3.cell? ⟨w2.heap.size, 0, none⟩ = some (.int .i64 (7)) := (hcw3 (w2.heap.size) (0) (by first | omega | (simp only [World.size_alloc, World.size_drew, World.size_setCell, size_drewN]; omega))).trans (by first | assumption | (simp [go_sem, *]; done)); have cp3_1 : w3.cell? ⟨w2.heap.size, 1, none⟩ = some (.int .i64 (10000)) := (hcw3 (w2.heap.size) (1) (by first | omega | (simp only [World.size_alloc, World.size_drew, World.size_setCell, size_drewN]; omega))).trans (by first | assumption | (simp [go_sem, *]; done)); have op3 : w2.heap.size < w3.heap.size := (by omega)
  clear hcw3 hfw3 hlw3 hmw3 hnw3
  go_wp2_with fail; (refine (KS2.out _).mono ?_; rintro e w4 ⟨rfl, hw4⟩; obtain ⟨hcw4, hfw4, hlw4, hmw4, hnw4⟩ := bcell3 hw4; have hzw4 := hw4.size; (try simp only [World.size_alloc, World.size_setCell, World.size_drew, size_drewN] at hzw4))
  have cp4_0 : w4.cell? ⟨w2.heap.size, 0, none⟩ = some (.int .i64 (7)) := (hcw4 (w2.heap.size) (0) (by first | omega | (simp only [World.size_alloc, World.size_drew, World.size_setCell, size_drewN]; omega))).trans (by first | assumption | (simp [go_sem, *]; done)); have cp4_1 : w4.cell? ⟨w2.heap.size, 1, none⟩ = some (.int .i64 (10000)) := (hcw4 (w2.heap.size) (1) (by first | omega | (simp only [World.size_alloc, World.size_drew, World.size_setCell, size_drewN]; omega))).trans (by first | assumption | (simp [go_sem, *]; done)); have op4 : w2.heap.size < w4.heap.size := (by omega)
  clear cp3_0 cp3_1
  clear hcw4 hfw4 hlw4 hmw4 hnw4
  go_wp2_with fail; (refine (KL.out _).mono ?_; rintro e w5 ⟨rfl, hw5⟩; obtain ⟨hcw5, hfw5, hlw5, hmw5, hnw5⟩ := bcell3 hw5; have hzw5 := hw5.size; (try simp only [World.size_alloc, World.size_setCell, World.size_drew, size_drewN] at hzw5))
  have cp5_0 : w5.cell? ⟨w2.heap.size, 0, none⟩ = some (.int .i64 (7)) := (hcw5 (w2.heap.size) (0) (by first | omega | (simp only [World.size_alloc, World.size_drew, World.size_setCell, size_drewN]; omega))).trans (by first | assumption | (simp [go_sem, *]; done)); have cp5_1 : w5.cell? ⟨w2.heap.size, 1, none⟩ = some (.int .i64 (10000)) := (hcw5 (w2.heap.size) (1) (by first | omega | (simp only [World.size_alloc, World.size_drew, World.size_setCell, size_drewN]; omega))).trans (by first | assumption | (simp [go_sem, *]; done)); have op5 : w2.heap.size < w5.heap.size := (by omega)
  clear cp4_0 cp4_1
  clear hcw5 hfw5 hlw5 hmw5 hnw5
  go_wp2
  go_ret
  exact ⟨rfl, by (repeat' (first | (with_reducible exact Below.refl _ _) | (with_reducible assumption) | (with_reducible refine Below.alloc ?_ ?_ _) | (with_reducible refine Below.drew ?_) | (with_reducible refine below_drewN ?_ _) | (with_reducible refine Below.setCell ?_ ?_ _) | (with_reducible refine below_step (by with_reducible assumption) ?_ ?_) | (with_reducible exact Below.size (by with_reducible assumption)) | go_size))⟩
/-- the row with three samples of silence in front -/
def dT (x : Nat → Int) : Nat → Int := fun i => if i < 3 then 0 else x (i - 3)
/-- its trace -/
def dX (x : Nat → Int) (n : Nat) : Nat → Int := rz (dT x) (n + 3)
theorem dX_bd {x : Nat → Int} {n : Nat} (h : ∀ i, i < n → (x i).natAbs ≤ 200) (k : Nat) : (dX x n k).natAbs ≤ 200 := by
  unfold dX rz dT
  split
  · split
    · decide
    · exact h _ (by omega)
  · decide
theorem dX_hi (x : Nat → Int) {n : Nat} (hn : n ≤ 20) (t : Nat) (ht : 23 ≤ t) : dX x n t = 0 := by unfold dX rz; rw [if_neg (by omega)]
theorem dX_lo (x : Nat → Int) (n : Nat) {t : Nat} (ht : t < 3) : dX x n t = 0 := by
  unfold dX rz dT
  rw [if_pos ht]
  split <;> rfl
theorem dX_some {x : Nat → Int} {n : Nat} (hn : n ≤ 20) (h : sB x n = true) : ∃ i, i < 64 ∧ dX x n i ≠ 0 := by
  obtain ⟨i, a, b⟩ := sB_true h
  refine ⟨i + 3, by omega, ?_⟩
  unfold dX rz dT
  rw [if_pos (by omega), if_neg (by omega), Nat.add_sub_cancel]
  exact b
theorem gnE_whole {g : Int} (hg : 1 ≤ g ∧ g ≤ 10) : gnE g 1 = 0 := by
  have h : gcdR g 1 = 1 := by
    rw [gcdR_step g 1 (by decide), Int.tmod_one, gcdR_zero]; rfl
  unfold gnE lowB
  rw [h, show inB g 0 1000 = true by unfold inB; exact decide_eq_true (by omega)]
  rfl
theorem gainD_ok (x : Nat → Int) (g : Int) (w : World) (hx : ∀ k, (x k).natAbs ≤ 200) (hg : 1 ≤ g ∧ g ≤ 10) :
    Calls Try.prog 56 #[.agg (tC x), .agg #[.int .i64 g, .int .i64 1]] w fun e w' => e = .returned (.tuple #[.agg (tC (gnT x g)), .int .i64 0, .int .i64 0]) ∧ Below w.heap.size w w' := by
  have h := gained_ok x g 1 w (Lib.hid fun k _ => by have := hx k; omega) (by unfold in64; omega) (by unfold in64; omega) (gnE_whole hg)
  rw [gK_whole hx hg 64, show tC (fun k => gC (x k) g 1) = tC (gnT x g) from tC_congr fun i _ => (gC_whole (hx i) hg).2] at h
  exact h
theorem gnT_bd {x : Nat → Int} {g : Int} (hx : ∀ k, (x k).natAbs ≤ 200) (hg : 1 ≤ g ∧ g ≤ 10) (k : Nat) : (gnT x g k).natAbs ≤ 2047 := by
  have : (x k * g).natAbs ≤ 200 * 10 := by rw [Int.natAbs_mul]; exact Nat.mul_le_mul (hx k) (by omega)
  unfold gnT
  omega
end Go.Proofs.Ythgnemkfaiejbaa
