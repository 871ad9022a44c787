/-
  ERRORS of traces of whole numbers: the first wrong sample.
-/
import Derived.Test.YthgnemkfaiejbaaTGate
import Derived.Test.YthgnemkfaiejbaaTWith
set_option linter.unusedVariables false
set_option linter.unusedSimpArgs false
namespace Go.Proofs.Ythgnemkfaiejbaa
open Go.RowKit

theorem block_below0 {w w' : World} (h : Below w.heap.size w w') {g : Nat} {b : Obj} (hb : w.heap[g]? = some b) : w'.heap[g]? = some b := block_below h (Array.getElem?_eq_some_iff.1 hb).1 hb
/-- the first wrong sample below n -/
def fw (x : Nat → Int) : Nat → Option Nat
  | 0 => none
  | n + 1 => match fw x n with
    | some k => some k
    | none => if (x n).natAbs ≤ 2047 then none else some n
theorem fw_none (x : Nat → Int) : ∀ n, fw x n = none ↔ ∀ k, k < n → (x k).natAbs ≤ 2047
  | 0 => by simp [fw]
  | n + 1 => by
    have ih := fw_none x n
    unfold fw
    cases h : fw x n with
    | some j =>
      simp only [reduceCtorEq, false_iff]
      intro hh
      rw [ih.2 (fun k hk => hh k (by omega))] at h
      cases h
    | none =>
      simp only
      have ih' := ih.1 h
      by_cases c : (x n).natAbs ≤ 2047
      · rw [if_pos c]
        simp only [true_iff]
        intro k hk
        by_cases e : k = n
        · rw [e]; exact c
        · exact ih' k (by omega)
      · rw [if_neg c]
        simp only [reduceCtorEq, false_iff]
        intro hh
        exact c (hh n (by omega))
theorem fw_stay (x : Nat → Int) {k j : Nat} (h : fw x j = some k) : ∀ n, fw x (j + n) = some k
  | 0 => h
  | n + 1 => by
    show (match fw x (j + n) with | some k => some k | none => _) = _
    rw [fw_stay x h n]
def tN (x : Nat → Int) (n : Nat) : Int := match fw x n with | some k => (k : Int) | none => 0
def tE (x : Nat → Int) (n : Nat) : Int := match fw x n with | some k => 2 | none => 0
theorem tE_ok {x : Nat → Int} {n : Nat} (h : ∀ k, k < n → (x k).natAbs ≤ 2047) : tE x n = 0 := by unfold tE; rw [(fw_none x n).2 h]
theorem tN_ok {x : Nat → Int} {n : Nat} (h : ∀ k, k < n → (x k).natAbs ≤ 2047) : tN x n = 0 := by unfold tN; rw [(fw_none x n).2 h]
theorem tE_zero {x : Nat → Int} {n : Nat} (h : tE x n = 0) : ∀ k, k < n → (x k).natAbs ≤ 2047 := by
  unfold tE at h
  cases e : fw x n with
  | some k => rw [e] at h; simp at h
  | none => exact (fw_none x n).1 e
theorem tE_two {x : Nat → Int} {n : Nat} (h : ¬ tE x n = 0) : tE x n = 2 := by
  unfold tE at *
  cases e : fw x n with
  | some k => rfl
  | none => rw [e] at h; simp at h
set_option maxRecDepth 100000 in
set_option maxHeartbeats 1000000 in
theorem samplesError_any (x : Nat → Int) (g n cap : Nat) (w : World) (hn : n ≤ 20000) (hc : n ≤ cap ∧ cap ≤ maxLen) (hx : Hid (∀ k, k < n → (x k).natAbs < 2 ^ 24)) (hcell : Hid (∀ k, k < n → w.cell? ⟨g, k, none⟩ = some (f32 (x k)))) :
    Calls Try.prog 96 #[.slice (some ⟨g, 0, none⟩) n cap] w fun e w' => e = .returned (.tuple #[.int .i64 (tN x n), .int .i64 (tE x n)]) ∧ w = w' := by
  have hmax := hc.2
  unfold maxLen at hmax
  go_enter Try.func96, Try.ntmps96
  go_wp2
  go_loop [9] (fun i => ∃ k : Nat, k ≤ n ∧ fw x k = none ∧ i = .int .i64 (k : Int)) (fun i => n - (intOf i).toNat)
  case atStart => exact ⟨0, Nat.zero_le _, rfl, rfl⟩
  case round =>
    obtain ⟨k, hk, hfw, rfl⟩ := hrel
    have HFW := Lib.hid hfw
    clear hfw
    by_cases hlt : k < n
    · have hc0 := hcell.out k hlt
      have hxk := hx.out k hlt
      have hcv : ∀ w, _ := fun w => run_conv32 (x k) w (by omega)
      have K := Lib.hid (fun W => sampleError_any (x k) W (by omega))
      unfold f32 at hc0
      unfold f64 at K
      generalize wd Ieee.single (x k) = a at *
      generalize wd Ieee.double (x k) = b at *
      have e0 : (0 : Int) ≤ (k : Int) := by omega
      have e1 : (k : Int) < (n : Int) := by omega
      by_cases hg : (x k).natAbs ≤ 2047
      · rw [show sE (x k) = 0 by unfold sE; rw [if_pos hg]] at K
        have HW := Lib.hid (show fw x (k + 1) = none by show (match fw x k with | some k => some k | none => _) = _; rw [HFW.out]; simp only; rw [if_pos hg])
        clear hxk hg
        go_wp2_with fail
        refine (K.out _).mono ?_
        rintro e w' ⟨rfl, rfl⟩
        go_wp2
        go_round
        case rel => exact ⟨k + 1, by omega, HW.out, by go_num⟩
        case measure => simp [intOf]; omega
      · rw [show sE (x k) = 2 by unfold sE; rw [if_neg hg]] at K
        have hw1 : fw x (k + 1) = some k := by show (match fw x k with | some k => some k | none => _) = _; rw [HFW.out]; simp only; rw [if_neg hg]
        have hw2 := fw_stay x hw1 (n - (k + 1))
        rw [show k + 1 + (n - (k + 1)) = n by omega] at hw2
        have HN := Lib.hid (show tN x n = (k : Int) by unfold tN; rw [hw2])
        have HE := Lib.hid (show tE x n = 2 by unfold tE; rw [hw2])
        clear hxk hg hw1 hw2
        go_wp2_with fail
        refine (K.out _).mono ?_
        rintro e w' ⟨rfl, rfl⟩
        go_wp2
        go_ret2
        exact ⟨by rw [HN.out, HE.out]; rfl, rfl⟩
    · have e1 : ¬ (k : Int) < (n : Int) := by omega
      obtain rfl : k = n := by omega
      have HN := Lib.hid (show tN x k = 0 by unfold tN; rw [HFW.out])
      have HE := Lib.hid (show tE x k = 0 by unfold tE; rw [HFW.out])
      go_wp2
      go_ret2
      exact ⟨by rw [HN.out, HE.out]; rfl, rfl⟩
set_option maxRecDepth 100000 in
set_option maxHeartbeats 1000000 in
theorem checkTrace_any (x : Nat → Int) (w : World) (hx : Hid (∀ k, k < 64 → (x k).natAbs < 2 ^ 24)) :
    Calls Try.prog 22 #[.agg (tC x)] w fun e w' => e = .returned (.tuple #[.int .i64 (tN x 64), .int .i64 (tE x 64)]) ∧ Below w.heap.size w w' := by
  have K := Lib.hid (fun W hc => samplesError_any x w.heap.size 64 64 W (by omega) ⟨Nat.le_refl _, by unfold maxLen; omega⟩ hx hc)
  go_enter Try.func22, Try.ntmps22
  go_wp2_with fail
  refine (K.out _ (Lib.hid fun k hk => (cell_block (heap_alloc_last w _)).trans (tC_get x hk))).mono ?_
  rintro e w' ⟨rfl, rfl⟩
  go_wp2
  go_ret2
  exact ⟨rfl, by (repeat' (first | (with_reducible exact Below.refl _ _) | (with_reducible assumption) | (with_reducible refine Below.alloc ?_ ?_ _) | (with_reducible refine Below.drew ?_) | (with_reducible refine below_drewN ?_ _) | (with_reducible refine Below.setCell ?_ ?_ _) | (with_reducible refine below_step (by with_reducible assumption) ?_ ?_) | (with_reducible exact Below.size (by with_reducible assumption)) | go_size))⟩
set_option maxRecDepth 100000 in
set_option maxHeartbeats 1000000 in
theorem traceError_any (x : Nat → Int) (w : World) (hx : Hid (∀ k, k < 64 → (x k).natAbs < 2 ^ 24)) :
    Calls Try.prog 105 #[.agg (tC x)] w fun e w' => e = .returned (.int .i64 (tE x 64)) ∧ Below w.heap.size w w' := by
  have K := Lib.hid (fun W => checkTrace_any x W hx)
  have hs := Lib.hid (tC_size x)
  generalize tC x = c at *
  go_enter Try.func105, Try.ntmps105
  go_wp2_with (refine wpl_load rfl 26 26 _ w.heap.size c (0, 0) _ rfl rfl Try.underlying26 rfl (by rw [hs.out]; exact infoTrace) (heap_alloc_last w _) ?_)
  refine (K.out _).mono ?_
  rintro e w1 ⟨rfl, hw1⟩
  have hz1 := hw1.size
  go_wp2
  go_ret
  exact ⟨rfl, by (repeat' (first | (with_reducible exact Below.refl _ _) | (with_reducible assumption) | (with_reducible refine Below.alloc ?_ ?_ _) | (with_reducible refine Below.drew ?_) | (with_reducible refine below_drewN ?_ _) | (with_reducible refine Below.setCell ?_ ?_ _) | (with_reducible refine below_step (by with_reducible assumption) ?_ ?_) | (with_reducible exact Below.size (by with_reducible assumption)) | go_size))⟩
end Go.Proofs.Ythgnemkfaiejbaa
