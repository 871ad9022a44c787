/-
  TraceChecks: the walk.
-/
import Derived.Test.YthgnemkfaiejbaaTFc
import Derived.Test.YthgnemkfaiejbaaTAwake
set_option linter.unusedVariables false
set_option linter.unusedSimpArgs false
namespace Go.Proofs.Ythgnemkfaiejbaa
open Go.RowKit

/-- the words of a trace when k are laid -/
def wz (u : Nat → Nat) (k : Nat) : Nat → Nat := fun i => if i < k then u i else 0
theorem wz_bd {u : Nat → Nat} {n k : Nat} (h : ∀ i, i < n → u i < 2 ^ 32) (hk : k ≤ n) : Hid (∀ i, i < 64 → wz u k i < 2 ^ 32) := Lib.hid fun i _ => by
  unfold wz
  by_cases c : i < k
  · rw [if_pos c]; exact h i (by omega)
  · rw [if_neg c]; decide
theorem wz_zero (u : Nat → Nat) : fC (wz u 0) 64 = tC fun _ => 0 := by
  rw [tC_fC]
  exact fC_congr fun i _ => by unfold wz; rw [if_neg (by omega)]; decide +kernel
theorem wz_succ (u : Nat → Nat) {k : Nat} (h : k < 64) : (fC (wz u k) 64).setIfInBounds k (.float .f32 (u k)) = fC (wz u (k + 1)) 64 := by
  rw [fC_set _ _ h]
  exact fC_congr fun i _ => by
    unfold up wz
    by_cases c : i = k
    · rw [if_pos c, if_pos (by omega), c]
    · rw [if_neg c]
      by_cases d : i < k
      · rw [if_pos d, if_pos (by omega)]
      · rw [if_neg d, if_neg (by omega)]
set_option maxRecDepth 100000 in
set_option maxHeartbeats 2000000 in
theorem traceChecks_any (w : World) (v0 : Value) (u : Nat → Nat) (n : Nat) (hr0 : Hid (FRow w v0 u n)) :
    Calls Try.prog 3 #[v0] w fun e w' => e = .returned (.bool true) ∧ Below w.heap.size w w' := by
  have KA := Lib.hid awake3_any
  have HZ := Lib.hid zero_trace
  have hs0 := Lib.hid (tC_size fun _ => 0)
  have hz0 := Lib.hid (wz_zero u)
  have HR := Lib.hid (fun (W : World) hB => hr0.out.below (w' := W) hB)
  obtain ⟨q0, c0, rfl, hc0, hu, -⟩ := hr0.out
  have HU := Lib.hid hu
  obtain ⟨hc1, hc2⟩ := hc0
  unfold maxLen at hc2
  clear hr0 hu
  generalize (tC fun _ => 0) = z at *
  go_enter Try.func3, Try.ntmps3
  go_wp2_with fail; (refine (KA.out _).mono ?_; rintro e w1 ⟨rfl, hw1⟩; obtain ⟨hcw1, hfw1, hlw1, hmw1, hnw1⟩ := bcell3 hw1; have hzw1 := hw1.size; (try simp only [World.size_alloc, World.size_setCell, World.size_drew, size_drewN] at hzw1))
  clear hcw1 hfw1 hlw1 hmw1 hnw1
  have HR1 := Lib.hid (HR.out w1 (by (repeat' (first | (with_reducible exact Below.refl _ _) | (with_reducible assumption) | (with_reducible refine Below.alloc ?_ ?_ _) | (with_reducible refine Below.drew ?_) | (with_reducible refine below_drewN ?_ _) | (with_reducible refine Below.setCell ?_ ?_ _) | (with_reducible refine below_step (by with_reducible assumption) ?_ ?_) | (with_reducible exact Below.size (by with_reducible assumption)) | go_size))))
  clear HR
  go_wp2_with (refine wpl_alloc rfl 26 z rfl (HZ.out _) ?_)
  go_loopw [4] (fun i wr => ∃ k : Nat, k ≤ 64 ∧ k ≤ n ∧ i = .int .i64 (k : Int) ∧ Below w1.heap.size w1 wr ∧ wr.heap[w1.heap.size]? = some (.cells (fC (wz u k) 64) 26 (0, 0))) (fun i _ => 64 - (intOf i).toNat)
  case atStart => exact ⟨0, Nat.zero_le _, Nat.zero_le _, rfl, by (repeat' (first | (with_reducible exact Below.refl _ _) | (with_reducible assumption) | (with_reducible refine Below.alloc ?_ ?_ _) | (with_reducible refine Below.drew ?_) | (with_reducible refine below_drewN ?_ _) | (with_reducible refine Below.setCell ?_ ?_ _) | (with_reducible refine below_step (by with_reducible assumption) ?_ ?_) | (with_reducible exact Below.size (by with_reducible assumption)) | go_size)), by rw [hz0.out]; exact heap_alloc_last w1 _⟩
  case round =>
    obtain ⟨k, hk, hkn, rfl, hB, hg1⟩ := hrel
    by_cases hlt : k < 64 ∧ k < n
    · obtain ⟨hl, hn⟩ := hlt
      obtain ⟨q1, c1, hq, _, _, hcell⟩ := HR1.out
      injection hq with hq1 hq2 hq3
      subst hq1
      rcases hcell with h0 | ⟨b, o, rfl, hb, hcell⟩
      · omega
      have d0 := (hB.cell (p := ⟨b, o + k, none⟩) hb).trans (hcell k hn)
      have d1 : wr.cell? ⟨w1.heap.size, k, none⟩ = some (.float .f32 (wz u k k)) := (cell_block hg1).trans (fC_get _ hl)
      have f1 : wr.frozen? ⟨w1.heap.size, k, none⟩ = false := frozen_block hg1
      have hset := wz_succ u hl
      clear hcell
      generalize u k = v at *
      have HB := Lib.hid hB
      have G1 := Lib.hid hg1
      have HSET := Lib.hid hset
      clear hB hg1 hset
      have e0 : (0 : Int) ≤ (k : Int) := by omega
      have e1 : (k : Int) < 64 := by omega
      have e2 : (k : Int) < (n : Int) := by omega
      go_wp2
      go_roundw
      case rel =>
        refine ⟨k + 1, by omega, by omega, by go_num, by have := HB.out; (repeat' (first | (with_reducible exact Below.refl _ _) | (with_reducible assumption) | (with_reducible refine Below.alloc ?_ ?_ _) | (with_reducible refine Below.drew ?_) | (with_reducible refine below_drewN ?_ _) | (with_reducible refine Below.setCell ?_ ?_ _) | (with_reducible refine below_step (by with_reducible assumption) ?_ ?_) | (with_reducible exact Below.size (by with_reducible assumption)) | go_size)), ?_⟩
        rw [block_setCell G1.out, HSET.out]
      case measure => simp [intOf]; omega
    · have K1 := Lib.hid (fun W => checkTrace_w (wz u k) W (wz_bd HU.out hkn))
      have K2 := Lib.hid (fun W => checkTraceR_w (wz u k) W (wz_bd HU.out hkn))
      have hs := Lib.hid (fC_size (wz u k) 64)
      generalize cN (wz u k) 64 = N at *
      generalize cE (wz u k) 64 = E at *
      generalize fC (wz u k) 64 = d at *
      have HB := Lib.hid hB
      clear hB
      by_cases hl : k < 64
      · have e1 : (k : Int) < 64 := by omega
        have e2 : ¬ (k : Int) < (n : Int) := by omega
        have hwr : w1.heap.size < wr.heap.size := (Array.getElem?_eq_some_iff.1 hg1).1
        go_wp2_with (refine wpl_load rfl 26 26 _ w1.heap.size d (0, 0) _ rfl rfl Try.underlying26 rfl (by rw [hs.out]; exact infoTrace) hg1 ?_)
        refine (K1.out _).mono ?_
        rintro e w2 ⟨rfl, hw2⟩
        have hg2 := block_below0 hw2 hg1
        have hz2 := hw2.size
        go_wp2_with (refine wpl_load rfl 26 26 _ w1.heap.size d (0, 0) _ rfl rfl Try.underlying26 rfl (by rw [hs.out]; exact infoTrace) hg2 ?_)
        refine (K2.out _).mono ?_
        rintro e w3 ⟨rfl, hw3⟩
        have hz3 := hw3.size
        go_wp2
        go_ret
        exact ⟨rfl, by have := HB.out; have hzb := this.size; (repeat' (first | (with_reducible exact Below.refl _ _) | (with_reducible assumption) | (with_reducible refine Below.alloc ?_ ?_ _) | (with_reducible refine Below.drew ?_) | (with_reducible refine below_drewN ?_ _) | (with_reducible refine Below.setCell ?_ ?_ _) | (with_reducible refine below_step (by with_reducible assumption) ?_ ?_) | (with_reducible exact Below.size (by with_reducible assumption)) | go_size))⟩
      · have e1 : ¬ (k : Int) < 64 := by omega
        have hwr : w1.heap.size < wr.heap.size := (Array.getElem?_eq_some_iff.1 hg1).1
        by_cases hn : k < n
        · have e2 : (k : Int) < (n : Int) := by omega
          go_wp2_with (refine wpl_load rfl 26 26 _ w1.heap.size d (0, 0) _ rfl rfl Try.underlying26 rfl (by rw [hs.out]; exact infoTrace) hg1 ?_)
          refine (K1.out _).mono ?_
          rintro e w2 ⟨rfl, hw2⟩
          have hg2 := block_below0 hw2 hg1
          have hz2 := hw2.size
          go_wp2_with (refine wpl_load rfl 26 26 _ w1.heap.size d (0, 0) _ rfl rfl Try.underlying26 rfl (by rw [hs.out]; exact infoTrace) hg2 ?_)
          refine (K2.out _).mono ?_
          rintro e w3 ⟨rfl, hw3⟩
          have hz3 := hw3.size
          go_wp2
          go_ret
          exact ⟨rfl, by have := HB.out; have hzb := this.size; (repeat' (first | (with_reducible exact Below.refl _ _) | (with_reducible assumption) | (with_reducible refine Below.alloc ?_ ?_ _) | (with_reducible refine Below.drew ?_) | (with_reducible refine below_drewN ?_ _) | (with_reducible refine Below.setCell ?_ ?_ _) | (with_reducible refine below_step (by with_reducible assumption) ?_ ?_) | (with_reducible exact Below.size (by with_reducible assumption)) | go_size))⟩
        · have e2 : ¬ (k : Int) < (n : Int) := by omega
          go_wp2_with (refine wpl_load rfl 26 26 _ w1.heap.size d (0, 0) _ rfl rfl Try.underlying26 rfl (by rw [hs.out]; exact infoTrace) hg1 ?_)
          refine (K1.out _).mono ?_
          rintro e w2 ⟨rfl, hw2⟩
          have hg2 := block_below0 hw2 hg1
          have hz2 := hw2.size
          go_wp2_with (refine wpl_load rfl 26 26 _ w1.heap.size d (0, 0) _ rfl rfl Try.underlying26 rfl (by rw [hs.out]; exact infoTrace) hg2 ?_)
          refine (K2.out _).mono ?_
          rintro e w3 ⟨rfl, hw3⟩
          have hz3 := hw3.size
          go_wp2
          go_ret
          exact ⟨rfl, by have := HB.out; have hzb := this.size; (repeat' (first | (with_reducible exact Below.refl _ _) | (with_reducible assumption) | (with_reducible refine Below.alloc ?_ ?_ _) | (with_reducible refine Below.drew ?_) | (with_reducible refine below_drewN ?_ _) | (with_reducible refine Below.setCell ?_ ?_ _) | (with_reducible refine below_step (by with_reducible assumption) ?_ ?_) | (with_reducible exact Below.size (by with_reducible assumption)) | go_size))⟩
end Go.Proofs.Ythgnemkfaiejbaa
