/-
  ANALYTIC samples of right traces.
-/
import Derived.Test.YthgnemkfaiejbaaTClr
import Derived.Test.YthgnemkfaiejbaaTReg
set_option linter.unusedVariables false
set_option linter.unusedSimpArgs false
namespace Go.Proofs.Ythgnemkfaiejbaa
open Go.RowKit

theorem heap_drew (w : World) (k : Nat) : w.drew.heap[k]? = w.heap[k]? := rfl
def c64 (a b : Int) : Value := .complex .f32 (wd Ieee.single a) (wd Ieee.single b)
/-- the cells of analytic samples -/
def aC (p q : Nat → Int) : Array Value := ((List.range 61).map fun i => c64 (p i) (q i)).toArray
theorem aC_size (p q : Nat → Int) : (aC p q).size = 61 := by simp [aC]
theorem aC_get (p q : Nat → Int) {i : Nat} (h : i < 61) : (aC p q)[i]? = some (c64 (p i) (q i)) := by
  unfold aC
  rw [List.getElem?_toArray, List.getElem?_map, List.getElem?_range h]; rfl
theorem aC_one (p q : Nat → Int) : (aC p q).all (·.oneCell') = true := by
  rw [Array.all_eq_true_iff_forall_mem]
  intro v hv
  unfold aC at hv
  simp only [List.mem_toArray, List.mem_map] at hv
  obtain ⟨i, _, rfl⟩ := hv
  rfl
theorem aC_congr {p q p' q' : Nat → Int} (h : ∀ i, i < 61 → p i = p' i ∧ q i = q' i) : aC p q = aC p' q' := by
  unfold aC
  congr 1
  apply List.map_congr_left
  intro i hi
  rw [(h i (List.mem_range.1 hi)).1, (h i (List.mem_range.1 hi)).2]
theorem aC_set (p q : Nat → Int) {k : Nat} (hk : k < 61) : (aC (tF p k) (tF q k)).setIfInBounds k (c64 (p k) (q k)) = aC (tF p (k + 1)) (tF q (k + 1)) := by
  apply Array.ext_getElem?
  intro i
  rw [Array.getElem?_setIfInBounds, aC_size]
  by_cases hi : i < 61
  · by_cases e : k = i
    · subst e
      rw [if_pos rfl, if_pos hk, aC_get _ _ hi]
      unfold tF
      rw [if_pos (by omega), if_pos (by omega)]
    · rw [if_neg e, aC_get _ _ hi, aC_get _ _ hi]
      unfold tF
      by_cases h2 : i < k
      · rw [if_pos h2, if_pos h2, if_pos (by omega), if_pos (by omega)]
      · rw [if_neg h2, if_neg h2, if_neg (by omega), if_neg (by omega)]
  · have e : ¬ k = i := by omega
    rw [if_neg e]
    rw [Array.getElem?_eq_none (by rw [aC_size]; omega), Array.getElem?_eq_none (by rw [aC_size]; omega)]
theorem zero_ana (w : World) : (zeroValue 92).run Try.prog w = .ok (.agg (aC (fun _ => 0) fun _ => 0)) w :=
  (Try.zeroValue92 w).trans (congrArg (fun c => Result.ok (Value.agg c) w) (by kernel_rfl))
theorem infoAna : (Try.prog.info? 92).map (·.size) = some 61 := by kernel_rfl
theorem sub32 (a b : Int) (w : World) (ha : a.natAbs ≤ 2047) (hb : b.natAbs ≤ 2047) : (binOp .sub 24 (.float .f32 (wd Ieee.single a)) (.float .f32 (wd Ieee.single b))).run Try.prog w = .ok (.float .f32 (wd Ieee.single (a - b))) w :=
  run_float_arith w .sub _ .f32 _ _ _ (sub_wd fine_single (by show _ < 16777216; omega) (by show _ < 16777216; omega) (by show _ < 16777216; omega))
/-- both parts -/
def anP (x : Nat → Int) (n : Nat) : Int := x n - x (n + 2)
def anQ (x : Nat → Int) (n : Nat) : Int := x (n + 1) - x (n + 3)
set_option maxRecDepth 100000 in
set_option maxHeartbeats 2000000 in
theorem analytic_ok (x : Nat → Int) (w : World) (hx : Hid (∀ k, k < 64 → (x k).natAbs ≤ 2047)) :
    Calls Try.prog 60 #[.agg (tC x)] w fun e w' => e = .returned (.tuple #[.agg (aC (anP x) (anQ x)), .int .i64 0]) ∧ Below w.heap.size w w' := by
  have K1 := Lib.hid (fun W => traceError_ok x W hx)
  have K2 := Lib.hid (fun W => cleared_ok x W hx)
  have hs := Lib.hid (tC_size x)
  have ho := Lib.hid (tC_one x)
  have HG := Lib.hid (fun k (h : k < 64) => tC_get x h)
  have hzs := Lib.hid (aC_size (fun _ => 0) fun _ => 0)
  generalize hc : tC x = c at *
  have HC := Lib.hid hc
  clear hc
  obtain ⟨z, hz⟩ : ∃ z, z = aC (fun _ => 0) fun _ => 0 := ⟨_, rfl⟩
  rw [← hz] at hzs
  have hzv : ∀ w : World, (zeroValue 92).run Try.prog w = .ok (.agg z) w := fun w => by rw [hz]; exact zero_ana w
  have HZV := Lib.hid hzv
  have HZ := Lib.hid hz
  clear hz hzv
  go_enter Try.func60, Try.ntmps60
  go_wp2_with (first | (refine wpl_alloc rfl 92 z rfl (HZV.out _) ?_) | (refine wpl_load rfl 26 26 _ w.heap.size c (0, 0) _ rfl rfl Try.underlying26 rfl (by rw [hs.out]; exact infoTrace) (block_alloc (block_alloc (heap_alloc_last w _))) ?_))
  refine abs_calls (fun w1 hw1 => ?_)
  have hB1 : Below w.heap.size w w1 := by rw [hw1]; (repeat' (first | (with_reducible exact Below.refl _ _) | (with_reducible assumption) | (with_reducible refine Below.alloc ?_ ?_ _) | (with_reducible refine Below.drew ?_) | (with_reducible refine below_drewN ?_ _) | (with_reducible refine Below.setCell ?_ ?_ _) | (with_reducible refine below_step (by with_reducible assumption) ?_ ?_) | (with_reducible exact Below.size (by with_reducible assumption)) | go_size))
  have hz1 : w1.heap.size = w.heap.size + 1 + 1 + 1 := by rw [hw1]; simp
  have hg0 : w1.heap[w.heap.size]? = some (.cells c 26 (0, 0)) := by rw [hw1]; exact block_alloc (block_alloc (heap_alloc_last w _))
  have hg1 : w1.heap[w.heap.size + 1]? = some (.cells z 92 (0, 0)) := by
    rw [hw1]
    have := heap_alloc_last (w.alloc (.cells c 26)) (.cells z 92)
    rw [show (w.alloc (.cells c 26)).heap.size = w.heap.size + 1 by simp] at this
    exact block_alloc this
  have hg2 : w1.heap[w.heap.size + 1 + 1]? = some (.cells z 92 (0, 0)) := by
    rw [hw1]
    have := heap_alloc_last ((w.alloc (.cells c 26)).alloc (.cells z 92)) (.cells z 92)
    rw [show ((w.alloc (.cells c 26)).alloc (.cells z 92)).heap.size = w.heap.size + 1 + 1 by simp] at this
    exact this
  clear hw1
  refine (K1.out _).mono ?_
  rintro e w2 ⟨rfl, hw2⟩
  have hz2 := hw2.size
  have kg0 := block_below hw2 (by omega) hg0
  have kg1 := block_below hw2 (by omega) hg1
  have kg2 := block_below hw2 (by omega) hg2
  have hB2 : Below w.heap.size w w2 := by (repeat' (first | (with_reducible exact Below.refl _ _) | (with_reducible assumption) | (with_reducible refine Below.alloc ?_ ?_ _) | (with_reducible refine Below.drew ?_) | (with_reducible refine below_drewN ?_ _) | (with_reducible refine Below.setCell ?_ ?_ _) | (with_reducible refine below_step (by with_reducible assumption) ?_ ?_) | (with_reducible exact Below.size (by with_reducible assumption)) | go_size))
  clear hg0 hg1 hg2 hw2 hB1
  go_wp2_with (refine wpl_load rfl 26 26 _ w.heap.size c (0, 0) _ rfl rfl Try.underlying26 rfl (by rw [hs.out]; exact infoTrace) kg0 ?_)
  refine (K2.out _).mono ?_
  rintro e w3 ⟨rfl, hw3⟩
  have hz3 := hw3.size
  have hg0 := block_below hw3 (by omega) kg0
  have hg1 := block_below hw3 (by omega) kg1
  have hg2 := block_below hw3 (by omega) kg2
  have hB3 : Below w.heap.size w w3 := by (repeat' (first | (with_reducible exact Below.refl _ _) | (with_reducible assumption) | (with_reducible refine Below.alloc ?_ ?_ _) | (with_reducible refine Below.drew ?_) | (with_reducible refine below_drewN ?_ _) | (with_reducible refine Below.setCell ?_ ?_ _) | (with_reducible refine below_step (by with_reducible assumption) ?_ ?_) | (with_reducible exact Below.size (by with_reducible assumption)) | go_size))
  clear kg0 kg1 kg2 hw3 hB2
  go_wp2_with (refine wpl_store rfl 26 26 _ _ w.heap.size c c rfl rfl rfl (by rw [hs.out]; exact infoTrace) rfl ho.out hg0 ?_)
  refine abs_last (fun w4 hw4 => ?_)
  have kg0 : w4.heap[w.heap.size]? = some (.cells c 26 (0, 0)) := by rw [hw4]; exact block_setRow hg0
  have kg1 : w4.heap[w.heap.size + 1]? = some (.cells z 92 (0, 0)) := by rw [hw4, block_setRow_other (by omega)]; exact hg1
  have kg2 : w4.heap[w.heap.size + 1 + 1]? = some (.cells z 92 (0, 0)) := by rw [hw4, block_setRow_other (by omega)]; exact hg2
  have hB4 : Below w.heap.size w w4 := by rw [hw4]; exact below_setRow hB3 c (Nat.le_refl _)
  have hz4 : w.heap.size + 1 + 1 + 1 ≤ w4.heap.size := by rw [hw4]; show _ ≤ (w3.setRow _ _).heap.size; simp [World.setRow]; omega
  clear hw4 hg0 hg1 hg2 hB3
  go_loopw [15] (fun i wr => ∃ k : Nat, k ≤ 61 ∧ i = .int .i64 (k : Int) ∧ Below w.heap.size w wr ∧ w.heap.size + 1 + 1 + 1 ≤ wr.heap.size ∧ wr.heap[w.heap.size]? = some (.cells c 26 (0, 0)) ∧ wr.heap[w.heap.size + 1]? = some (.cells z 92 (0, 0)) ∧ wr.heap[w.heap.size + 1 + 1]? = some (.cells (aC (tF (anP x) k) (tF (anQ x) k)) 92 (0, 0))) (fun i _ => 61 - (intOf i).toNat)
  case atStart =>
    refine ⟨0, Nat.zero_le _, rfl, hB4, hz4, kg0, kg1, ?_⟩
    rw [kg2, HZ.out]
    rw [aC_congr (p := tF (anP x) 0) (q := tF (anQ x) 0) (p' := fun _ => 0) (q' := fun _ => 0) (fun i _ => ⟨by unfold tF; rw [if_neg (by omega)], by unfold tF; rw [if_neg (by omega)]⟩)]
  case round =>
    clear kg0 kg1 kg2 hB4 hz4
    obtain ⟨k, hk, rfl, hB, hzr, hg0, hg1, hg2⟩ := hrel
    by_cases hlt : k < 61
    · have d0 := (cell_block (i := k) hg0).trans (HG.out k (by omega))
      have d1 := (cell_block (i := k + 1) hg0).trans (HG.out (k + 1) (by omega))
      have d2 := (cell_block (i := k + 2) hg0).trans (HG.out (k + 2) (by omega))
      have d3 := (cell_block (i := k + 3) hg0).trans (HG.out (k + 3) (by omega))
      have hq0 : wr.cell? ⟨w.heap.size + 1 + 1, k, none⟩ = some (c64 (tF (anP x) k k) (tF (anQ x) k k)) := (cell_block hg2).trans (aC_get _ _ hlt)
      have hf0 : wr.frozen? ⟨w.heap.size + 1 + 1, k, none⟩ = false := frozen_block hg2
      have s1 : ∀ w, _ := fun w => sub32 (x k) (x (k + 2)) w (hx.out k (by omega)) (hx.out (k + 2) (by omega))
      have s2 : ∀ w, _ := fun w => sub32 (x (k + 1)) (x (k + 3)) w (hx.out (k + 1) (by omega)) (hx.out (k + 3) (by omega))
      have hset := aC_set (anP x) (anQ x) hlt
      unfold c64 at hset hq0
      rw [show anP x k = x k - x (k + 2) from rfl, show anQ x k = x (k + 1) - x (k + 3) from rfl] at hset
      generalize wd Ieee.single (x k - x (k + 2)) = r1 at *
      generalize wd Ieee.single (x (k + 1) - x (k + 3)) = r2 at *
      unfold f32 at d0 d1 d2 d3
      generalize wd Ieee.single (x k) = v0 at *
      generalize wd Ieee.single (x (k + 1)) = v1 at *
      generalize wd Ieee.single (x (k + 2)) = v2 at *
      generalize wd Ieee.single (x (k + 3)) = v3 at *
      have HSET := Lib.hid hset
      have HB := Lib.hid hB
      have G0 := Lib.hid hg0
      have G1 := Lib.hid hg1
      have G2 := Lib.hid hg2
      clear hset hB hg0 hg1 hg2
      have e0 : (0 : Int) ≤ (k : Int) := by omega
      have e1 : (k : Int) < 61 := by omega
      have e2 : (k : Int) < 64 := by omega
      have w1' : IntKind.i64.wrap ((k : Int) + 1) = (k : Int) + 1 := IntWalk.i64_in _ (by omega)
      have w2' : IntKind.i64.wrap ((k : Int) + 2) = (k : Int) + 2 := IntWalk.i64_in _ (by omega)
      have w3' : IntKind.i64.wrap ((k : Int) + 3) = (k : Int) + 3 := IntWalk.i64_in _ (by omega)
      have p1 : (0 : Int) ≤ (k : Int) + 1 := by omega
      have p2 : (0 : Int) ≤ (k : Int) + 2 := by omega
      have p3 : (0 : Int) ≤ (k : Int) + 3 := by omega
      have q1 : (k : Int) + 1 < 64 := by omega
      have q2 : (k : Int) + 2 < 64 := by omega
      have q3 : (k : Int) + 3 < 64 := by omega
      have n1 : ((k : Int) + 1).toNat = k + 1 := by omega
      have n2 : ((k : Int) + 2).toNat = k + 2 := by omega
      have n3 : ((k : Int) + 3).toNat = k + 3 := by omega
      go_wp2_with fail
      refine wp_region_held_drew (S := fun w' => w'.cell? ⟨w.heap.size, k, none⟩ = some (.float .f32 v0) ∧ w'.cell? ⟨w.heap.size, k + 1, none⟩ = some (.float .f32 v1) ∧ w'.cell? ⟨w.heap.size, k + 2, none⟩ = some (.float .f32 v2) ∧ w'.cell? ⟨w.heap.size, k + 3, none⟩ = some (.float .f32 v3)) (by kernel_rfl) ?_ (fun hH1 => ?_)
      · (first | assumption | (refine ⟨?_, ?_, ?_, ?_⟩ <;> assumption) | (go_keep; done) | (simp [*, go_sem]; done))
      refine wpAnyH_pure (i := 0) (v := ?_) rfl (by kernel_rfl) (by kernel_rfl) (by kernel_rfl) (fun _ _ _ h => h) (by rfl) (by assumption) ?_ ?_
      rotate_left
      · (intro w hSw; (try dsimp only at hSw); go_simp; (try with_reducible rfl))
      simp only [Act.put, List.getElem_toArray, List.getElem_cons_succ, List.getElem_cons_zero, List.setIfInBounds_toArray, List.set_cons_zero, List.set_cons_succ]
      refine wpAnyH_pure (i := 1) (v := ?_) rfl (by kernel_rfl) (by kernel_rfl) (by kernel_rfl) (fun _ _ _ h => h) (by rfl) (by assumption) ?_ ?_
      rotate_left
      · (intro w hSw; (try dsimp only at hSw); go_simp; (try with_reducible rfl))
      simp only [Act.put, List.getElem_toArray, List.getElem_cons_succ, List.getElem_cons_zero, List.setIfInBounds_toArray, List.set_cons_zero, List.set_cons_succ]
      refine wpAnyH_pure (i := 2) (v := ?_) rfl (by kernel_rfl) (by kernel_rfl) (by kernel_rfl) (fun _ _ _ h => h) (by rfl) (by assumption) ?_ ?_
      rotate_left
      · (intro w hSw; (try dsimp only at hSw); go_simp; (try with_reducible rfl))
      simp only [Act.put, List.getElem_toArray, List.getElem_cons_succ, List.getElem_cons_zero, List.setIfInBounds_toArray, List.set_cons_zero, List.set_cons_succ]
      refine wpAnyH_pure (i := 3) (v := ?_) rfl (by kernel_rfl) (by kernel_rfl) (by kernel_rfl) (fun _ _ _ h => h) (by rfl) (by assumption) ?_ ?_
      rotate_left
      · (intro w hSw; (try dsimp only at hSw); go_simp; (try with_reducible rfl))
      simp only [Act.put, List.getElem_toArray, List.getElem_cons_succ, List.getElem_cons_zero, List.setIfInBounds_toArray, List.set_cons_zero, List.set_cons_succ]
      refine wpAnyH_pure (i := 4) (v := ?_) rfl (by kernel_rfl) (by kernel_rfl) (by kernel_rfl) (fun _ _ _ h => h) (by rfl) (by assumption) ?_ ?_
      rotate_left
      · (intro w hSw; (try dsimp only at hSw); go_simp; (try with_reducible rfl))
      simp only [Act.put, List.getElem_toArray, List.getElem_cons_succ, List.getElem_cons_zero, List.setIfInBounds_toArray, List.set_cons_zero, List.set_cons_succ]
      refine wpAnyH_pure (i := 5) (v := ?_) rfl (by kernel_rfl) (by kernel_rfl) (by kernel_rfl) (fun _ _ _ h => h) (by rfl) (by assumption) ?_ ?_
      rotate_left
      · (intro w hSw; (try dsimp only at hSw); go_simp; (try with_reducible rfl))
      simp only [Act.put, List.getElem_toArray, List.getElem_cons_succ, List.getElem_cons_zero, List.setIfInBounds_toArray, List.set_cons_zero, List.set_cons_succ]
      refine wpAnyH_pure (i := 6) (v := ?_) rfl (by kernel_rfl) (by kernel_rfl) (by kernel_rfl) (fun _ _ _ h => h) (by rfl) (by assumption) ?_ ?_
      rotate_left
      · (intro w hSw; (try dsimp only at hSw); go_simp; (try with_reducible rfl))
      simp only [Act.put, List.getElem_toArray, List.getElem_cons_succ, List.getElem_cons_zero, List.setIfInBounds_toArray, List.set_cons_zero, List.set_cons_succ]
      refine wpAnyH_pure (i := 7) (v := ?_) rfl (by kernel_rfl) (by kernel_rfl) (by kernel_rfl) (fun _ _ _ h => h) (by rfl) (by assumption) ?_ ?_
      rotate_left
      · (intro w hSw; (try dsimp only at hSw); go_simp; (try with_reducible rfl))
      simp only [Act.put, List.getElem_toArray, List.getElem_cons_succ, List.getElem_cons_zero, List.setIfInBounds_toArray, List.set_cons_zero, List.set_cons_succ]
      refine wpAnyH_pure (i := 8) (v := ?_) rfl (by kernel_rfl) (by kernel_rfl) (by kernel_rfl) (fun _ _ _ h => h) (by rfl) (by assumption) ?_ ?_
      rotate_left
      · (intro w hSw; (try dsimp only at hSw); go_simp; (try with_reducible rfl))
      simp only [Act.put, List.getElem_toArray, List.getElem_cons_succ, List.getElem_cons_zero, List.setIfInBounds_toArray, List.set_cons_zero, List.set_cons_succ]
      refine wpAnyH_pure (i := 9) (v := ?_) rfl (by kernel_rfl) (by kernel_rfl) (by kernel_rfl) (fun _ _ _ h => h) (by rfl) (by assumption) ?_ ?_
      rotate_left
      · (intro w hSw; (try dsimp only at hSw); go_simp; (try with_reducible rfl))
      simp only [Act.put, List.getElem_toArray, List.getElem_cons_succ, List.getElem_cons_zero, List.setIfInBounds_toArray, List.set_cons_zero, List.set_cons_succ]
      refine wpAnyH_pure (i := 10) (v := ?_) rfl (by kernel_rfl) (by kernel_rfl) (by kernel_rfl) (fun _ _ _ h => h) (by rfl) (by assumption) ?_ ?_
      rotate_left
      · (intro w hSw; (try dsimp only at hSw); go_simp; (try with_reducible rfl))
      simp only [Act.put, List.getElem_toArray, List.getElem_cons_succ, List.getElem_cons_zero, List.setIfInBounds_toArray, List.set_cons_zero, List.set_cons_succ]
      refine wpAnyH_pure (i := 11) (v := ?_) rfl (by kernel_rfl) (by kernel_rfl) (by kernel_rfl) (fun _ _ _ h => h) (by rfl) (by assumption) ?_ ?_
      rotate_left
      · (intro w hSw; (try dsimp only at hSw); go_simp; (try with_reducible rfl))
      simp only [Act.put, List.getElem_toArray, List.getElem_cons_succ, List.getElem_cons_zero, List.setIfInBounds_toArray, List.set_cons_zero, List.set_cons_succ]
      refine wpAnyH_pure (i := 12) (v := ?_) rfl (by kernel_rfl) (by kernel_rfl) (by kernel_rfl) (fun _ _ _ h => h) (by rfl) (by assumption) ?_ ?_
      rotate_left
      · (intro w hSw; (try dsimp only at hSw); go_simp; (try with_reducible rfl))
      simp only [Act.put, List.getElem_toArray, List.getElem_cons_succ, List.getElem_cons_zero, List.setIfInBounds_toArray, List.set_cons_zero, List.set_cons_succ]
      refine wpAnyH_pure (i := 13) (v := ?_) rfl (by kernel_rfl) (by kernel_rfl) (by kernel_rfl) (fun _ _ _ h => h) (by rfl) (by assumption) ?_ ?_
      rotate_left
      · (intro w hSw; (try dsimp only at hSw); go_simp; (try with_reducible rfl))
      simp only [Act.put, List.getElem_toArray, List.getElem_cons_succ, List.getElem_cons_zero, List.setIfInBounds_toArray, List.set_cons_zero, List.set_cons_succ]
      refine wpAnyH_pure (i := 14) (v := ?_) rfl (by kernel_rfl) (by kernel_rfl) (by kernel_rfl) (fun _ _ _ h => h) (by rfl) (by assumption) ?_ ?_
      rotate_left
      · (intro w hSw; (try dsimp only at hSw); go_simp; (try with_reducible rfl))
      simp only [Act.put, List.getElem_toArray, List.getElem_cons_succ, List.getElem_cons_zero, List.setIfInBounds_toArray, List.set_cons_zero, List.set_cons_succ]
      refine wpAnyH_pure (i := 15) (v := ?_) rfl (by kernel_rfl) (by kernel_rfl) (by kernel_rfl) (fun _ _ _ h => h) (by rfl) (by assumption) ?_ ?_
      rotate_left
      · (intro w hSw; (try dsimp only at hSw); go_simp; (try with_reducible rfl))
      simp only [Act.put, List.getElem_toArray, List.getElem_cons_succ, List.getElem_cons_zero, List.setIfInBounds_toArray, List.set_cons_zero, List.set_cons_succ]
      refine wpAnyH_pure (i := 16) (v := ?_) rfl (by kernel_rfl) (by kernel_rfl) (by kernel_rfl) (fun _ _ _ h => h) (by rfl) (by assumption) ?_ ?_
      rotate_left
      · (intro w hSw; (try dsimp only at hSw); go_simp; (try with_reducible rfl))
      simp only [Act.put, List.getElem_toArray, List.getElem_cons_succ, List.getElem_cons_zero, List.setIfInBounds_toArray, List.set_cons_zero, List.set_cons_succ]
      refine wpAnyH_pure (i := 17) (v := ?_) rfl (by kernel_rfl) (by kernel_rfl) (by kernel_rfl) (fun _ _ _ h => h) (by rfl) (by assumption) ?_ ?_
      rotate_left
      · (intro w hSw; (try dsimp only at hSw); go_simp; (try with_reducible rfl))
      simp only [Act.put, List.getElem_toArray, List.getElem_cons_succ, List.getElem_cons_zero, List.setIfInBounds_toArray, List.set_cons_zero, List.set_cons_succ]
      refine wpAnyH_pure (i := 18) (v := ?_) rfl (by kernel_rfl) (by kernel_rfl) (by kernel_rfl) (fun _ _ _ h => h) (by rfl) (by assumption) ?_ ?_
      rotate_left
      · (intro w hSw; (try dsimp only at hSw); go_simp; (try with_reducible rfl))
      simp only [Act.put, List.getElem_toArray, List.getElem_cons_succ, List.getElem_cons_zero, List.setIfInBounds_toArray, List.set_cons_zero, List.set_cons_succ]
      refine wpAnyH_pure (i := 19) (v := ?_) rfl (by kernel_rfl) (by kernel_rfl) (by kernel_rfl) (fun _ _ _ h => h) (by rfl) (by assumption) ?_ ?_
      rotate_left
      · (intro w hSw; (try dsimp only at hSw); go_simp; (try with_reducible rfl))
      simp only [Act.put, List.getElem_toArray, List.getElem_cons_succ, List.getElem_cons_zero, List.setIfInBounds_toArray, List.set_cons_zero, List.set_cons_succ]
      refine wpAnyH_ready (rs := [20]) (by kernel_rfl) (by simp) ?_
      refine AllReadyH.cons rfl (fun Kq hKq => ?_) AllReadyH.nil
      go_simp
      refine hKq.out _ _ ?_ (fun hH2 => ?_)
      · (first | (refine ⟨?_, ?_, ?_, ?_⟩ <;> ((repeat (first | refine (World.cell?_setCell_far _ _ _ _ (by dsimp only; omega)).trans ?_ | refine (World.frozen?_setCell _ _ _ _).trans ?_)); with_reducible assumption)) | (go_keep; done) | (simp [*, go_sem]; done))
      clear hKq Kq
      clear hH1
      refine wpAnyH_done (by kernel_rfl) ?_ _
      clear w1' w2' w3' n1 n2 n3
      go_wp2
      go_roundw
      case rel =>
        refine ⟨k + 1, by omega, by go_num, by have := HB.out; (repeat' (first | (with_reducible exact Below.refl _ _) | (with_reducible assumption) | (with_reducible refine Below.alloc ?_ ?_ _) | (with_reducible refine Below.drew ?_) | (with_reducible refine below_drewN ?_ _) | (with_reducible refine Below.setCell ?_ ?_ _) | (with_reducible refine below_step (by with_reducible assumption) ?_ ?_) | (with_reducible exact Below.size (by with_reducible assumption)) | go_size)), by simp; omega, ?_, ?_, ?_⟩
        · rw [heap_drew, block_setCell_other (by omega)]; exact G0.out
        · rw [heap_drew, block_setCell_other (by omega)]; exact G1.out
        · rw [heap_drew, block_setCell G2.out, HSET.out]
      case measure => simp [intOf]; omega
    · have ek : k = 61 := by omega
      subst ek
      have hsA := Lib.hid (aC_size (tF (anP x) 61) (tF (anQ x) 61))
      have hoA := Lib.hid (aC_one (tF (anP x) 61) (tF (anQ x) 61))
      have heA := Lib.hid (aC_congr (p := tF (anP x) 61) (q := tF (anQ x) 61) (p' := anP x) (q' := anQ x) (fun i hi => ⟨by unfold tF; rw [if_pos hi], by unfold tF; rw [if_pos hi]⟩))
      generalize aC (tF (anP x) 61) (tF (anQ x) 61) = A at *
      go_wp2_with (first | (refine wpl_load rfl 92 92 _ (w.heap.size + 1 + 1) A (0, 0) _ rfl rfl Try.underlying92 rfl (by rw [hsA.out]; exact infoAna) hg2 ?_) | (refine wpl_store rfl 92 92 _ _ (w.heap.size + 1) z A rfl rfl rfl (by rw [hsA.out]; exact infoAna) (by rw [hsA.out, hzs.out]) hoA.out hg1 ?_))
      refine bodyPost_ret (v := .tuple #[.agg A, .int .i64 0]) ?_ rfl ⟨by rw [heA.out], below_setRow hB A (by omega)⟩
      rw [results_cell_tmp (p := 2) (u := 3) (ty := 92) rfl]
      have hl : (loadVar 92 ⟨w.heap.size + 1, 0, none⟩).run Try.prog (wr.setRow (w.heap.size + 1) A) = .ok (.agg A) _ := run_loadVar_row _ _ 92 92 A (0, 0) _ (block_setRow hg1) Try.underlying92 rfl (by rw [hsA.out]; exact infoAna)
      change ((loadVar 92 ⟨w.heap.size + 1, 0, none⟩).run Try.prog _).andThen _ = _
      rw [hl]
      rfl
end Go.Proofs.Ythgnemkfaiejbaa
