/-
  ENVELOPES of right traces.
-/
import Derived.Test.YthgnemkfaiejbaaTAna
set_option linter.unusedVariables false
set_option linter.unusedSimpArgs false
namespace Go.Proofs.Ythgnemkfaiejbaa
open Go.RowKit

/-- the cells of squares -/
def sC (s : Nat → Int) : Array Value := ((List.range 61).map fun i => Value.int .i64 (s i)).toArray
theorem sC_size (s : Nat → Int) : (sC s).size = 61 := by simp [sC]
theorem sC_get (s : Nat → Int) {i : Nat} (h : i < 61) : (sC s)[i]? = some (.int .i64 (s i)) := by
  unfold sC
  rw [List.getElem?_toArray, List.getElem?_map, List.getElem?_range h]; rfl
theorem sC_one (s : Nat → Int) : (sC s).all (·.oneCell') = true := by
  rw [Array.all_eq_true_iff_forall_mem]
  intro v hv
  unfold sC at hv
  simp only [List.mem_toArray, List.mem_map] at hv
  obtain ⟨i, _, rfl⟩ := hv
  rfl
theorem sC_congr {s s' : Nat → Int} (h : ∀ i, i < 61 → s i = s' i) : sC s = sC s' := by
  unfold sC
  congr 1
  apply List.map_congr_left
  intro i hi
  rw [h i (List.mem_range.1 hi)]
theorem sC_set (s : Nat → Int) {k : Nat} (hk : k < 61) : (sC (tF s k)).setIfInBounds k (.int .i64 (s k)) = sC (tF s (k + 1)) := by
  apply Array.ext_getElem?
  intro i
  rw [Array.getElem?_setIfInBounds, sC_size]
  by_cases hi : i < 61
  · by_cases e : k = i
    · subst e
      rw [if_pos rfl, if_pos hk, sC_get _ hi]
      unfold tF
      rw [if_pos (by omega)]
    · rw [if_neg e, sC_get _ hi, sC_get _ hi]
      unfold tF
      by_cases h2 : i < k
      · rw [if_pos h2, if_pos (by omega)]
      · rw [if_neg h2, if_neg (by omega)]
  · have e : ¬ k = i := by omega
    rw [if_neg e]
    rw [Array.getElem?_eq_none (by rw [sC_size]; omega), Array.getElem?_eq_none (by rw [sC_size]; omega)]
theorem zero_sq (w : World) : (zeroValue 95).run Try.prog w = .ok (.agg (sC fun _ => 0)) w :=
  (Try.zeroValue95 w).trans (congrArg (fun c => Result.ok (Value.agg c) w) (by kernel_rfl))
theorem infoSq : (Try.prog.info? 95).map (·.size) = some 61 := by kernel_rfl
/-- the square -/
def anS (x : Nat → Int) (n : Nat) : Int := anP x n * anP x n + anQ x n * anQ x n
theorem anS_bd {x : Nat → Int} (hx : ∀ k, k < 64 → (x k).natAbs ≤ 2047) {n : Nat} (h : n < 61) : ((anP x n).natAbs ≤ 4094 ∧ (anQ x n).natAbs ≤ 4094) ∧ (0 ≤ anP x n * anP x n ∧ anP x n * anP x n ≤ 16760836) ∧ (0 ≤ anQ x n * anQ x n ∧ anQ x n * anQ x n ≤ 16760836) := by
  have a := hx n (by omega)
  have b := hx (n + 2) (by omega)
  have c := hx (n + 1) (by omega)
  have d := hx (n + 3) (by omega)
  have h1 : (anP x n).natAbs ≤ 4094 := by unfold anP; omega
  have h2 : (anQ x n).natAbs ≤ 4094 := by unfold anQ; omega
  have sq : ∀ m : Int, m.natAbs ≤ 4094 → 0 ≤ m * m ∧ m * m ≤ 16760836 := by
    intro m hm
    have e : m * m = ((m.natAbs * m.natAbs : Nat) : Int) := Int.natAbs_mul_self.symm
    have l := Nat.mul_le_mul hm hm
    rw [e]
    omega
  exact ⟨⟨h1, h2⟩, sq _ h1, sq _ h2⟩
theorem index_ana {A : Array Value} {k : Nat} {v : Value} (hk : k < 61) (h : A[k]? = some v) (w : World) : (Instr.index 92 (.agg A) (.int .i64 (k : Int))).run Try.prog w = .ok v w := by
  have e0 : (0 : Int) ≤ (k : Int) := by omega
  have e1 : (k : Int) < 61 := by omega
  simp [Instr.index, go_sem, h, hk]
set_option maxRecDepth 100000 in
set_option maxHeartbeats 2000000 in
theorem envelope_ok (x : Nat → Int) (w : World) (hx : Hid (∀ k, k < 64 → (x k).natAbs ≤ 2047)) :
    Calls Try.prog 61 #[.agg (tC x)] w fun e w' => e = .returned (.tuple #[.agg (sC (anS x)), .int .i64 0]) ∧ Below w.heap.size w w' := by
  have K1 := Lib.hid (fun W => analytic_ok x W hx)
  have hs := Lib.hid (tC_size x)
  have hsA := Lib.hid (aC_size (anP x) (anQ x))
  have hoA := Lib.hid (aC_one (anP x) (anQ x))
  have HG := Lib.hid (fun k (h : k < 61) => aC_get (anP x) (anQ x) h)
  have hzs := Lib.hid (sC_size fun _ => 0)
  have hzA := Lib.hid (aC_size (fun _ => 0) fun _ => 0)
  have HS := Lib.hid (fun k (h : k < 61) => anS_bd hx.out h)
  generalize tC x = c at *
  generalize aC (anP x) (anQ x) = A at *
  obtain ⟨zA, hzA0⟩ : ∃ z, z = aC (fun _ => 0) fun _ => 0 := ⟨_, rfl⟩
  have hzvA : ∀ w : World, (zeroValue 92).run Try.prog w = .ok (.agg zA) w := fun w => by rw [hzA0]; exact zero_ana w
  have HZVA := Lib.hid hzvA
  rw [← hzA0] at hzA
  clear hzA0 hzvA
  obtain ⟨z, hz⟩ : ∃ z, z = sC fun _ => 0 := ⟨_, rfl⟩
  have hzv : ∀ w : World, (zeroValue 95).run Try.prog w = .ok (.agg z) w := fun w => by rw [hz]; exact zero_sq w
  have HZV := Lib.hid hzv
  rw [← hz] at hzs
  have HZ := Lib.hid hz
  clear hz hzv
  go_enter Try.func61, Try.ntmps61
  go_wp2_with (first | (refine wpl_alloc rfl 95 z rfl (HZV.out _) ?_) | (refine wpl_load rfl 26 26 _ w.heap.size c (0, 0) _ rfl rfl Try.underlying26 rfl (by rw [hs.out]; exact infoTrace) (block_alloc (block_alloc (heap_alloc_last w _))) ?_))
  refine abs_calls (fun w1 hw1 => ?_)
  have hB1 : Below w.heap.size w w1 := by rw [hw1]; (repeat' (first | (with_reducible exact Below.refl _ _) | (with_reducible assumption) | (with_reducible refine Below.alloc ?_ ?_ _) | (with_reducible refine Below.drew ?_) | (with_reducible refine below_drewN ?_ _) | (with_reducible refine Below.setCell ?_ ?_ _) | (with_reducible refine below_step (by with_reducible assumption) ?_ ?_) | (with_reducible exact Below.size (by with_reducible assumption)) | go_size))
  have hz1 : w1.heap.size = w.heap.size + 1 + 1 + 1 := by rw [hw1]; simp
  have hg1 : w1.heap[w.heap.size + 1]? = some (.cells z 95 (0, 0)) := by
    rw [hw1]
    have := heap_alloc_last (w.alloc (.cells c 26)) (.cells z 95)
    rw [show (w.alloc (.cells c 26)).heap.size = w.heap.size + 1 by simp] at this
    exact block_alloc this
  have hg2 : w1.heap[w.heap.size + 1 + 1]? = some (.cells z 95 (0, 0)) := by
    rw [hw1]
    have := heap_alloc_last ((w.alloc (.cells c 26)).alloc (.cells z 95)) (.cells z 95)
    rw [show ((w.alloc (.cells c 26)).alloc (.cells z 95)).heap.size = w.heap.size + 1 + 1 by simp] at this
    exact this
  clear hw1
  refine (K1.out _).mono ?_
  rintro e w2 ⟨rfl, hw2⟩
  have hz2 := hw2.size
  have kg1 := block_below hw2 (by omega) hg1
  have kg2 := block_below hw2 (by omega) hg2
  have hB2 : Below w.heap.size w w2 := by (repeat' (first | (with_reducible exact Below.refl _ _) | (with_reducible assumption) | (with_reducible refine Below.alloc ?_ ?_ _) | (with_reducible refine Below.drew ?_) | (with_reducible refine below_drewN ?_ _) | (with_reducible refine Below.setCell ?_ ?_ _) | (with_reducible refine below_step (by with_reducible assumption) ?_ ?_) | (with_reducible exact Below.size (by with_reducible assumption)) | go_size))
  clear hg1 hg2 hw2 hB1
  go_wp2_with (first | (refine wpl_alloc rfl 92 zA rfl (HZVA.out _) ?_) | (refine wpl_store rfl 92 92 _ _ w2.heap.size zA A rfl rfl rfl (by rw [hsA.out]; exact infoAna) (by rw [hzA.out, hsA.out]) hoA.out (heap_alloc_last w2 _) ?_) | (refine wpl_load rfl 92 92 _ w2.heap.size A (0, 0) _ rfl rfl Try.underlying92 rfl (by rw [hsA.out]; exact infoAna) (block_setRow (heap_alloc_last w2 _)) ?_))
  refine abs_last (fun w3 hw3 => ?_)
  have hg1 : w3.heap[w.heap.size + 1]? = some (.cells z 95 (0, 0)) := by rw [hw3, block_setRow_other (by omega)]; exact block_alloc kg1
  have hg2 : w3.heap[w.heap.size + 1 + 1]? = some (.cells z 95 (0, 0)) := by rw [hw3, block_setRow_other (by omega)]; exact block_alloc kg2
  have hB3 : Below w.heap.size w w3 := by rw [hw3]; exact below_setRow (by (repeat' (first | (with_reducible exact Below.refl _ _) | (with_reducible assumption) | (with_reducible refine Below.alloc ?_ ?_ _) | (with_reducible refine Below.drew ?_) | (with_reducible refine below_drewN ?_ _) | (with_reducible refine Below.setCell ?_ ?_ _) | (with_reducible refine below_step (by with_reducible assumption) ?_ ?_) | (with_reducible exact Below.size (by with_reducible assumption)) | go_size))) A (by omega)
  clear hw3 kg1 kg2 hB2
  have hz3 : w.heap.size + 1 + 1 < w3.heap.size := (Array.getElem?_eq_some_iff.1 hg2).1
  go_loopw [21] (fun i wr => ∃ k : Nat, k ≤ 61 ∧ i = .int .i64 (k : Int) ∧ Below w.heap.size w wr ∧ wr.heap[w.heap.size + 1]? = some (.cells z 95 (0, 0)) ∧ wr.heap[w.heap.size + 1 + 1]? = some (.cells (sC (tF (anS x) k)) 95 (0, 0))) (fun i _ => 61 - (intOf i).toNat)
  case atStart =>
    refine ⟨0, Nat.zero_le _, rfl, hB3, hg1, ?_⟩
    rw [hg2, HZ.out]
    rw [sC_congr (s := tF (anS x) 0) (s' := fun _ => 0) (fun i _ => by unfold tF; rw [if_neg (by omega)])]
  case round =>
    clear hg1 hg2 hB3
    obtain ⟨k, hk, rfl, hB, hg1, hg2⟩ := hrel
    by_cases hlt : k < 61
    · have hbd := HS.out k hlt
      have hix : ∀ w, _ := fun w => index_ana hlt (HG.out k hlt) w
      have hq0 : wr.cell? ⟨w.heap.size + 1 + 1, k, none⟩ = some (.int .i64 (tF (anS x) k k)) := (cell_block hg2).trans (sC_get _ hlt)
      have hf0 : wr.frozen? ⟨w.heap.size + 1 + 1, k, none⟩ = false := frozen_block hg2
      have hc1 : ∀ w, _ := fun w => run_int32 (anP x k) w (by omega)
      have hc2 : ∀ w, _ := fun w => run_int32 (anQ x k) w (by omega)
      have hset := sC_set (anS x) hlt
      rw [show anS x k = anP x k * anP x k + anQ x k * anQ x k from rfl] at hset
      unfold c64 at hix
      generalize wd Ieee.single (anP x k) = v1 at *
      generalize wd Ieee.single (anQ x k) = v2 at *
      have HSET := Lib.hid hset
      have HB := Lib.hid hB
      have G1 := Lib.hid hg1
      have G2 := Lib.hid hg2
      clear hset hB hg1 hg2
      generalize anP x k = p at *
      generalize anQ x k = q at *
      obtain ⟨-, b1, b2⟩ := hbd
      have e0 : (0 : Int) ≤ (k : Int) := by omega
      have e1 : (k : Int) < 61 := by omega
      go_wp2
      go_roundw
      case rel =>
        refine ⟨k + 1, by omega, by go_num, by have := HB.out; (repeat' (first | (with_reducible exact Below.refl _ _) | (with_reducible assumption) | (with_reducible refine Below.alloc ?_ ?_ _) | (with_reducible refine Below.drew ?_) | (with_reducible refine below_drewN ?_ _) | (with_reducible refine Below.setCell ?_ ?_ _) | (with_reducible refine below_step (by with_reducible assumption) ?_ ?_) | (with_reducible exact Below.size (by with_reducible assumption)) | go_size)), ?_, ?_⟩
        · rw [block_setCell_other (by omega)]; exact G1.out
        · rw [block_setCell G2.out, HSET.out]
      case measure => simp [intOf]; omega
    · have ek : k = 61 := by omega
      subst ek
      have hsS := Lib.hid (sC_size (tF (anS x) 61))
      have hoS := Lib.hid (sC_one (tF (anS x) 61))
      have heS := Lib.hid (sC_congr (s := tF (anS x) 61) (s' := anS x) (fun i hi => by unfold tF; rw [if_pos hi]))
      generalize sC (tF (anS x) 61) = S at *
      go_wp2_with (first | (refine wpl_load rfl 95 95 _ (w.heap.size + 1 + 1) S (0, 0) _ rfl rfl Try.underlying95 rfl (by rw [hsS.out]; exact infoSq) hg2 ?_) | (refine wpl_store rfl 95 95 _ _ (w.heap.size + 1) z S rfl rfl rfl (by rw [hsS.out]; exact infoSq) (by rw [hsS.out, hzs.out]) hoS.out hg1 ?_))
      refine bodyPost_ret (v := .tuple #[.agg S, .int .i64 0]) ?_ rfl ⟨by rw [heS.out], below_setRow hB S (by omega)⟩
      rw [results_cell_tmp (p := 2) (u := 3) (ty := 95) rfl]
      have hl : (loadVar 95 ⟨w.heap.size + 1, 0, none⟩).run Try.prog (wr.setRow (w.heap.size + 1) S) = .ok (.agg S) _ := run_loadVar_row _ _ 95 95 S (0, 0) _ (block_setRow hg1) Try.underlying95 rfl (by rw [hsS.out]; exact infoSq)
      change ((loadVar 95 ⟨w.heap.size + 1, 0, none⟩).run Try.prog _).andThen _ = _
      rw [hl]
      rfl
end Go.Proofs.Ythgnemkfaiejbaa
