/-
  ROWS OF INTEGERS, given or made: the reference's Trace, Ints; made.
-/
import Derived.Test.YthgnemkfaiejbaaTAdd
set_option linter.unusedVariables false
set_option linter.unusedSimpArgs false
namespace Go.Proofs.Ythgnemkfaiejbaa
open Go.RowKit

/-- a slice that reads as n integers -/
def IRow (w : World) (v : Value) (x : Nat → Int) (n : Nat) : Prop := ∃ q c, v = .slice q n c ∧ (n ≤ c ∧ c ≤ maxLen) ∧ (n = 0 ∨ ∃ b o, q = some ⟨b, o, none⟩ ∧ b < w.heap.size ∧ ∀ i, i < n → w.cell? ⟨b, o + i, none⟩ = some (.int .i64 (x i)))
theorem IRow.below {w w' : World} {v : Value} {x : Nat → Int} {n : Nat} (h : IRow w v x n) (hb : Below w.heap.size w w') : IRow w' v x n := by
  obtain ⟨q, c, rfl, hc, h⟩ := h
  refine ⟨q, c, rfl, hc, ?_⟩
  rcases h with h | ⟨b, o, rfl, hlt, hx⟩
  · exact .inl h
  · exact .inr ⟨b, o, rfl, Nat.lt_of_lt_of_le hlt hb.size, fun i hi => (hb.cell (p := ⟨b, o + i, none⟩) hlt).trans (hx i hi)⟩
def iL (x : Nat → Int) (n : Nat) : List Value := (List.range n).map fun i => .int .i64 (x i)
theorem iL_succ (x : Nat → Int) (n : Nat) : iL x (n + 1) = iL x n ++ [.int .i64 (x n)] := by simp [iL, List.range_succ]
theorem irow_own {w : World} {base : Nat} {v : Value} {x : Nat → Int} {n : Nat} (h : w.ownsRow base 3 1 v n (iL x n)) : IRow w v x n := by
  obtain ⟨_, h⟩ := h
  rcases h with ⟨rfl, rfl⟩ | ⟨g, cap, cur, rfl, hb, hg, hn, hm, hs, ht⟩
  · exact ⟨none, 0, rfl, ⟨Nat.le_refl _, Nat.zero_le _⟩, .inl rfl⟩
  · refine ⟨_, _, rfl, ⟨hn, hm⟩, .inr ⟨g, 0, rfl, (Array.getElem?_eq_some_iff.1 hg).1, fun i hi => ?_⟩⟩
    rw [Nat.zero_add, cell_block hg]
    have e : (cur.toList.take (n * 1))[i]? = (iL x n)[i]? := by rw [ht]
    rw [Nat.mul_one, List.getElem?_take_of_lt hi] at e
    rw [← Array.getElem?_toList, e]
    unfold iL
    rw [List.getElem?_map, List.getElem?_range hi]; rfl
theorem infoInt : (Try.prog.info? 3).map (fun i => (i.zero, i.size, i.bytes)) = some (some (.int .i64 0), 1, 8) := by kernel_rfl
theorem info_parts1 {t : TypeId} {z : Value} {s b : Nat} (h : (Try.prog.info? t).map (fun i => (i.zero, i.size, i.bytes)) = some (some z, s, b)) : ∃ i, Try.prog.info? t = some i ∧ i.zero = some z ∧ i.size = s ∧ i.bytes = b := by
  cases hi : Try.prog.info? t with
  | none => rw [hi] at h; cases h
  | some i =>
    rw [hi] at h
    simp only [Option.map_some, Option.some.injEq, Prod.mk.injEq] at h
    exact ⟨i, rfl, h⟩
/-- a row, and 0 behind it -/
def rz (x : Nat → Int) (n : Nat) : Nat → Int := fun i => if i < n then x i else 0
theorem tF_all (x : Nat → Int) (n k : Nat) (h : k = 64 ∨ n ≤ k) : tC (tF (rz x n) k) = tC (rz x n) := tC_congr fun i hi => by
  unfold tF rz
  by_cases c : i < k
  · rw [if_pos c]
  · rw [if_neg c, if_neg (by omega)]
set_option maxRecDepth 100000 in
set_option maxHeartbeats 2000000 in
theorem traceR_any (v : Value) (x : Nat → Int) (n : Nat) (w : World) (hr : Hid (IRow w v x n)) :
    Calls Try.prog 93 #[v] w fun e w' => e = .returned (.agg (tC (rz x n))) ∧ Below w.heap.size w w' := by
  obtain ⟨q, c, rfl, hc, hcell⟩ := hr.out
  have HC := Lib.hid hcell
  clear hcell hr
  obtain ⟨hc1, hc2⟩ := hc
  unfold maxLen at hc2
  have HZ := Lib.hid zero_trace
  have hs0 := Lib.hid (tC_size fun _ => 0)
  go_enter Try.func93, Try.ntmps93
  go_wp2_with (refine wpl_alloc rfl 26 (tC fun _ => 0) rfl (HZ.out _) ?_)
  go_loopw [4] (fun i wr => ∃ k : Nat, k ≤ 64 ∧ k ≤ n ∧ i = .int .i64 (k : Int) ∧ Below w.heap.size w wr ∧ wr.heap[w.heap.size]? = some (.cells (tC fun _ => 0) 26 (0, 0)) ∧ wr.heap[w.heap.size + 1]? = some (.cells (tC (tF (rz x n) k)) 26 (0, 0))) (fun i _ => 64 - (intOf i).toNat)
  case atStart =>
    refine ⟨0, Nat.zero_le _, Nat.zero_le _, rfl, by (repeat' (first | (with_reducible exact Below.refl _ _) | (with_reducible assumption) | (with_reducible refine Below.alloc ?_ ?_ _) | (with_reducible refine Below.drew ?_) | (with_reducible refine below_drewN ?_ _) | (with_reducible refine Below.setCell ?_ ?_ _) | (with_reducible refine below_step (by with_reducible assumption) ?_ ?_) | (with_reducible exact Below.size (by with_reducible assumption)) | go_size)), block_alloc (heap_alloc_last w _), ?_⟩
    rw [heap_alloc_at (by simp), tC_congr (x := tF (rz x n) 0) (y := fun _ => 0) (fun i _ => by unfold tF; rw [if_neg (by omega)])]
  case round =>
    obtain ⟨k, hk, hkn, rfl, hB, hg0, hg1⟩ := hrel
    by_cases hlt : k < 64 ∧ k < n
    · obtain ⟨hl, hn⟩ := hlt
      have hcell := HC.out
      rcases hcell with h0 | ⟨b, o, rfl, hb, hcell⟩
      · omega
      have d0 := (hB.cell (p := ⟨b, o + k, none⟩) hb).trans (hcell k hn)
      have hcv : ∀ w, _ := fun w => run_float32 (x k) w
      have d1 : wr.cell? ⟨w.heap.size + 1, k, none⟩ = some (f32 (tF (rz x n) k k)) := (cell_block hg1).trans (tC_get _ hl)
      have f1 : wr.frozen? ⟨w.heap.size + 1, k, none⟩ = false := frozen_block hg1
      have hset := tC_set (rz x n) hl
      rw [show rz x n k = x k by unfold rz; rw [if_pos hn]] at hset
      unfold f32 at hcv d1 hset
      clear hcell HC
      generalize x k = y at *
      generalize wd Ieee.single y = v at *
      have HB := Lib.hid hB
      have G0 := Lib.hid hg0
      have G1 := Lib.hid hg1
      have HSET := Lib.hid hset
      clear hB hg0 hg1 hset
      have e0 : (0 : Int) ≤ (k : Int) := by omega
      have e1 : (k : Int) < 64 := by omega
      have e2 : (k : Int) < (n : Int) := by omega
      go_wp2
      go_roundw
      case rel =>
        refine ⟨k + 1, by omega, by omega, by go_num, by have := HB.out; (repeat' (first | (with_reducible exact Below.refl _ _) | (with_reducible assumption) | (with_reducible refine Below.alloc ?_ ?_ _) | (with_reducible refine Below.drew ?_) | (with_reducible refine below_drewN ?_ _) | (with_reducible refine Below.setCell ?_ ?_ _) | (with_reducible refine below_step (by with_reducible assumption) ?_ ?_) | (with_reducible exact Below.size (by with_reducible assumption)) | go_size)), ?_, ?_⟩
        · rw [block_setCell_other (by omega)]; exact G0.out
        · rw [block_setCell G1.out, HSET.out]
      case measure => simp [intOf]; omega
    · rw [tF_all x n k (by omega)] at hg1
      have hs := Lib.hid (tC_size (rz x n))
      have ho := Lib.hid (tC_one (rz x n))
      generalize hd : tC (rz x n) = d at *
      have HD := Lib.hid hd
      clear hd
      generalize (tC fun _ => 0) = z at *
      have HB := Lib.hid hB
      clear hB
      by_cases hl : k < 64
      · have e1 : (k : Int) < 64 := by omega
        have e2 : ¬ (k : Int) < (n : Int) := by omega
        go_wp2_with (first | (refine wpl_load rfl 26 26 _ (w.heap.size + 1) d (0, 0) _ rfl rfl Try.underlying26 rfl (by rw [hs.out]; exact infoTrace) hg1 ?_) | (refine wpl_store rfl 26 26 _ _ w.heap.size z d rfl rfl rfl (by rw [hs.out]; exact infoTrace) (by rw [hs.out, hs0.out]) ho.out hg0 ?_))
        refine bodyPost_ret (v := .agg d) ?_ rfl ⟨by rw [HD.out], below_setRow HB.out d (Nat.le_refl _)⟩
        rw [results_cell1 (p := 2) (ty := 26) rfl]
        change (loadVar 26 ⟨w.heap.size, 0, none⟩).run Try.prog _ = _
        exact run_loadVar_row _ _ 26 26 d (0, 0) _ (block_setRow hg0) Try.underlying26 rfl (by rw [hs.out]; exact infoTrace)
      · have e1 : ¬ (k : Int) < 64 := by omega
        go_wp2_with (first | (refine wpl_load rfl 26 26 _ (w.heap.size + 1) d (0, 0) _ rfl rfl Try.underlying26 rfl (by rw [hs.out]; exact infoTrace) hg1 ?_) | (refine wpl_store rfl 26 26 _ _ w.heap.size z d rfl rfl rfl (by rw [hs.out]; exact infoTrace) (by rw [hs.out, hs0.out]) ho.out hg0 ?_))
        refine bodyPost_ret (v := .agg d) ?_ rfl ⟨by rw [HD.out], below_setRow HB.out d (Nat.le_refl _)⟩
        rw [results_cell1 (p := 2) (ty := 26) rfl]
        change (loadVar 26 ⟨w.heap.size, 0, none⟩).run Try.prog _ = _
        exact run_loadVar_row _ _ 26 26 d (0, 0) _ (block_setRow hg0) Try.underlying26 rfl (by rw [hs.out]; exact infoTrace)
end Go.Proofs.Ythgnemkfaiejbaa
