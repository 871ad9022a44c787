/-
  TRACES made by a function: traceWith, cleared.
-/
import Derived.Test.YthgnemkfaiejbaaTTr
import Derived.Shelf.Abstract
set_option linter.unusedVariables false
set_option linter.unusedSimpArgs false
namespace Go.Proofs.Ythgnemkfaiejbaa
open Go.RowKit

theorem block_setCell {w : World} {g i : Nat} {c : Array Value} {t : TypeId} {fr : Nat × Nat} {v : Value} (hg : w.heap[g]? = some (.cells c t fr)) : (w.setCell ⟨g, i, none⟩ v).heap[g]? = some (.cells (c.setIfInBounds i v) t fr) := by
  show (w.heap.modify g _)[g]? = _
  rw [Array.getElem?_modify, if_pos rfl, hg]
  rfl
theorem frozen_block {w : World} {g i : Nat} {c : Array Value} {t : TypeId} (hg : w.heap[g]? = some (.cells c t (0, 0))) : w.frozen? ⟨g, i, none⟩ = false := by
  unfold World.frozen?; rw [hg]; simp
/-- the first k samples of a trace, the others 0 -/
def tF (x : Nat → Int) (k : Nat) : Nat → Int := fun i => if i < k then x i else 0
theorem tC_congr {x y : Nat → Int} (h : ∀ i, i < 64 → x i = y i) : tC x = tC y := by
  unfold tC
  congr 1
  apply List.map_congr_left
  intro i hi
  rw [h i (List.mem_range.1 hi)]
theorem tC_set (x : Nat → Int) {k : Nat} (hk : k < 64) : (tC (tF x k)).setIfInBounds k (f32 (x k)) = tC (tF x (k + 1)) := by
  apply Array.ext_getElem?
  intro i
  rw [Array.getElem?_setIfInBounds, tC_size]
  by_cases hi : i < 64
  · by_cases e : k = i
    · subst e
      rw [if_pos rfl, if_pos hk, tC_get _ hi]
      unfold tF
      rw [if_pos (by omega)]
    · rw [if_neg e, tC_get _ hi, tC_get _ hi]
      unfold tF
      by_cases h2 : i < k
      · rw [if_pos h2, if_pos (by omega)]
      · rw [if_neg h2, if_neg (by omega)]
  · have e : ¬ k = i := by omega
    rw [if_neg e]
    rw [Array.getElem?_eq_none (by rw [tC_size]; omega), Array.getElem?_eq_none (by rw [tC_size]; omega)]
theorem zero_trace (w : World) : (zeroValue 26).run Try.prog w = .ok (.agg (tC fun _ => 0)) w :=
  (Try.zeroValue26 w).trans (congrArg (fun c => Result.ok (Value.agg c) w) (by kernel_rfl))
theorem run_float32 (n : Int) (w : World) : (convert 3 24 (.int .i64 n)).run Try.prog w = .ok (f32 n) w :=
  run_convert_int_float w _ _ _ _ _ (by rw [Try.underlying3]; rfl) Try.underlying24
theorem below_setRow {B : Nat} {w w' : World} (h : Below B w w') {g : Nat} (c : Array Value) (hg : B ≤ g) : Below B w (w'.setRow g c) :=
  h.trans ⟨rfl, rfl, rfl, by simp [World.setRow], fun k hk => by
    show (w'.heap.modify g _)[k]? = w'.heap[k]?
    rw [Array.getElem?_modify, if_neg (by omega)]⟩
theorem block_setRow {w : World} {g : Nat} {old c : Array Value} {t : TypeId} {fr : Nat × Nat} (hg : w.heap[g]? = some (.cells old t fr)) : (w.setRow g c).heap[g]? = some (.cells c t fr) := by
  show (w.heap.modify g _)[g]? = _
  rw [Array.getElem?_modify, if_pos rfl, hg]
  rfl
theorem block_setRow_other {w : World} {g k : Nat} {c : Array Value} (h : ¬ g = k) : (w.setRow g c).heap[k]? = w.heap[k]? := by
  show (w.heap.modify g _)[k]? = _
  rw [Array.getElem?_modify, if_neg h]
theorem block_setCell_other {w : World} {g i k : Nat} {v : Value} (h : ¬ g = k) : (w.setCell ⟨g, i, none⟩ v).heap[k]? = w.heap[k]? := by
  show (w.heap.modify g _)[k]? = _
  rw [Array.getElem?_modify, if_neg h]
theorem block_alloc {w : World} {k : Nat} {o b : Obj} (h : w.heap[k]? = some b) : (w.alloc o).heap[k]? = some b := by
  show (w.heap.push o)[k]? = _
  rw [Array.getElem?_push, if_neg (by have := (Array.getElem?_eq_some_iff.1 h).1; omega), h]
set_option maxRecDepth 100000 in
set_option maxHeartbeats 2000000 in
theorem traceWith_any (x : Nat → Int) (f : FuncId) (cap : Array Value) (w : World) (HF : Hid (Enters Try.prog f))
    (HC : Hid (∀ k : Nat, k < 64 → ∀ W, Below w.heap.size w W → Calls Try.prog f (#[.int .i64 (k : Int)] ++ cap) W fun e w' => e = .returned (.int .i64 (x k)) ∧ W = w')) :
    Calls Try.prog 127 #[.func (.func f) #[] cap] w fun e w' => e = .returned (.agg (tC x)) ∧ Below w.heap.size w w' := by
  go_enter Try.func127, Try.ntmps127
  go_wp2_with (refine wpl_alloc rfl 26 (tC fun _ => 0) rfl (zero_trace _) ?_)
  have hl1 : w.heap.size < w.heap.size + 1 := by omega
  go_loopw [5] (fun i wr => ∃ k : Nat, k ≤ 64 ∧ i = .int .i64 (k : Int) ∧ Below w.heap.size w wr ∧ wr.heap[w.heap.size]? = some (.cells (tC fun _ => 0) 26 (0, 0)) ∧ wr.heap[w.heap.size + 1]? = some (.cells (tC (tF x k)) 26 (0, 0))) (fun i _ => 64 - (intOf i).toNat)
  case atStart =>
    refine ⟨0, Nat.zero_le _, rfl, by (repeat' (first | (with_reducible exact Below.refl _ _) | (with_reducible assumption) | (with_reducible refine Below.alloc ?_ ?_ _) | (with_reducible refine Below.drew ?_) | (with_reducible refine below_drewN ?_ _) | (with_reducible refine Below.setCell ?_ ?_ _) | (with_reducible refine below_step (by with_reducible assumption) ?_ ?_) | (with_reducible exact Below.size (by with_reducible assumption)) | go_size)), block_alloc (heap_alloc_last w _), ?_⟩
    have := heap_alloc_last (w.alloc (.cells (tC fun _ => 0) 26)) (.cells (tC fun _ => 0) 26)
    rw [show (w.alloc (.cells (tC fun _ => 0) 26)).heap.size = w.heap.size + 1 by simp] at this
    exact this
  case round =>
    obtain ⟨k, hk, rfl, hB, hg0, hg1⟩ := hrel
    have hzr := hB.size
    by_cases hlt : k < 64
    · have K := Lib.hid (HC.out k hlt wr hB)
      have hcv : ∀ w, _ := fun w => run_float32 (x k) w
      have hc0 : wr.cell? ⟨w.heap.size + 1, k, none⟩ = some (f32 (tF x k k)) := (cell_block hg1).trans (tC_get _ hlt)
      have hf0 : wr.frozen? ⟨w.heap.size + 1, k, none⟩ = false := frozen_block hg1
      have HB := Lib.hid hB
      have HG0 := Lib.hid hg0
      have HG1 := Lib.hid hg1
      clear hB hg0 hg1
      unfold f32 at hc0 hcv
      generalize hv : wd Ieee.single (x k) = v at *
      have HV := Lib.hid hv
      clear hv
      have e0 : (0 : Int) ≤ (k : Int) := by omega
      have e1 : (k : Int) < 64 := by omega
      have he : ∀ w, (callFunc f (#[.int .i64 (k : Int)] ++ cap)).run Try.prog w = .ok (.enter f (#[.int .i64 (k : Int)] ++ cap)) w := fun w => HF.out _ w
      go_wp2_with fail
      refine K.out.mono ?_
      rintro e w' ⟨rfl, rfl⟩
      clear he
      go_wp2
      go_roundw
      case rel =>
        refine ⟨k + 1, by omega, by go_num, by have := HB.out; (repeat' (first | (with_reducible exact Below.refl _ _) | (with_reducible assumption) | (with_reducible refine Below.alloc ?_ ?_ _) | (with_reducible refine Below.drew ?_) | (with_reducible refine below_drewN ?_ _) | (with_reducible refine Below.setCell ?_ ?_ _) | (with_reducible refine below_step (by with_reducible assumption) ?_ ?_) | (with_reducible exact Below.size (by with_reducible assumption)) | go_size)), ?_, ?_⟩
        · rw [block_setCell_other (by omega)]; exact HG0.out
        · have h := block_setCell (i := k) (v := .float .f32 v) HG1.out
          rw [h]
          have h2 := tC_set x hlt
          unfold f32 at h2
          rw [HV.out] at h2
          rw [h2]
      case measure => simp [intOf]; omega
    · have ek : k = 64 := by omega
      subst ek
      have hs := Lib.hid (tC_size (tF x 64))
      have hs0 := Lib.hid (tC_size fun _ => 0)
      have ho := Lib.hid (tC_one (tF x 64))
      have he := Lib.hid (tC_congr (x := tF x 64) (y := x) (fun i hi => by unfold tF; rw [if_pos hi]))
      generalize tC (tF x 64) = c at *
      generalize (tC fun _ => 0) = z at *
      go_wp2_with (first | (refine wpl_load rfl 26 26 _ (w.heap.size + 1) c (0, 0) _ rfl rfl Try.underlying26 rfl (by rw [hs.out]; exact infoTrace) hg1 ?_) | (refine wpl_store rfl 26 26 _ _ w.heap.size z c rfl rfl rfl (by rw [hs.out]; exact infoTrace) (by rw [hs.out, hs0.out]) ho.out hg0 ?_))
      refine bodyPost_ret (v := .agg c) ?_ rfl ⟨by rw [he.out], below_setRow hB c (Nat.le_refl _)⟩
      rw [results_cell1 (p := 2) (ty := 26) rfl]
      change (loadVar 26 ⟨w.heap.size, 0, none⟩).run Try.prog _ = _
      exact run_loadVar_row _ _ 26 26 c (0, 0) _ (block_setRow hg0) Try.underlying26 rfl (by rw [hs.out]; exact infoTrace)
end Go.Proofs.Ythgnemkfaiejbaa
