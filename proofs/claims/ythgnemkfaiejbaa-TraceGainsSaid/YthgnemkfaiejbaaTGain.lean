/-
  GAINED: a closure that counts; traceWith over it; Gained with and without errors.
-/
import Derived.Test.YthgnemkfaiejbaaTGcd
import Derived.Test.YthgnemkfaiejbaaTAdd
import Derived.Laws.ResultCell
set_option linter.unusedVariables false
set_option linter.unusedSimpArgs false
namespace Go.Proofs.Ythgnemkfaiejbaa
open Go.RowKit

/-- nothing but the block c (and what is new) has changed -/
def But (c : Nat) (w w' : World) : Prop := Below c w w' ∧ ∀ k, k < w.heap.size → k ≠ c → w'.heap[k]? = w.heap[k]?
theorem But.refl (c : Nat) (w : World) : But c w w := ⟨Below.refl _ _, fun _ _ _ => rfl⟩
theorem But.trans {c : Nat} {a b d : World} (h : But c a b) (k : But c b d) : But c a d :=
  ⟨h.1.trans k.1, fun i hi hc => (k.2 i (Nat.lt_of_lt_of_le hi h.1.size) hc).trans (h.2 i hi hc)⟩
theorem But.of_below {c : Nat} {a b : World} (h : Below a.heap.size a b) (hc : c ≤ a.heap.size) : But c a b := ⟨h.mono hc, fun i hi _ => h.block i hi⟩
theorem But.then {c : Nat} {w a b : World} (h : But c w a) (k : Below w.heap.size a b) (hc : c ≤ w.heap.size) : But c w b :=
  ⟨h.1.trans (k.mono hc), fun i hi hk => (k.block i hi).trans (h.2 i hi hk)⟩
theorem But.setCell {c : Nat} {w a : World} (h : But c w a) (v : Value) : But c w (a.setCell ⟨c, 0, none⟩ v) :=
  ⟨h.1.trans ⟨rfl, rfl, rfl, by simp [World.setCell], fun k hk => block_setCell_other (by omega)⟩, fun i hi hk => (block_setCell_other (by omega)).trans (h.2 i hi hk)⟩
theorem cell_of {w w' : World} {g i : Nat} (h : w'.heap[g]? = w.heap[g]?) : w'.cell? ⟨g, i, none⟩ = w.cell? ⟨g, i, none⟩ := by
  unfold World.cell?
  simp only [h]
theorem frozen_of {w w' : World} {g i : Nat} (h : w'.heap[g]? = w.heap[g]?) : w'.frozen? ⟨g, i, none⟩ = w.frozen? ⟨g, i, none⟩ := by
  unfold World.frozen?
  simp only [h]
set_option maxRecDepth 100000 in
set_option maxHeartbeats 2000000 in
theorem traceWith_but (x : Nat → Int) (q : Nat → Int) (f : FuncId) (cap : Array Value) (cb : Nat) (w : World) (hcb : cb < w.heap.size) (HF : Hid (Enters Try.prog f))
    (h0 : w.cell? ⟨cb, 0, none⟩ = some (.int .i64 (q 0))) (hz0 : w.frozen? ⟨cb, 0, none⟩ = false)
    (HC : Hid (∀ k : Nat, k < 64 → ∀ W, But cb w W → W.cell? ⟨cb, 0, none⟩ = some (.int .i64 (q k)) → W.frozen? ⟨cb, 0, none⟩ = false → Calls Try.prog f (#[.int .i64 (k : Int)] ++ cap) W fun e w' => e = .returned (.int .i64 (x k)) ∧ But cb W w' ∧ w'.cell? ⟨cb, 0, none⟩ = some (.int .i64 (q (k + 1))) ∧ w'.frozen? ⟨cb, 0, none⟩ = false)) :
    Calls Try.prog 127 #[.func (.func f) #[] cap] w fun e w' => e = .returned (.agg (tC x)) ∧ But cb w w' ∧ w'.cell? ⟨cb, 0, none⟩ = some (.int .i64 (q 64)) ∧ w'.frozen? ⟨cb, 0, none⟩ = false := by
  have HQ0 := Lib.hid h0
  have HZ0 := Lib.hid hz0
  clear h0 hz0
  go_enter Try.func127, Try.ntmps127
  go_wp2_with (refine wpl_alloc rfl 26 (tC fun _ => 0) rfl (zero_trace _) ?_)
  have hl1 : w.heap.size < w.heap.size + 1 := by omega
  go_loopw [5] (fun i wr => ∃ k : Nat, k ≤ 64 ∧ i = .int .i64 (k : Int) ∧ Hid (But cb w wr) ∧ Hid (wr.cell? ⟨cb, 0, none⟩ = some (.int .i64 (q k))) ∧ Hid (wr.frozen? ⟨cb, 0, none⟩ = false) ∧ wr.heap[w.heap.size]? = some (.cells (tC fun _ => 0) 26 (0, 0)) ∧ wr.heap[w.heap.size + 1]? = some (.cells (tC (tF x k)) 26 (0, 0))) (fun i _ => 64 - (intOf i).toNat)
  case atStart =>
    refine ⟨0, Nat.zero_le _, rfl, Lib.hid (But.then (But.refl _ _) (by (repeat' (first | (with_reducible exact Below.refl _ _) | (with_reducible assumption) | (with_reducible refine Below.alloc ?_ ?_ _) | (with_reducible refine Below.drew ?_) | (with_reducible refine below_drewN ?_ _) | (with_reducible refine Below.setCell ?_ ?_ _) | (with_reducible refine below_step (by with_reducible assumption) ?_ ?_) | (with_reducible exact Below.size (by with_reducible assumption)) | go_size))) (by omega)), Lib.hid ?_, Lib.hid ?_, block_alloc (heap_alloc_last w _), ?_⟩
    · exact (cell_of (by exact ((Below.heap_alloc _ _ _ (by simp; omega)).trans (Below.heap_alloc _ _ _ hcb)))).trans HQ0.out
    · exact (frozen_of (by exact ((Below.heap_alloc _ _ _ (by simp; omega)).trans (Below.heap_alloc _ _ _ hcb)))).trans HZ0.out
    · have := heap_alloc_last (w.alloc (.cells (tC fun _ => 0) 26)) (.cells (tC fun _ => 0) 26)
      rw [show (w.alloc (.cells (tC fun _ => 0) 26)).heap.size = w.heap.size + 1 by simp] at this
      exact this
  case round =>
    obtain ⟨k, hk, rfl, HB, HQ, HZ, hg0, hg1⟩ := hrel
    have hzr := HB.out.1.size
    have l0 := (Array.getElem?_eq_some_iff.1 hg0).1
    have l1 := (Array.getElem?_eq_some_iff.1 hg1).1
    by_cases hlt : k < 64
    · have K := Lib.hid (HC.out k hlt wr HB.out HQ.out HZ.out)
      have hcv : ∀ w, _ := fun w => run_float32 (x k) w
      have HG0 := Lib.hid hg0
      have HG1 := Lib.hid hg1
      clear hg0 hg1
      unfold f32 at hcv
      generalize hv : wd Ieee.single (x k) = v at *
      have HV := Lib.hid hv
      clear hv
      have e0 : (0 : Int) ≤ (k : Int) := by omega
      have e1 : (k : Int) < 64 := by omega
      have he : ∀ w, (callFunc f (#[.int .i64 (k : Int)] ++ cap)).run Try.prog w = .ok (.enter f (#[.int .i64 (k : Int)] ++ cap)) w := fun w => HF.out _ w
      go_wp2_with fail
      refine K.out.mono ?_
      rintro e w2 ⟨rfl, hw2, hq2, hz2⟩
      clear he
      have k0 := (hw2.2 _ l0 (by omega)).trans HG0.out
      have k1 := (hw2.2 _ l1 (by omega)).trans HG1.out
      have HB2 := Lib.hid (HB.out.trans hw2)
      have hc0 : w2.cell? ⟨w.heap.size + 1, k, none⟩ = some (f32 (tF x k k)) := (cell_block k1).trans (tC_get _ hlt)
      have hf0 : w2.frozen? ⟨w.heap.size + 1, k, none⟩ = false := frozen_block k1
      have HK0 := Lib.hid k0
      have HK1 := Lib.hid k1
      have HQ2 := Lib.hid hq2
      have HZ2 := Lib.hid hz2
      clear k0 k1 hw2 hq2 hz2
      unfold f32 at hc0
      go_wp2
      go_roundw
      case rel =>
        refine ⟨k + 1, by omega, by go_num, Lib.hid (HB2.out.then (by (repeat' (first | (with_reducible exact Below.refl _ _) | (with_reducible assumption) | (with_reducible refine Below.alloc ?_ ?_ _) | (with_reducible refine Below.drew ?_) | (with_reducible refine below_drewN ?_ _) | (with_reducible refine Below.setCell ?_ ?_ _) | (with_reducible refine below_step (by with_reducible assumption) ?_ ?_) | (with_reducible exact Below.size (by with_reducible assumption)) | go_size))) (by omega)), Lib.hid ?_, Lib.hid ?_, ?_, ?_⟩
        · refine (cell_of ?_).trans HQ2.out
          first | exact block_setCell_other (by omega) | (rw [heap_drew]; exact block_setCell_other (by omega))
        · refine (frozen_of ?_).trans HZ2.out
          first | exact block_setCell_other (by omega) | (rw [heap_drew]; exact block_setCell_other (by omega))
        · rw [block_setCell_other (by omega)]; exact HK0.out
        · have h := block_setCell (i := k) (v := .float .f32 v) HK1.out
          rw [h]
          have h2 := tC_set x hlt
          unfold f32 at h2
          rw [HV.out] at h2
          rw [h2]
      case measure => simp [intOf]; omega
    · have ek : k = 64 := by omega
      subst ek
      have hs := Lib.hid (tC_size (tF x 64))
      have hs0 := Lib.hid (tC_size fun _ => 0)
      have ho := Lib.hid (tC_one (tF x 64))
      have he := Lib.hid (tC_congr (x := tF x 64) (y := x) (fun i hi => by unfold tF; rw [if_pos hi]))
      generalize tC (tF x 64) = c at *
      generalize (tC fun _ => 0) = z at *
      go_wp2_with (first | (refine wpl_load rfl 26 26 _ (w.heap.size + 1) c (0, 0) _ rfl rfl Try.underlying26 rfl (by rw [hs.out]; exact infoTrace) hg1 ?_) | (refine wpl_store rfl 26 26 _ _ w.heap.size z c rfl rfl rfl (by rw [hs.out]; exact infoTrace) (by rw [hs.out, hs0.out]) ho.out hg0 ?_))
      refine bodyPost_ret (v := .agg c) ?_ rfl ⟨by rw [he.out], HB.out.then (below_setRow (Below.refl _ _) c (Nat.le_refl _)) (by omega), ?_, ?_⟩
      · rw [results_cell1 (p := 2) (ty := 26) rfl]
        change (loadVar 26 ⟨w.heap.size, 0, none⟩).run Try.prog _ = _
        exact run_loadVar_row _ _ 26 26 c (0, 0) _ (block_setRow hg0) Try.underlying26 rfl (by rw [hs.out]; exact infoTrace)
      · exact (cell_of (block_setRow_other (by omega))).trans HQ.out
      · exact (frozen_of (block_setRow_other (by omega))).trans HZ.out
end Go.Proofs.Ythgnemkfaiejbaa
