/-
  TRACES: cleared; Analytic.
-/
import Derived.Test.YthgnemkfaiejbaaTWith
import Derived.Deep.RegionHeld3
set_option linter.unusedVariables false
set_option linter.unusedSimpArgs false
namespace Go.Proofs.Ythgnemkfaiejbaa
open Go.RowKit

theorem abs_last {α : Sort _} {f : α → Prop} {x : α} (h : ∀ y, y = x → f y) : f x := h x rfl
theorem abs_calls {P : Program} {f : FuncId} {vs : Array Value} {w : World} {Q : Ending → World → Prop} (h : ∀ W, W = w → Calls P f vs W Q) : Calls P f vs w Q := h w rfl
theorem cleared1_any (n : Int) (b k : Nat) (w : World) (hk : k < 64) (hn : n.natAbs < 2 ^ 24) (hc : w.cell? ⟨b, k, none⟩ = some (f32 n)) :
    Calls Try.prog 164 #[.int .i64 (k : Int), .pointer (some ⟨b, 0, none⟩)] w fun e w' => e = .returned (.int .i64 n) ∧ w = w' := by
  have hcv : ∀ w, _ := fun w => run_int32 n w hn
  clear hn
  unfold f32 at hc
  generalize wd Ieee.single n = v at *
  have e0 : (0 : Int) ≤ (k : Int) := by omega
  have e1 : (k : Int) < 64 := by omega
  go_enter Try.func164, Try.ntmps164
  go_wp2
  go_ret
  exact ⟨rfl, rfl⟩
set_option maxRecDepth 100000 in
set_option maxHeartbeats 1000000 in
theorem cleared_ok (x : Nat → Int) (w : World) (hx : Hid (∀ k, k < 64 → (x k).natAbs ≤ 2047)) :
    Calls Try.prog 108 #[.agg (tC x)] w fun e w' => e = .returned (.agg (tC x)) ∧ Below w.heap.size w w' := by
  have hmf : ∀ (fn : Fn) (first cap : Array Value) (w : World), (Instr.makeFunc fn first cap).run Try.prog w = .ok (.func fn first cap) w := fun _ _ _ _ => rfl
  have HF : Hid (Enters Try.prog 164) := Lib.hid (enters_of Try.func164 (by kernel_rfl) rfl)
  have hs := Lib.hid (tC_size x)
  have hs0 := Lib.hid (tC_size fun _ => 0)
  have ho := Lib.hid (tC_one x)
  have HT : Hid (∀ W, W.heap[w.heap.size]? = some (.cells (tC x) 26 (0, 0)) → w.heap.size < W.heap.size → Calls Try.prog 127 #[.func (.func 164) #[] #[.pointer (some ⟨w.heap.size, 0, none⟩)]] W fun e w' => e = .returned (.agg (tC x)) ∧ Below W.heap.size W w') :=
    Lib.hid fun W hg hz => traceWith_any x _ _ W HF (Lib.hid fun k hk W' hB => cleared1_any (x k) w.heap.size k W' hk (by have := hx.out k hk; omega) ((cell_block (block_below hB hz hg)).trans (tC_get x hk)))
  clear hx HF
  go_enter Try.func108, Try.ntmps108
  go_wp2_with (refine wpl_alloc rfl 26 (tC fun _ => 0) rfl (zero_trace _) ?_)
  refine (HT.out _ (block_alloc (heap_alloc_last w _)) (by simp)).mono ?_
  rintro e w1 ⟨rfl, hw1⟩
  have hz1 := hw1.size
  simp only [World.size_alloc] at hz1
  have hg0 : w1.heap[w.heap.size + 1]? = some (.cells (tC fun _ => 0) 26 (0, 0)) := by
    refine block_below hw1 (by simp) ?_
    have := heap_alloc_last (w.alloc (.cells (tC x) 26)) (.cells (tC fun _ => 0) 26)
    rwa [show (w.alloc (.cells (tC x) 26)).heap.size = w.heap.size + 1 by simp] at this
  have hb1 : Below w.heap.size w w1 := by (repeat' (first | (with_reducible exact Below.refl _ _) | (with_reducible assumption) | (with_reducible refine Below.alloc ?_ ?_ _) | (with_reducible refine Below.drew ?_) | (with_reducible refine below_drewN ?_ _) | (with_reducible refine Below.setCell ?_ ?_ _) | (with_reducible refine below_step (by with_reducible assumption) ?_ ?_) | (with_reducible exact Below.size (by with_reducible assumption)) | go_size))
  clear HT hw1
  generalize hc : tC x = c at *
  have HC := Lib.hid hc
  clear hc
  generalize (tC fun _ => 0) = z at *
  go_wp2_with (refine wpl_store rfl 26 26 _ _ (w.heap.size + 1) z c rfl rfl rfl (by rw [hs.out]; exact infoTrace) (by rw [hs.out, hs0.out]) ho.out hg0 ?_)
  refine bodyPost_ret (v := .agg c) ?_ rfl ⟨by rw [HC.out], below_setRow hb1 c (by omega)⟩
  rw [results_cell1 (p := 2) (ty := 26) rfl]
  change (loadVar 26 ⟨w.heap.size + 1, 0, none⟩).run Try.prog _ = _
  exact run_loadVar_row _ _ 26 26 c (0, 0) _ (block_setRow hg0) Try.underlying26 rfl (by rw [hs.out]; exact infoTrace)
end Go.Proofs.Ythgnemkfaiejbaa
