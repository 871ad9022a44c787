/-
  TraceGains: the walks.
-/
import Derived.Test.YthgnemkfaiejbaaTraceGnA
import Derived.Test.YthgnemkfaiejbaaTChk
import Derived.Test.YthgnemkfaiejbaaTMade
import Derived.Test.YthgnemkfaiejbaaTAwake
import Derived.Test.YthgnemkfaiejbaaTraceLagsO
set_option linter.unusedVariables false
set_option linter.unusedSimpArgs false
namespace Go.Proofs.Ythgnemkfaiejbaa
open Go.RowKit

set_option maxRecDepth 100000 in
set_option maxHeartbeats 4000000 in
theorem traceGn_ok (v0 : Value) (x : Nat → Int) (n : Nat) (f t : Int) (G : Nat → Int) (Q : Int) (w : World) (hr0 : Hid (IRow w v0 x n)) (hn : n ≤ 64)
    (KD : Hid (∀ W, Calls Try.prog 56 #[.agg (tC (mkT x n)), .agg #[.int .i64 f, .int .i64 t]] W fun e w' => e = .returned (.tuple #[.agg (tC (G)), .int .i64 Q, .int .i64 0]) ∧ Below W.heap.size W w'))
    (KO : Hid (∀ W, Calls Try.prog 56 #[.agg (tC (mkT x n)), .agg #[.int .i64 1, .int .i64 1]] W fun e w' => e = .returned (.tuple #[.agg (tC (mkT x n)), .int .i64 0, .int .i64 0]) ∧ Below W.heap.size W w'))
    (KX : Hid (∀ W, Calls Try.prog 23 #[.agg (tC (mkT x n))] W fun e w' => e = .returned (.tuple #[.int .i64 (tN (mkT x n) 64), .int .i64 0]) ∧ Below W.heap.size W w'))
    (KE : Hid (∀ W, Calls Try.prog 57 #[.agg #[.int .i64 f, .int .i64 t]] W fun e w' => e = .returned (.int .i64 0) ∧ Below W.heap.size W w'))
    (KR : Hid (∀ W, Calls Try.prog 58 #[.agg (tC (mkT x n)), .agg #[.int .i64 f, .int .i64 t]] W fun e w' => e = .returned (.tuple #[.agg (tC G), .int .i64 Q]) ∧ Below W.heap.size W w'))
    : Calls Try.prog 10 #[v0, .agg #[.int .i64 f, .int .i64 t]] w fun e w' => e = .returned (.bool true) ∧ Below w.heap.size w w' := by
  have KA := Lib.hid awake3_any
  have KWh := Lib.hid (whole_any 1)
  have KM0 := Lib.hid (fun W (hB : Below w.heap.size w W) => made_any v0 x n W (by omega) (Lib.hid (hr0.out.below hB)))
  have KQg := Lib.hid (fun W => sameTrace_eq (G) W)
  have KQo := Lib.hid (fun W => sameTrace_eq (mkT x n) W)
  obtain ⟨q0, c0, rfl, hc0, -⟩ := hr0.out
  have d0 : decide (64 < (n : Int)) = false := decide_eq_false (by omega)
  have HZ := Lib.hid zero_trace
  have hs0 := Lib.hid (tC_size fun _ => 0)
  have hoz := Lib.hid (tC_one fun _ => 0)
  have hsc := Lib.hid (tC_size (mkT x n))
  have hoc := Lib.hid (tC_one (mkT x n))
  have hsg := Lib.hid (tC_size G)
  have hog := Lib.hid (tC_one G)
  clear hr0 hc0
  generalize tN (mkT x n) 64 = nx at *
  generalize tC (mkT x n) = c at *
  generalize (tC fun _ => 0) = z at *
  generalize tC G = g at *
  have hinC : (Try.prog.info? 26).map (·.size) = some c.size := by rw [hsc.out]; exact infoTrace
  go_enter Try.func10, Try.ntmps10
  go_wp2_with fail; (refine (KA.out _).mono ?_; rintro e w1 ⟨rfl, hw1⟩; obtain ⟨hcw1, hfw1, hlw1, hmw1, hnw1⟩ := bcell3 hw1; have hzw1 := hw1.size; (try simp only [World.size_alloc, World.size_setCell, World.size_drew, size_drewN] at hzw1))
  have cg1_0 : w1.cell? ⟨w.heap.size, 0, none⟩ = some (.int .i64 (f)) := (hcw1 (w.heap.size) (0) (by first | omega | (simp only [World.size_alloc, World.size_drew, World.size_setCell, size_drewN]; omega))).trans (by first | assumption | (simp [go_sem, *]; done)); have cg1_1 : w1.cell? ⟨w.heap.size, 1, none⟩ = some (.int .i64 (t)) := (hcw1 (w.heap.size) (1) (by first | omega | (simp only [World.size_alloc, World.size_drew, World.size_setCell, size_drewN]; omega))).trans (by first | assumption | (simp [go_sem, *]; done)); have og1 : w.heap.size < w1.heap.size := (by omega)
  clear hcw1 hfw1 hlw1 hmw1 hnw1
  have hB1 : Below w.heap.size w w1 := by (repeat' (first | (with_reducible exact Below.refl _ _) | (with_reducible assumption) | (with_reducible refine Below.alloc ?_ ?_ _) | (with_reducible refine Below.drew ?_) | (with_reducible refine below_drewN ?_ _) | (with_reducible refine Below.setCell ?_ ?_ _) | (with_reducible refine below_step (by with_reducible assumption) ?_ ?_) | (with_reducible exact Below.size (by with_reducible assumption)) | go_size))
  go_wp2_with fail; (refine (KM0.out _ hB1).mono ?_; rintro e w2 ⟨rfl, hw2⟩; obtain ⟨hcw2, hfw2, hlw2, hmw2, hnw2⟩ := bcell3 hw2; have hzw2 := hw2.size; (try simp only [World.size_alloc, World.size_setCell, World.size_drew, size_drewN] at hzw2))
  have cg2_0 : w2.cell? ⟨w.heap.size, 0, none⟩ = some (.int .i64 (f)) := (hcw2 (w.heap.size) (0) (by first | omega | (simp only [World.size_alloc, World.size_drew, World.size_setCell, size_drewN]; omega))).trans (by first | assumption | (simp [go_sem, *]; done)); have cg2_1 : w2.cell? ⟨w.heap.size, 1, none⟩ = some (.int .i64 (t)) := (hcw2 (w.heap.size) (1) (by first | omega | (simp only [World.size_alloc, World.size_drew, World.size_setCell, size_drewN]; omega))).trans (by first | assumption | (simp [go_sem, *]; done)); have og2 : w.heap.size < w2.heap.size := (by omega)
  clear cg1_0 cg1_1
  clear hcw2 hfw2 hlw2 hmw2 hnw2
  have hlg2 : w.heap.size < w2.heap.size := by omega
  go_wp2_with (first | (refine wpl_alloc rfl 26 z rfl (HZ.out _) ?_) | (refine wpl_store_new rfl 26 _ _ z c rfl rfl rfl (by rw [hsc.out]; exact infoTrace) (by rw [hs0.out, hsc.out]) hoc.out ?_) | (refine wpl_load rfl 26 26 _ w2.heap.size c (0, 0) _ rfl rfl Try.underlying26 rfl (by rw [hsc.out]; exact infoTrace) (heap_alloc_last w2 _) ?_))
  go_wp2_with fail; (refine (KD.out _).mono ?_; rintro e w3 ⟨rfl, hw3⟩; obtain ⟨hcw3, hfw3, hlw3, hmw3, hnw3⟩ := bcell3 hw3; have hzw3 := hw3.size; (try simp only [World.size_alloc, World.size_setCell, World.size_drew, size_drewN] at hzw3))
  have cg3_0 : w3.cell? ⟨w.heap.size, 0, none⟩ = some (.int .i64 (f)) := (hcw3 (w.heap.size) (0) (by first | omega | (simp only [World.size_alloc, World.size_drew, World.size_setCell, size_drewN]; omega))).trans (by first | assumption | (simp [go_sem, *]; done)); have cg3_1 : w3.cell? ⟨w.heap.size, 1, none⟩ = some (.int .i64 (t)) := (hcw3 (w.heap.size) (1) (by first | omega | (simp only [World.size_alloc, World.size_drew, World.size_setCell, size_drewN]; omega))).trans (by first | assumption | (simp [go_sem, *]; done)); have og3 : w.heap.size < w3.heap.size := (by omega)
  clear cg2_0 cg2_1
  have ca3_0 : w3.heap[w2.heap.size]? = some (.cells (c) 26 (0, 0)) := block_below0 hw3 (by first | assumption | (repeat (first | assumption | (refine heap_alloc_at ?_; (first | rfl | (simp only [World.size_alloc, World.size_drew, World.size_setCell, size_drewN]; done))) | refine block_alloc ?_)))
  clear hcw3 hfw3 hlw3 hmw3 hnw3
  go_wp2_with (first | (refine wpl_alloc rfl 26 z rfl (HZ.out _) ?_) | (refine wpl_store_new rfl 26 _ _ z g rfl rfl rfl (by rw [hsg.out]; exact infoTrace) (by rw [hs0.out, hsg.out]) hog.out ?_) | (refine wpl_load rfl 26 26 _ w2.heap.size c (0, 0) _ rfl rfl Try.underlying26 rfl (by rw [hsc.out]; exact infoTrace) (block_alloc ca3_0) ?_))
  go_wp2_with fail; (refine (KX.out _).mono ?_; rintro e w4 ⟨rfl, hw4⟩; obtain ⟨hcw4, hfw4, hlw4, hmw4, hnw4⟩ := bcell3 hw4; have hzw4 := hw4.size; (try simp only [World.size_alloc, World.size_setCell, World.size_drew, size_drewN] at hzw4))
  have cg4_0 : w4.cell? ⟨w.heap.size, 0, none⟩ = some (.int .i64 (f)) := (hcw4 (w.heap.size) (0) (by first | omega | (simp only [World.size_alloc, World.size_drew, World.size_setCell, size_drewN]; omega))).trans (by first | assumption | (simp [go_sem, *]; done)); have cg4_1 : w4.cell? ⟨w.heap.size, 1, none⟩ = some (.int .i64 (t)) := (hcw4 (w.heap.size) (1) (by first | omega | (simp only [World.size_alloc, World.size_drew, World.size_setCell, size_drewN]; omega))).trans (by first | assumption | (simp [go_sem, *]; done)); have og4 : w.heap.size < w4.heap.size := (by omega)
  clear cg3_0 cg3_1
  have ca4_0 : w4.heap[w2.heap.size]? = some (.cells (c) 26 (0, 0)) := block_below0 hw4 (by first | assumption | (repeat (first | assumption | (refine heap_alloc_at ?_; (first | rfl | (simp only [World.size_alloc, World.size_drew, World.size_setCell, size_drewN]; done))) | refine block_alloc ?_)))
  clear ca3_0
  have ct4_0 : w4.heap[w3.heap.size]? = some (.cells (g) 26 (0, 0)) := block_below0 hw4 (by first | assumption | (repeat (first | assumption | (refine heap_alloc_at ?_; (first | rfl | (simp only [World.size_alloc, World.size_drew, World.size_setCell, size_drewN]; done))) | refine block_alloc ?_)))
  clear hcw4 hfw4 hlw4 hmw4 hnw4
  go_wp2_with fail; (refine (KE.out _).mono ?_; rintro e w5 ⟨rfl, hw5⟩; obtain ⟨hcw5, hfw5, hlw5, hmw5, hnw5⟩ := bcell3 hw5; have hzw5 := hw5.size; (try simp only [World.size_alloc, World.size_setCell, World.size_drew, size_drewN] at hzw5))
  have cg5_0 : w5.cell? ⟨w.heap.size, 0, none⟩ = some (.int .i64 (f)) := (hcw5 (w.heap.size) (0) (by first | omega | (simp only [World.size_alloc, World.size_drew, World.size_setCell, size_drewN]; omega))).trans (by first | assumption | (simp [go_sem, *]; done)); have cg5_1 : w5.cell? ⟨w.heap.size, 1, none⟩ = some (.int .i64 (t)) := (hcw5 (w.heap.size) (1) (by first | omega | (simp only [World.size_alloc, World.size_drew, World.size_setCell, size_drewN]; omega))).trans (by first | assumption | (simp [go_sem, *]; done)); have og5 : w.heap.size < w5.heap.size := (by omega)
  clear cg4_0 cg4_1
  have ca5_0 : w5.heap[w2.heap.size]? = some (.cells (c) 26 (0, 0)) := block_below0 hw5 (by first | assumption | (repeat (first | assumption | (refine heap_alloc_at ?_; (first | rfl | (simp only [World.size_alloc, World.size_drew, World.size_setCell, size_drewN]; done))) | refine block_alloc ?_)))
  clear ca4_0
  have ct5_0 : w5.heap[w3.heap.size]? = some (.cells (g) 26 (0, 0)) := block_below0 hw5 (by first | assumption | (repeat (first | assumption | (refine heap_alloc_at ?_; (first | rfl | (simp only [World.size_alloc, World.size_drew, World.size_setCell, size_drewN]; done))) | refine block_alloc ?_)))
  clear ct4_0
  clear hcw5 hfw5 hlw5 hmw5 hnw5
  go_wp2_with (first | (refine wpl_alloc rfl 26 z rfl (HZ.out _) ?_) | (refine wpl_load rfl 26 26 _ w2.heap.size c (0, 0) _ rfl rfl Try.underlying26 rfl (by rw [hsc.out]; exact infoTrace) (block_alloc ca5_0) ?_))
  go_wp2_with fail; (refine (KR.out _).mono ?_; rintro e w6 ⟨rfl, hw6⟩; obtain ⟨hcw6, hfw6, hlw6, hmw6, hnw6⟩ := bcell3 hw6; have hzw6 := hw6.size; (try simp only [World.size_alloc, World.size_setCell, World.size_drew, size_drewN] at hzw6))
  have cg6_0 : w6.cell? ⟨w.heap.size, 0, none⟩ = some (.int .i64 (f)) := (hcw6 (w.heap.size) (0) (by first | omega | (simp only [World.size_alloc, World.size_drew, World.size_setCell, size_drewN]; omega))).trans (by first | assumption | (simp [go_sem, *]; done)); have cg6_1 : w6.cell? ⟨w.heap.size, 1, none⟩ = some (.int .i64 (t)) := (hcw6 (w.heap.size) (1) (by first | omega | (simp only [World.size_alloc, World.size_drew, World.size_setCell, size_drewN]; omega))).trans (by first | assumption | (simp [go_sem, *]; done)); have og6 : w.heap.size < w6.heap.size := (by omega)
  clear cg5_0 cg5_1
  have ca6_0 : w6.heap[w2.heap.size]? = some (.cells (c) 26 (0, 0)) := block_below0 hw6 (by first | assumption | (repeat (first | assumption | (refine heap_alloc_at ?_; (first | rfl | (simp only [World.size_alloc, World.size_drew, World.size_setCell, size_drewN]; done))) | refine block_alloc ?_)))
  clear ca5_0
  have ct6_0 : w6.heap[w3.heap.size]? = some (.cells (g) 26 (0, 0)) := block_below0 hw6 (by first | assumption | (repeat (first | assumption | (refine heap_alloc_at ?_; (first | rfl | (simp only [World.size_alloc, World.size_drew, World.size_setCell, size_drewN]; done))) | refine block_alloc ?_)))
  clear ct5_0
  have cm6_0 : w6.heap[w5.heap.size]? = some (.cells (z) 26 (0, 0)) := block_below0 hw6 (by first | assumption | (repeat (first | assumption | (refine heap_alloc_at ?_; (first | rfl | (simp only [World.size_alloc, World.size_drew, World.size_setCell, size_drewN]; done))) | refine block_alloc ?_)))
  clear hcw6 hfw6 hlw6 hmw6 hnw6
  go_upto_region 14 with (first | (refine wpl_store rfl 26 26 _ _ w5.heap.size z g rfl rfl rfl (by rw [hsg.out]; exact infoTrace) (by rw [hs0.out, hsg.out]) hog.out cm6_0 ?_))
  have hl2 := (Array.getElem?_eq_some_iff.1 ca6_0).1
  have hl3 := (Array.getElem?_eq_some_iff.1 ct6_0).1
  have hlm := (Array.getElem?_eq_some_iff.1 cm6_0).1
  refine abs_last (fun w7 hw7 => ?_)
  have hw70 : Below w.heap.size w w7 := by rw [hw7]; exact below_setRow (by (repeat' (first | (with_reducible exact Below.refl _ _) | (with_reducible assumption) | (with_reducible refine Below.alloc ?_ ?_ _) | (with_reducible refine Below.drew ?_) | (with_reducible refine below_drewN ?_ _) | (with_reducible refine Below.setCell ?_ ?_ _) | (with_reducible refine below_step (by with_reducible assumption) ?_ ?_) | (with_reducible exact Below.size (by with_reducible assumption)) | go_size))) g (by omega)
  have ca7_0 : w7.heap[w2.heap.size]? = some (.cells c 26 (0, 0)) := by rw [hw7, block_setRow_other (by omega)]; exact ca6_0
  have ct7_0 : w7.heap[w3.heap.size]? = some (.cells g 26 (0, 0)) := by rw [hw7, block_setRow_other (by omega)]; exact ct6_0
  have cm7_0 : w7.heap[w5.heap.size]? = some (.cells g 26 (0, 0)) := by rw [hw7]; exact block_setRow cm6_0
  clear hw7 ca6_0 ct6_0 cm6_0 cg6_0 cg6_1
  have hz70 := hw70.size
  go_wp2_with (first | (refine wpl_alloc rfl 26 z rfl (HZ.out _) ?_) | (refine wpl_loadg rfl 26 26 _ w3.heap.size g (0, 0) _ rfl rfl Try.underlying26 rfl (by rw [hsg.out]; exact infoTrace) (ct7_0) ?_) | (refine wpl_loadg rfl 26 26 _ w5.heap.size g (0, 0) _ rfl rfl Try.underlying26 rfl (by rw [hsg.out]; exact infoTrace) (cm7_0) ?_))
  go_wp2_with fail; (refine (KQg.out _).mono ?_; rintro e w8 ⟨rfl, hw8⟩; obtain ⟨hcw8, hfw8, hlw8, hmw8, hnw8⟩ := bcell3 hw8; have hzw8 := hw8.size; (try simp only [World.size_alloc, World.size_setCell, World.size_drew, size_drewN] at hzw8))
  have ca8_0 : w8.heap[w2.heap.size]? = some (.cells (c) 26 (0, 0)) := block_below0 hw8 (by first | assumption | (repeat (first | assumption | (refine heap_alloc_at ?_; (first | rfl | (simp only [World.size_alloc, World.size_drew, World.size_setCell, size_drewN]; done))) | refine block_alloc ?_)))
  clear ca7_0
  have ct8_0 : w8.heap[w3.heap.size]? = some (.cells (g) 26 (0, 0)) := block_below0 hw8 (by first | assumption | (repeat (first | assumption | (refine heap_alloc_at ?_; (first | rfl | (simp only [World.size_alloc, World.size_drew, World.size_setCell, size_drewN]; done))) | refine block_alloc ?_)))
  clear ct7_0
  have cm8_0 : w8.heap[w5.heap.size]? = some (.cells (g) 26 (0, 0)) := block_below0 hw8 (by first | assumption | (repeat (first | assumption | (refine heap_alloc_at ?_; (first | rfl | (simp only [World.size_alloc, World.size_drew, World.size_setCell, size_drewN]; done))) | refine block_alloc ?_)))
  clear cm7_0
  clear hcw8 hfw8 hlw8 hmw8 hnw8
  have hBk8 : Below w.heap.size w w8 := by (repeat' (first | (with_reducible exact Below.refl _ _) | (with_reducible assumption) | (with_reducible refine Below.alloc ?_ ?_ _) | (with_reducible refine Below.drew ?_) | (with_reducible refine below_drewN ?_ _) | (with_reducible refine Below.setCell ?_ ?_ _) | (with_reducible refine below_step (by with_reducible assumption) ?_ ?_) | (with_reducible exact Below.size (by with_reducible assumption)) | go_size))
  go_upto_region 16 with fail
  have hla := (Array.getElem?_eq_some_iff.1 ca8_0).1
  refine wp_region_held_drew (S := fun w' => w'.heap[w2.heap.size]? = some (.cells (c) 26 (0, 0))) (by kernel_rfl) ?_ (fun hH1 => ?_)
  · (first | assumption | (refine ⟨?_⟩ <;> first | assumption | (repeat (first | assumption | (refine heap_alloc_at ?_; (first | rfl | (simp only [World.size_alloc, World.size_drew, World.size_setCell, size_drewN]; done))) | refine block_alloc ?_))))
  refine wpAnyH_pure (i := 0) (v := ?_) rfl (by kernel_rfl) (by kernel_rfl) (by kernel_rfl) (fun _ _ _ h => h) (by rfl) (by assumption) ?_ ?_
  rotate_left
  · (intro w hSw; (try dsimp only at hSw); refine exec_load_arr 26 (p := .tmp 5) ?_ ?_ Try.underlying26 (hinC) (by repeat (first | exact hSw | exact hSw.1 | replace hSw := hSw.2)) <;> rfl)
  simp only [Act.put, List.getElem_toArray, List.getElem_cons_succ, List.getElem_cons_zero, List.setIfInBounds_toArray, List.set_cons_zero, List.set_cons_succ]
  refine wpAnyH_dagC0 (fun a0 l0 l a W => ((W.heap[w2.heap.size]? = some (.cells (c) 26 (0, 0))) ∧ Below w.heap.size w W ∧ (w8.heap.size) ≤ W.heap.size) ∧ (((l = l0) ∧ (a = a0)) ∨ ((l = (l0.setIfInBounds 1 true)) ∧ (a = (a0.put (some 65) (.agg #[.int .i64 1, .int .i64 1])))) ∨ (∃ n13 : Nat, (l = (l0.setIfInBounds 7 true)) ∧ (a = (a0.put (some 13) (.pointer (some ⟨n13, 0, none⟩)))) ∧ (((w8.heap.size) ≤ n13 ∧ n13 < W.heap.size) ∧ W.heap[n13]? = some (.cells (z) 26 (0, 0)))) ∨ ((l = ((l0.setIfInBounds 1 true).setIfInBounds 2 true)) ∧ (a = ((a0.put (some 65) (.agg #[.int .i64 1, .int .i64 1])).put (some 66) (.tuple #[.agg c, .int .i64 0, .int .i64 0])))) ∨ (∃ n13 : Nat, (l = ((l0.setIfInBounds 1 true).setIfInBounds 7 true)) ∧ (a = ((a0.put (some 65) (.agg #[.int .i64 1, .int .i64 1])).put (some 13) (.pointer (some ⟨n13, 0, none⟩)))) ∧ (((w8.heap.size) ≤ n13 ∧ n13 < W.heap.size) ∧ W.heap[n13]? = some (.cells (z) 26 (0, 0)))) ∨ ((l = ((((((l0.setIfInBounds 1 true).setIfInBounds 2 true).setIfInBounds 3 true).setIfInBounds 4 true).setIfInBounds 5 true).setIfInBounds 6 true)) ∧ (a = ((((((a0.put (some 65) (.agg #[.int .i64 1, .int .i64 1])).put (some 66) (.tuple #[.agg c, .int .i64 0, .int .i64 0])).put (some 63) (.tuple #[.agg c, .int .i64 0, .int .i64 0])).put (some 67) (.agg c)).put (some 68) (.int .i64 0)).put (some 69) (.int .i64 0)))) ∨ (∃ n13 : Nat, (l = (((l0.setIfInBounds 1 true).setIfInBounds 2 true).setIfInBounds 7 true)) ∧ (a = (((a0.put (some 65) (.agg #[.int .i64 1, .int .i64 1])).put (some 66) (.tuple #[.agg c, .int .i64 0, .int .i64 0])).put (some 13) (.pointer (some ⟨n13, 0, none⟩)))) ∧ (((w8.heap.size) ≤ n13 ∧ n13 < W.heap.size) ∧ W.heap[n13]? = some (.cells (z) 26 (0, 0)))) ∨ (∃ n13 : Nat, (l = (((((((l0.setIfInBounds 1 true).setIfInBounds 2 true).setIfInBounds 3 true).setIfInBounds 4 true).setIfInBounds 5 true).setIfInBounds 6 true).setIfInBounds 7 true)) ∧ (a = (((((((a0.put (some 65) (.agg #[.int .i64 1, .int .i64 1])).put (some 66) (.tuple #[.agg c, .int .i64 0, .int .i64 0])).put (some 63) (.tuple #[.agg c, .int .i64 0, .int .i64 0])).put (some 67) (.agg c)).put (some 68) (.int .i64 0)).put (some 69) (.int .i64 0)).put (some 13) (.pointer (some ⟨n13, 0, none⟩)))) ∧ (((w8.heap.size) ≤ n13 ∧ n13 < W.heap.size) ∧ W.heap[n13]? = some (.cells (z) 26 (0, 0)))))) (by rfl) ?_ ?_ ?_
  · exact ⟨⟨hH1, by (repeat' (first | (with_reducible exact Below.refl _ _) | (with_reducible assumption) | (with_reducible refine Below.alloc ?_ ?_ _) | (with_reducible refine Below.drew ?_) | (with_reducible refine below_drewN ?_ _) | (with_reducible refine Below.setCell ?_ ?_ _) | (with_reducible refine below_step (by with_reducible assumption) ?_ ?_) | (with_reducible exact Below.size (by with_reducible assumption)) | go_size)), by first | omega | (simp only [World.size_alloc, World.size_setCell, World.size_drew, size_drewN]; omega)⟩, (Or.inl ⟨rfl, rfl⟩)⟩
  · intro l a W hI; exact hI.1.1
  intro l a W hI
  obtain ⟨⟨hSW, hB, hZ⟩, hI⟩ := hI
  have hSW' := hSW
  have cS0 := hSW
  rcases hI with ⟨rfl, rfl⟩ | ⟨rfl, rfl⟩ | ⟨n13, rfl, rfl, ⟨⟨zn13, yn13⟩, dn13⟩⟩ | ⟨rfl, rfl⟩ | ⟨n13, rfl, rfl, ⟨⟨zn13, yn13⟩, dn13⟩⟩ | ⟨rfl, rfl⟩ | ⟨n13, rfl, rfl, ⟨⟨zn13, yn13⟩, dn13⟩⟩ | ⟨n13, rfl, rfl, ⟨⟨zn13, yn13⟩, dn13⟩⟩
  · left
    refine ⟨[1, 7], by kernel_rfl, by simp, ?_⟩
    simp only [Act.put, List.getElem_toArray, List.getElem_cons_succ, List.getElem_cons_zero, List.setIfInBounds_toArray, List.set_cons_zero, List.set_cons_succ]
    refine all_cons ?_ (all_cons ?_ (all_nil))
    · refine wpOp_step rfl (fun Kq hKq => ?_)
      go_simp
      refine (KWh.out _).mono ?_
      rintro e W1 ⟨rfl, hw1⟩
      have hz1 := hw1.size
      refine hKq _ _ ?_
      exact ⟨⟨block_below0 hw1 cS0, below_step hw1 hB (by have := hB.size; omega), by omega⟩, (Or.inr (Or.inl ⟨by rfl, by rfl⟩))⟩
    · refine wpOp_step rfl (fun Kq hKq => ?_)
      rw [if_pos (by rfl)]
      refine wp_alloc_row 26 (z) rfl (HZ.out _) ?_
      have hw1 : Below W.heap.size W (W.alloc (.cells (z) 26)) := by (repeat' (first | (with_reducible exact Below.refl _ _) | (with_reducible assumption) | (with_reducible refine Below.alloc ?_ ?_ _) | (with_reducible refine Below.drew ?_) | (with_reducible refine below_drewN ?_ _) | (with_reducible refine Below.setCell ?_ ?_ _) | (with_reducible refine below_step (by with_reducible assumption) ?_ ?_) | (with_reducible exact Below.size (by with_reducible assumption)) | go_size))
      have hz1 : (W.alloc (.cells (z) 26)).heap.size = W.heap.size + 1 := by simp
      refine hKq _ _ ?_
      exact ⟨⟨block_below0 hw1 cS0, below_step hw1 hB (by have := hB.size; omega), by omega⟩, (Or.inr (Or.inr (Or.inl ⟨W.heap.size, by rfl, by rfl, ⟨⟨by omega, by omega⟩, heap_alloc_last W _⟩⟩)))⟩
  · left
    refine ⟨[2, 7], by kernel_rfl, by simp, ?_⟩
    simp only [Act.put, List.getElem_toArray, List.getElem_cons_succ, List.getElem_cons_zero, List.setIfInBounds_toArray, List.set_cons_zero, List.set_cons_succ]
    refine all_cons ?_ (all_cons ?_ (all_nil))
    · refine wpOp_step rfl (fun Kq hKq => ?_)
      go_simp
      refine (KO.out _).mono ?_
      rintro e W1 ⟨rfl, hw1⟩
      have hz1 := hw1.size
      refine hKq _ _ ?_
      exact ⟨⟨block_below0 hw1 cS0, below_step hw1 hB (by have := hB.size; omega), by omega⟩, (Or.inr (Or.inr (Or.inr (Or.inl ⟨by rfl, by rfl⟩))))⟩
    · refine wpOp_step rfl (fun Kq hKq => ?_)
      rw [if_pos (by rfl)]
      refine wp_alloc_row 26 (z) rfl (HZ.out _) ?_
      have hw1 : Below W.heap.size W (W.alloc (.cells (z) 26)) := by (repeat' (first | (with_reducible exact Below.refl _ _) | (with_reducible assumption) | (with_reducible refine Below.alloc ?_ ?_ _) | (with_reducible refine Below.drew ?_) | (with_reducible refine below_drewN ?_ _) | (with_reducible refine Below.setCell ?_ ?_ _) | (with_reducible refine below_step (by with_reducible assumption) ?_ ?_) | (with_reducible exact Below.size (by with_reducible assumption)) | go_size))
      have hz1 : (W.alloc (.cells (z) 26)).heap.size = W.heap.size + 1 := by simp
      refine hKq _ _ ?_
      exact ⟨⟨block_below0 hw1 cS0, below_step hw1 hB (by have := hB.size; omega), by omega⟩, (Or.inr (Or.inr (Or.inr (Or.inr (Or.inl ⟨W.heap.size, by rfl, by rfl, ⟨⟨by omega, by omega⟩, heap_alloc_last W _⟩⟩)))))⟩
  · left
    refine ⟨[1], by kernel_rfl, by simp, ?_⟩
    simp only [Act.put, List.getElem_toArray, List.getElem_cons_succ, List.getElem_cons_zero, List.setIfInBounds_toArray, List.set_cons_zero, List.set_cons_succ]
    refine all_cons ?_ (all_nil)
    · refine wpOp_step rfl (fun Kq hKq => ?_)
      go_simp
      refine (KWh.out _).mono ?_
      rintro e W1 ⟨rfl, hw1⟩
      have hz1 := hw1.size
      refine hKq _ _ ?_
      exact ⟨⟨block_below0 hw1 cS0, below_step hw1 hB (by have := hB.size; omega), by omega⟩, (Or.inr (Or.inr (Or.inr (Or.inr (Or.inl ⟨n13, by rfl, by rfl, ⟨⟨zn13, by omega⟩, block_below0 hw1 dn13⟩⟩)))))⟩
  · right; left
    apply jump_intro
    · intro hh; refine wpAnyH_fuel 8 (by rfl) ?_
      refine wpAnyH_pure (i := 3) (v := ?_) rfl (by kernel_rfl) (by kernel_rfl) (by kernel_rfl) (fun _ _ _ h => h) (by rfl) (by assumption) ?_ ?_
      rotate_left
      · (intro w hSw; (try dsimp only at hSw); go_simp; (try with_reducible rfl))
      refine wpAnyH_pure (i := 4) (v := ?_) rfl (by kernel_rfl) (by kernel_rfl) (by kernel_rfl) (fun _ _ _ h => h) (by rfl) (by assumption) ?_ ?_
      rotate_left
      · (intro w hSw; (try dsimp only at hSw); go_simp; (try with_reducible rfl))
      refine wpAnyH_pure (i := 5) (v := ?_) rfl (by kernel_rfl) (by kernel_rfl) (by kernel_rfl) (fun _ _ _ h => h) (by rfl) (by assumption) ?_ ?_
      rotate_left
      · (intro w hSw; (try dsimp only at hSw); go_simp; (try with_reducible rfl))
      refine wpAnyH_pure (i := 6) (v := ?_) rfl (by kernel_rfl) (by kernel_rfl) (by kernel_rfl) (fun _ _ _ h => h) (by rfl) (by assumption) ?_ ?_
      rotate_left
      · (intro w hSw; (try dsimp only at hSw); go_simp; (try with_reducible rfl))
      exact wpAnyH_fuel _ (by kernel_rfl) hh
    · exact of_decide_eq_true (by kernel_rfl)
    · exact ⟨⟨hSW', hB, hZ⟩, (Or.inr (Or.inr (Or.inr (Or.inr (Or.inr (Or.inl ⟨by kernel_rfl, by kernel_rfl⟩))))))⟩
  · left
    refine ⟨[2], by kernel_rfl, by simp, ?_⟩
    simp only [Act.put, List.getElem_toArray, List.getElem_cons_succ, List.getElem_cons_zero, List.setIfInBounds_toArray, List.set_cons_zero, List.set_cons_succ]
    refine all_cons ?_ (all_nil)
    · refine wpOp_step rfl (fun Kq hKq => ?_)
      go_simp
      refine (KO.out _).mono ?_
      rintro e W1 ⟨rfl, hw1⟩
      have hz1 := hw1.size
      refine hKq _ _ ?_
      exact ⟨⟨block_below0 hw1 cS0, below_step hw1 hB (by have := hB.size; omega), by omega⟩, (Or.inr (Or.inr (Or.inr (Or.inr (Or.inr (Or.inr (Or.inl ⟨n13, by rfl, by rfl, ⟨⟨zn13, by omega⟩, block_below0 hw1 dn13⟩⟩)))))))⟩
  · left
    refine ⟨[7], by kernel_rfl, by simp, ?_⟩
    simp only [Act.put, List.getElem_toArray, List.getElem_cons_succ, List.getElem_cons_zero, List.setIfInBounds_toArray, List.set_cons_zero, List.set_cons_succ]
    refine all_cons ?_ (all_nil)
    · refine wpOp_step rfl (fun Kq hKq => ?_)
      rw [if_pos (by rfl)]
      refine wp_alloc_row 26 (z) rfl (HZ.out _) ?_
      have hw1 : Below W.heap.size W (W.alloc (.cells (z) 26)) := by (repeat' (first | (with_reducible exact Below.refl _ _) | (with_reducible assumption) | (with_reducible refine Below.alloc ?_ ?_ _) | (with_reducible refine Below.drew ?_) | (with_reducible refine below_drewN ?_ _) | (with_reducible refine Below.setCell ?_ ?_ _) | (with_reducible refine below_step (by with_reducible assumption) ?_ ?_) | (with_reducible exact Below.size (by with_reducible assumption)) | go_size))
      have hz1 : (W.alloc (.cells (z) 26)).heap.size = W.heap.size + 1 := by simp
      refine hKq _ _ ?_
      exact ⟨⟨block_below0 hw1 cS0, below_step hw1 hB (by have := hB.size; omega), by omega⟩, (Or.inr (Or.inr (Or.inr (Or.inr (Or.inr (Or.inr (Or.inr ⟨W.heap.size, by rfl, by rfl, ⟨⟨by omega, by omega⟩, heap_alloc_last W _⟩⟩)))))))⟩
  · right; left
    apply jump_intro
    · intro hh; refine wpAnyH_fuel 7 (by rfl) ?_
      refine wpAnyH_pure (i := 3) (v := ?_) rfl (by kernel_rfl) (by kernel_rfl) (by kernel_rfl) (fun _ _ _ h => h) (by rfl) (by assumption) ?_ ?_
      rotate_left
      · (intro w hSw; (try dsimp only at hSw); go_simp; (try with_reducible rfl))
      refine wpAnyH_pure (i := 4) (v := ?_) rfl (by kernel_rfl) (by kernel_rfl) (by kernel_rfl) (fun _ _ _ h => h) (by rfl) (by assumption) ?_ ?_
      rotate_left
      · (intro w hSw; (try dsimp only at hSw); go_simp; (try with_reducible rfl))
      refine wpAnyH_pure (i := 5) (v := ?_) rfl (by kernel_rfl) (by kernel_rfl) (by kernel_rfl) (fun _ _ _ h => h) (by rfl) (by assumption) ?_ ?_
      rotate_left
      · (intro w hSw; (try dsimp only at hSw); go_simp; (try with_reducible rfl))
      refine wpAnyH_pure (i := 6) (v := ?_) rfl (by kernel_rfl) (by kernel_rfl) (by kernel_rfl) (fun _ _ _ h => h) (by rfl) (by assumption) ?_ ?_
      rotate_left
      · (intro w hSw; (try dsimp only at hSw); go_simp; (try with_reducible rfl))
      exact wpAnyH_fuel _ (by kernel_rfl) hh
    · exact of_decide_eq_true (by kernel_rfl)
    · exact ⟨⟨hSW', hB, hZ⟩, (Or.inr (Or.inr (Or.inr (Or.inr (Or.inr (Or.inr (Or.inr ⟨n13, by kernel_rfl, by kernel_rfl, ⟨⟨zn13, yn13⟩, dn13⟩⟩)))))))⟩
  right; right
  refine wpAnyH_fuel 3 (by rfl) ?_
  simp only [Act.put, List.getElem_toArray, List.getElem_cons_succ, List.getElem_cons_zero, List.setIfInBounds_toArray, List.set_cons_zero, List.set_cons_succ]
  have : ¬ n13 = w2.heap.size := by omega
  have : ¬ w2.heap.size = n13 := by omega
  clear hH1
  refine wpAnyH_ready (rs := [8]) (by kernel_rfl) (by simp) ?_
  refine AllReadyH.cons rfl (fun Kq hKq => ?_) AllReadyH.nil
  rw [if_pos (by rfl)]
  refine wp_store_row 26 26 _ _ n13 (z) (c) rfl rfl rfl (by rw [hsc.out]; exact infoTrace) (by rw [hs0.out, hsc.out]) hoc.out (dn13) ?_
  refine hKq.out _ _ ?_ (fun hH2 => ?_)
  · exact (block_setRow_other (by assumption)).trans cS0
  clear hKq Kq
  have hH2k := hH2
  have cS0hH2 := hH2k
  refine wpAnyH_pure (i := 9) (v := ?_) rfl (by kernel_rfl) (by kernel_rfl) (by kernel_rfl) (fun _ _ _ h => h) (by rfl) (by assumption) ?_ ?_
  rotate_left
  · (intro w hSw; (try dsimp only at hSw); go_simp; (try with_reducible rfl))
  simp only [Act.put, List.getElem_toArray, List.getElem_cons_succ, List.getElem_cons_zero, List.setIfInBounds_toArray, List.set_cons_zero, List.set_cons_succ]
  refine wpAnyH_pure (i := 10) (v := ?_) rfl (by kernel_rfl) (by kernel_rfl) (by kernel_rfl) (fun _ _ _ h => h) (by rfl) (by assumption) ?_ ?_
  rotate_left
  · (intro w hSw; (try dsimp only at hSw); go_simp; (try with_reducible rfl))
  simp only [Act.put, List.getElem_toArray, List.getElem_cons_succ, List.getElem_cons_zero, List.setIfInBounds_toArray, List.set_cons_zero, List.set_cons_succ]
  refine wpAnyH_fin (T := fun W => (W.heap[w2.heap.size]? = some (.cells (c) 26 (0, 0))) ∧ (W.heap[n13]? = some (.cells (c) 26 (0, 0))) ∧ (n13 < W.heap.size ∧ (w8.heap.size) ≤ W.heap.size) ∧ Below w.heap.size w W) (by kernel_rfl) ⟨hH2, ?_, ?_, ?_⟩ (fun W1 hT => ?_)
  · exact block_setRow (dn13)
  · exact ⟨(Array.getElem?_eq_some_iff.1 (block_setRow (dn13))).1, Nat.le_of_lt (Nat.lt_of_le_of_lt zn13 ((Array.getElem?_eq_some_iff.1 (block_setRow (dn13))).1))⟩
  · exact (below_setRow hB (c) (by omega))
  obtain ⟨gS0, gF0, ⟨gZ0, gZ1⟩, hB1⟩ := hT
  go_wp2_with (first | (refine wpl_load rfl 26 26 _ w2.heap.size c (0, 0) _ rfl rfl Try.underlying26 rfl (by rw [hsc.out]; exact infoTrace) (gS0) ?_))
  go_wp2_with fail; (refine (KX.out _).mono ?_; rintro e w12 ⟨rfl, hw12⟩; obtain ⟨hcw12, hfw12, hlw12, hmw12, hnw12⟩ := bcell3 hw12; have hzw12 := hw12.size; (try simp only [World.size_alloc, World.size_setCell, World.size_drew, size_drewN] at hzw12))
  have ca12_0 : w12.heap[w2.heap.size]? = some (.cells (c) 26 (0, 0)) := block_below0 hw12 (by first | assumption | (repeat (first | assumption | (refine heap_alloc_at ?_; (first | rfl | (simp only [World.size_alloc, World.size_drew, World.size_setCell, size_drewN]; done))) | refine block_alloc ?_)))
  have cn1312_0 : w12.heap[n13]? = some (.cells (c) 26 (0, 0)) := block_below0 hw12 (by first | assumption | (repeat (first | assumption | (refine heap_alloc_at ?_; (first | rfl | (simp only [World.size_alloc, World.size_drew, World.size_setCell, size_drewN]; done))) | refine block_alloc ?_)))
  clear hcw12 hfw12 hlw12 hmw12 hnw12
  go_wp2_with (first | (refine wpl_loadg rfl 26 26 _ n13 c (0, 0) _ rfl rfl Try.underlying26 rfl (by rw [hsc.out]; exact infoTrace) (cn1312_0) ?_) | (refine wpl_loadg rfl 26 26 _ w2.heap.size c (0, 0) _ rfl rfl Try.underlying26 rfl (by rw [hsc.out]; exact infoTrace) (ca12_0) ?_))
  go_wp2_with fail; (refine (KQo.out _).mono ?_; rintro e w13 ⟨rfl, hw13⟩; obtain ⟨hcw13, hfw13, hlw13, hmw13, hnw13⟩ := bcell3 hw13; have hzw13 := hw13.size; (try simp only [World.size_alloc, World.size_setCell, World.size_drew, size_drewN] at hzw13))
  have ca13_0 : w13.heap[w2.heap.size]? = some (.cells (c) 26 (0, 0)) := block_below0 hw13 (by first | assumption | (repeat (first | assumption | (refine heap_alloc_at ?_; (first | rfl | (simp only [World.size_alloc, World.size_drew, World.size_setCell, size_drewN]; done))) | refine block_alloc ?_)))
  clear ca12_0
  have cn1313_0 : w13.heap[n13]? = some (.cells (c) 26 (0, 0)) := block_below0 hw13 (by first | assumption | (repeat (first | assumption | (refine heap_alloc_at ?_; (first | rfl | (simp only [World.size_alloc, World.size_drew, World.size_setCell, size_drewN]; done))) | refine block_alloc ?_)))
  clear cn1312_0
  clear hcw13 hfw13 hlw13 hmw13 hnw13
  go_wp2
  go_ret
  exact ⟨rfl, by (repeat' (first | (with_reducible exact Below.refl _ _) | (with_reducible assumption) | (with_reducible refine Below.alloc ?_ ?_ _) | (with_reducible refine Below.drew ?_) | (with_reducible refine below_drewN ?_ _) | (with_reducible refine Below.setCell ?_ ?_ _) | (with_reducible refine below_step (by with_reducible assumption) ?_ ?_) | (with_reducible exact Below.size (by with_reducible assumption)) | go_size))⟩
end Go.Proofs.Ythgnemkfaiejbaa
