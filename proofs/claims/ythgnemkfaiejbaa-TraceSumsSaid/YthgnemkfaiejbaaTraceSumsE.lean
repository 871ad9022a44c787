/-
  TraceSums: the walks.
-/
import Derived.Test.YthgnemkfaiejbaaTSumA
import Derived.Test.YthgnemkfaiejbaaTraceLagsO
set_option linter.unusedVariables false
set_option linter.unusedSimpArgs false
namespace Go.Proofs.Ythgnemkfaiejbaa
open Go.RowKit

set_option maxRecDepth 100000 in
set_option maxHeartbeats 2000000 in
theorem traceSums_out (v0 v1 : Value) (x y : Nat → Int) (n m : Nat) (mo : Int) (w : World) (hr0 : Hid (IRow w v0 x n)) (hr1 : Hid (IRow w v1 y m)) (h : ¬ (n ≤ 64 ∧ m ≤ 64)) :
    Calls Try.prog 9 #[v0, v1, .int .i64 mo] w fun e w' => e = .returned (.bool true) ∧ Below w.heap.size w w' := by
  have KA := Lib.hid awake3_any
  obtain ⟨q0, c0, rfl, hc0, -⟩ := hr0.out
  obtain ⟨q1, c1, rfl, hc1, -⟩ := hr1.out
  clear hr0 hr1 hc0 hc1
  by_cases hn : n ≤ 64
  · have d0 : decide (64 < (n : Int)) = false := decide_eq_false (by omega)
    have d1 : decide (64 < (m : Int)) = true := decide_eq_true (by omega)
    clear h hn
    go_enter Try.func9, Try.ntmps9
    go_wp2_with fail; (refine (KA.out _).mono ?_; rintro e w1 ⟨rfl, hw1⟩; obtain ⟨hcw1, hfw1, hlw1, hmw1, hnw1⟩ := bcell3 hw1; have hzw1 := hw1.size; (try simp only [World.size_alloc, World.size_setCell, World.size_drew, size_drewN] at hzw1))
    clear hcw1 hfw1 hlw1 hmw1 hnw1
    go_wp2
    go_ret
    exact ⟨rfl, by (repeat' (first | (with_reducible exact Below.refl _ _) | (with_reducible assumption) | (with_reducible refine Below.alloc ?_ ?_ _) | (with_reducible refine Below.drew ?_) | (with_reducible refine below_drewN ?_ _) | (with_reducible refine Below.setCell ?_ ?_ _) | (with_reducible refine below_step (by with_reducible assumption) ?_ ?_) | (with_reducible exact Below.size (by with_reducible assumption)) | go_size))⟩
  · have d0 : decide (64 < (n : Int)) = true := decide_eq_true (by omega)
    clear h hn
    go_enter Try.func9, Try.ntmps9
    go_wp2_with fail; (refine (KA.out _).mono ?_; rintro e w1 ⟨rfl, hw1⟩; obtain ⟨hcw1, hfw1, hlw1, hmw1, hnw1⟩ := bcell3 hw1; have hzw1 := hw1.size; (try simp only [World.size_alloc, World.size_setCell, World.size_drew, size_drewN] at hzw1))
    clear hcw1 hfw1 hlw1 hmw1 hnw1
    go_wp2
    go_ret
    exact ⟨rfl, by (repeat' (first | (with_reducible exact Below.refl _ _) | (with_reducible assumption) | (with_reducible refine Below.alloc ?_ ?_ _) | (with_reducible refine Below.drew ?_) | (with_reducible refine below_drewN ?_ _) | (with_reducible refine Below.setCell ?_ ?_ _) | (with_reducible refine below_step (by with_reducible assumption) ?_ ?_) | (with_reducible exact Below.size (by with_reducible assumption)) | go_size))⟩
set_option maxRecDepth 100000 in
set_option maxHeartbeats 4000000 in
theorem traceSums_1 (v0 v1 : Value) (x y : Nat → Int) (n m : Nat) (mo : Int) (E F : Int) (w : World) (hr0 : Hid (IRow w v0 x n)) (hr1 : Hid (IRow w v1 y m)) (hn : n ≤ 64) (hm : m ≤ 64)
    (hex : (E == 0) = false)
    (KD : Hid (∀ W, Calls Try.prog 52 #[.agg (tC (mkT x n)), .agg (tC (mkT y m))] W fun e w' => e = .returned (.tuple #[.agg (tC (fun _ => 0)), .int .i64 E]) ∧ Below W.heap.size W w'))
    (KS : Hid (∀ W, Calls Try.prog 53 #[.agg (tC (mkT x n)), .int .i64 mo] W fun e w' => e = .returned (.tuple #[.agg (tC (fun _ => 0)), .int .i64 E]) ∧ Below W.heap.size W w'))
    (KX : Hid (∀ W, Calls Try.prog 23 #[.agg (tC (mkT x n))] W fun e w' => e = .returned (.tuple #[.int .i64 (tN (mkT x n) 64), .int .i64 E]) ∧ Below W.heap.size W w'))
    (KY : Hid (∀ W, Calls Try.prog 23 #[.agg (tC (mkT y m))] W fun e w' => e = .returned (.tuple #[.int .i64 (tN (mkT y m) 64), .int .i64 F]) ∧ Below W.heap.size W w'))
    : Calls Try.prog 9 #[v0, v1, .int .i64 mo] w fun e w' => e = .returned (.bool true) ∧ Below w.heap.size w w' := by
  have KA := Lib.hid awake3_any
  have KM0 := Lib.hid (fun W (hB : Below w.heap.size w W) => made_any v0 x n W (by omega) (Lib.hid (hr0.out.below hB)))
  have KM1 := Lib.hid (fun W (hB : Below w.heap.size w W) => made_any v1 y m W (by omega) (Lib.hid (hr1.out.below hB)))
  have KQs := Lib.hid (fun W => sameTrace_eq (fun _ => 0) W)
  have KQt := Lib.hid (fun W => sameTrace_eq (fun _ => 0) W)
  obtain ⟨q0, c0, rfl, hc0, -⟩ := hr0.out
  obtain ⟨q1, c1, rfl, hc1, -⟩ := hr1.out
  have d0 : decide (64 < (n : Int)) = false := decide_eq_false (by omega)
  have d1 : decide (64 < (m : Int)) = false := decide_eq_false (by omega)
  have HZ := Lib.hid zero_trace
  have hs0 := Lib.hid (tC_size fun _ => 0)
  have hoz := Lib.hid (tC_one fun _ => 0)
  have hsc := Lib.hid (tC_size (mkT x n))
  have hsd := Lib.hid (tC_size (mkT y m))
  have hoc := Lib.hid (tC_one (mkT x n))
  have hod := Lib.hid (tC_one (mkT y m))
  clear hr0 hr1 hc0 hc1
  generalize tN (mkT x n) 64 = nx at *
  generalize tN (mkT y m) 64 = ny at *
  generalize tC (mkT x n) = c at *
  generalize tC (mkT y m) = d at *
  generalize (tC fun _ => 0) = z at *
  go_enter Try.func9, Try.ntmps9
  go_wp2_with fail; (refine (KA.out _).mono ?_; rintro e w1 ⟨rfl, hw1⟩; obtain ⟨hcw1, hfw1, hlw1, hmw1, hnw1⟩ := bcell3 hw1; have hzw1 := hw1.size; (try simp only [World.size_alloc, World.size_setCell, World.size_drew, size_drewN] at hzw1))
  clear hcw1 hfw1 hlw1 hmw1 hnw1
  have hB1 : Below w.heap.size w w1 := by (repeat' (first | (with_reducible exact Below.refl _ _) | (with_reducible assumption) | (with_reducible refine Below.alloc ?_ ?_ _) | (with_reducible refine Below.drew ?_) | (with_reducible refine below_drewN ?_ _) | (with_reducible refine Below.setCell ?_ ?_ _) | (with_reducible refine below_step (by with_reducible assumption) ?_ ?_) | (with_reducible exact Below.size (by with_reducible assumption)) | go_size))
  go_wp2_with fail; (refine (KM0.out _ hB1).mono ?_; rintro e w2 ⟨rfl, hw2⟩; obtain ⟨hcw2, hfw2, hlw2, hmw2, hnw2⟩ := bcell3 hw2; have hzw2 := hw2.size; (try simp only [World.size_alloc, World.size_setCell, World.size_drew, size_drewN] at hzw2))
  clear hcw2 hfw2 hlw2 hmw2 hnw2
  have hB2 : Below w.heap.size w w2 := by (repeat' (first | (with_reducible exact Below.refl _ _) | (with_reducible assumption) | (with_reducible refine Below.alloc ?_ ?_ _) | (with_reducible refine Below.drew ?_) | (with_reducible refine below_drewN ?_ _) | (with_reducible refine Below.setCell ?_ ?_ _) | (with_reducible refine below_step (by with_reducible assumption) ?_ ?_) | (with_reducible exact Below.size (by with_reducible assumption)) | go_size))
  go_wp2_with fail; (refine (KM1.out _ hB2).mono ?_; rintro e w3 ⟨rfl, hw3⟩; obtain ⟨hcw3, hfw3, hlw3, hmw3, hnw3⟩ := bcell3 hw3; have hzw3 := hw3.size; (try simp only [World.size_alloc, World.size_setCell, World.size_drew, size_drewN] at hzw3))
  clear hcw3 hfw3 hlw3 hmw3 hnw3
  have hB3 : Below w.heap.size w w3 := by (repeat' (first | (with_reducible exact Below.refl _ _) | (with_reducible assumption) | (with_reducible refine Below.alloc ?_ ?_ _) | (with_reducible refine Below.drew ?_) | (with_reducible refine below_drewN ?_ _) | (with_reducible refine Below.setCell ?_ ?_ _) | (with_reducible refine below_step (by with_reducible assumption) ?_ ?_) | (with_reducible exact Below.size (by with_reducible assumption)) | go_size))
  go_upto_region 6 with (first | (refine wpl_alloc rfl 26 z rfl (HZ.out _) ?_) | (refine wpl_store rfl 26 26 _ _ w3.heap.size z c rfl rfl rfl (by rw [hsc.out]; exact infoTrace) (by rw [hs0.out, hsc.out]) hoc.out (block_alloc (heap_alloc_last w3 _)) ?_) | (refine wpl_store rfl 26 26 _ _ (w3.alloc (.cells z 26)).heap.size z d rfl rfl rfl (by rw [hsd.out]; exact infoTrace) (by rw [hs0.out, hsd.out]) hod.out ((block_setRow_other (show ¬ w3.heap.size = (w3.alloc (.cells z 26)).heap.size by simp)).trans (heap_alloc_last _ _)) ?_))
  have hlt2 : w3.heap.size < (w3.alloc (.cells z 26)).heap.size := by simp
  generalize hb2 : (w3.alloc (.cells z 26)).heap.size = b2 at *
  refine abs_last (fun w4 hw4 => ?_)
  have hw40 : Below w.heap.size w w4 := by rw [hw4]; exact below_setRow (below_setRow (by have := hB3.size; (repeat' (first | (with_reducible exact Below.refl _ _) | (with_reducible assumption) | (with_reducible refine Below.alloc ?_ ?_ _) | (with_reducible refine Below.drew ?_) | (with_reducible refine below_drewN ?_ _) | (with_reducible refine Below.setCell ?_ ?_ _) | (with_reducible refine below_step (by with_reducible assumption) ?_ ?_) | (with_reducible exact Below.size (by with_reducible assumption)) | go_size))) c hB3.size) d (by have := hB3.size; omega)
  have ca4_0 : w4.heap[w3.heap.size]? = some (.cells c 26 (0, 0)) := by rw [hw4, block_setRow_other (by omega)]; exact block_setRow (block_alloc (heap_alloc_last w3 _))
  have cb4_0 : w4.heap[b2]? = some (.cells d 26 (0, 0)) := by rw [hw4]; exact block_setRow ((block_setRow_other (by omega)).trans (hb2 ▸ heap_alloc_last _ _))
  have hb2l : b2 < w4.heap.size := (Array.getElem?_eq_some_iff.1 cb4_0).1
  clear hw4 hb2
  have hz40 := hw40.size
  go_wp2_with (first | (refine wpl_load rfl 26 26 _ w3.heap.size c (0, 0) _ rfl rfl Try.underlying26 rfl (by rw [hsc.out]; exact infoTrace) (ca4_0) ?_) | (refine wpl_load rfl 26 26 _ b2 d (0, 0) _ rfl rfl Try.underlying26 rfl (by rw [hsd.out]; exact infoTrace) (cb4_0) ?_))
  go_wp2_with fail; (refine (KD.out _).mono ?_; rintro e w5 ⟨rfl, hw5⟩; obtain ⟨hcw5, hfw5, hlw5, hmw5, hnw5⟩ := bcell3 hw5; have hzw5 := hw5.size; (try simp only [World.size_alloc, World.size_setCell, World.size_drew, size_drewN] at hzw5))
  have ca5_0 : w5.heap[w3.heap.size]? = some (.cells (c) 26 (0, 0)) := block_below0 hw5 (by first | assumption | (repeat (first | assumption | (refine heap_alloc_at ?_; (first | rfl | (simp only [World.size_alloc, World.size_drew, World.size_setCell, size_drewN]; done))) | refine block_alloc ?_)))
  clear ca4_0
  have cb5_0 : w5.heap[b2]? = some (.cells (d) 26 (0, 0)) := block_below0 hw5 (by first | assumption | (repeat (first | assumption | (refine heap_alloc_at ?_; (first | rfl | (simp only [World.size_alloc, World.size_drew, World.size_setCell, size_drewN]; done))) | refine block_alloc ?_)))
  clear cb4_0
  clear hcw5 hfw5 hlw5 hmw5 hnw5
  have hb2l5 : b2 < w5.heap.size := (Array.getElem?_eq_some_iff.1 cb5_0).1
  go_wp2_with (first | (refine wpl_alloc rfl 26 z rfl (HZ.out _) ?_) | (refine wpl_store_new rfl 26 _ _ z z rfl rfl rfl (by rw [hs0.out]; exact infoTrace) rfl hoz.out ?_) | (refine wpl_load rfl 26 26 _ w3.heap.size c (0, 0) _ rfl rfl Try.underlying26 rfl (by rw [hsc.out]; exact infoTrace) (block_alloc ca5_0) ?_))
  go_wp2_with fail; (refine (KS.out _).mono ?_; rintro e w6 ⟨rfl, hw6⟩; obtain ⟨hcw6, hfw6, hlw6, hmw6, hnw6⟩ := bcell3 hw6; have hzw6 := hw6.size; (try simp only [World.size_alloc, World.size_setCell, World.size_drew, size_drewN] at hzw6))
  have ca6_0 : w6.heap[w3.heap.size]? = some (.cells (c) 26 (0, 0)) := block_below0 hw6 (by first | assumption | (repeat (first | assumption | (refine heap_alloc_at ?_; (first | rfl | (simp only [World.size_alloc, World.size_drew, World.size_setCell, size_drewN]; done))) | refine block_alloc ?_)))
  clear ca5_0
  have cb6_0 : w6.heap[b2]? = some (.cells (d) 26 (0, 0)) := block_below0 hw6 (by first | assumption | (repeat (first | assumption | (refine heap_alloc_at ?_; (first | rfl | (simp only [World.size_alloc, World.size_drew, World.size_setCell, size_drewN]; done))) | refine block_alloc ?_)))
  clear cb5_0
  have cu6_0 : w6.heap[w5.heap.size]? = some (.cells (z) 26 (0, 0)) := block_below0 hw6 (by first | assumption | (repeat (first | assumption | (refine heap_alloc_at ?_; (first | rfl | (simp only [World.size_alloc, World.size_drew, World.size_setCell, size_drewN]; done))) | refine block_alloc ?_)))
  clear hcw6 hfw6 hlw6 hmw6 hnw6
  have hul6 : w5.heap.size < w6.heap.size := (Array.getElem?_eq_some_iff.1 cu6_0).1
  go_wp2_with (first | (refine wpl_alloc rfl 26 z rfl (HZ.out _) ?_) | (refine wpl_store_new rfl 26 _ _ z z rfl rfl rfl (by rw [hs0.out]; exact infoTrace) rfl hoz.out ?_) | (refine wpl_load rfl 26 26 _ w3.heap.size c (0, 0) _ rfl rfl Try.underlying26 rfl (by rw [hsc.out]; exact infoTrace) (block_alloc ca6_0) ?_))
  go_wp2_with fail; (refine (KX.out _).mono ?_; rintro e w7 ⟨rfl, hw7⟩; obtain ⟨hcw7, hfw7, hlw7, hmw7, hnw7⟩ := bcell3 hw7; have hzw7 := hw7.size; (try simp only [World.size_alloc, World.size_setCell, World.size_drew, size_drewN] at hzw7))
  have ca7_0 : w7.heap[w3.heap.size]? = some (.cells (c) 26 (0, 0)) := block_below0 hw7 (by first | assumption | (repeat (first | assumption | (refine heap_alloc_at ?_; (first | rfl | (simp only [World.size_alloc, World.size_drew, World.size_setCell, size_drewN]; done))) | refine block_alloc ?_)))
  clear ca6_0
  have cb7_0 : w7.heap[b2]? = some (.cells (d) 26 (0, 0)) := block_below0 hw7 (by first | assumption | (repeat (first | assumption | (refine heap_alloc_at ?_; (first | rfl | (simp only [World.size_alloc, World.size_drew, World.size_setCell, size_drewN]; done))) | refine block_alloc ?_)))
  clear cb6_0
  have cu7_0 : w7.heap[w5.heap.size]? = some (.cells (z) 26 (0, 0)) := block_below0 hw7 (by first | assumption | (repeat (first | assumption | (refine heap_alloc_at ?_; (first | rfl | (simp only [World.size_alloc, World.size_drew, World.size_setCell, size_drewN]; done))) | refine block_alloc ?_)))
  clear cu6_0
  have cv7_0 : w7.heap[w6.heap.size]? = some (.cells (z) 26 (0, 0)) := block_below0 hw7 (by first | assumption | (repeat (first | assumption | (refine heap_alloc_at ?_; (first | rfl | (simp only [World.size_alloc, World.size_drew, World.size_setCell, size_drewN]; done))) | refine block_alloc ?_)))
  clear hcw7 hfw7 hlw7 hmw7 hnw7
  have hvl7 : w6.heap.size < w7.heap.size := (Array.getElem?_eq_some_iff.1 cv7_0).1
  go_wp2_with (first | (refine wpl_load rfl 26 26 _ b2 d (0, 0) _ rfl rfl Try.underlying26 rfl (by rw [hsd.out]; exact infoTrace) (cb7_0) ?_))
  go_wp2_with fail; (refine (KY.out _).mono ?_; rintro e w8 ⟨rfl, hw8⟩; obtain ⟨hcw8, hfw8, hlw8, hmw8, hnw8⟩ := bcell3 hw8; have hzw8 := hw8.size; (try simp only [World.size_alloc, World.size_setCell, World.size_drew, size_drewN] at hzw8))
  have ca8_0 : w8.heap[w3.heap.size]? = some (.cells (c) 26 (0, 0)) := block_below0 hw8 (by first | assumption | (repeat (first | assumption | (refine heap_alloc_at ?_; (first | rfl | (simp only [World.size_alloc, World.size_drew, World.size_setCell, size_drewN]; done))) | refine block_alloc ?_)))
  clear ca7_0
  have cb8_0 : w8.heap[b2]? = some (.cells (d) 26 (0, 0)) := block_below0 hw8 (by first | assumption | (repeat (first | assumption | (refine heap_alloc_at ?_; (first | rfl | (simp only [World.size_alloc, World.size_drew, World.size_setCell, size_drewN]; done))) | refine block_alloc ?_)))
  clear cb7_0
  have cu8_0 : w8.heap[w5.heap.size]? = some (.cells (z) 26 (0, 0)) := block_below0 hw8 (by first | assumption | (repeat (first | assumption | (refine heap_alloc_at ?_; (first | rfl | (simp only [World.size_alloc, World.size_drew, World.size_setCell, size_drewN]; done))) | refine block_alloc ?_)))
  clear cu7_0
  have cv8_0 : w8.heap[w6.heap.size]? = some (.cells (z) 26 (0, 0)) := block_below0 hw8 (by first | assumption | (repeat (first | assumption | (refine heap_alloc_at ?_; (first | rfl | (simp only [World.size_alloc, World.size_drew, World.size_setCell, size_drewN]; done))) | refine block_alloc ?_)))
  clear cv7_0
  clear hcw8 hfw8 hlw8 hmw8 hnw8
  have hvl8 : w6.heap.size < w8.heap.size := (Array.getElem?_eq_some_iff.1 cv8_0).1
  go_upto_region 14 with (first | (refine wpl_alloc rfl 26 z rfl (HZ.out _) ?_))
  have hltq : w8.heap.size < (w8.alloc (.cells z 26)).heap.size := by simp
  generalize hbq : (w8.alloc (.cells z 26)).heap.size = bq at *
  refine abs_last (fun w9 hw9 => ?_)
  have hw90 : Below w.heap.size w w9 := by rw [hw9]; (repeat' (first | (with_reducible exact Below.refl _ _) | (with_reducible assumption) | (with_reducible refine Below.alloc ?_ ?_ _) | (with_reducible refine Below.drew ?_) | (with_reducible refine below_drewN ?_ _) | (with_reducible refine Below.setCell ?_ ?_ _) | (with_reducible refine below_step (by with_reducible assumption) ?_ ?_) | (with_reducible exact Below.size (by with_reducible assumption)) | go_size))
  have ca9_0 : w9.heap[w3.heap.size]? = some (.cells c 26 (0, 0)) := by rw [hw9]; exact block_alloc (block_alloc ca8_0)
  have cb9_0 : w9.heap[b2]? = some (.cells d 26 (0, 0)) := by rw [hw9]; exact block_alloc (block_alloc cb8_0)
  have cu9_0 : w9.heap[w5.heap.size]? = some (.cells z 26 (0, 0)) := by rw [hw9]; exact block_alloc (block_alloc cu8_0)
  have cv9_0 : w9.heap[w6.heap.size]? = some (.cells z 26 (0, 0)) := by rw [hw9]; exact block_alloc (block_alloc cv8_0)
  have cp9_0 : w9.heap[w8.heap.size]? = some (.cells z 26 (0, 0)) := by rw [hw9]; exact block_alloc (heap_alloc_last w8 _)
  have cq9_0 : w9.heap[bq]? = some (.cells z 26 (0, 0)) := by rw [hw9]; exact hbq ▸ heap_alloc_last _ _
  clear hw9 hbq ca8_0 cb8_0 cu8_0 cv8_0
  have hz90 := hw90.size
  go_wp2_with (first | (refine wpl_loadg rfl 26 26 _ w5.heap.size z (0, 0) _ rfl rfl Try.underlying26 rfl (by rw [hs0.out]; exact infoTrace) (cu9_0) ?_) | (refine wpl_loadg rfl 26 26 _ w8.heap.size z (0, 0) _ rfl rfl Try.underlying26 rfl (by rw [hs0.out]; exact infoTrace) (cp9_0) ?_))
  go_wp2_with fail; (refine (KQs.out _).mono ?_; rintro e w10 ⟨rfl, hw10⟩; obtain ⟨hcw10, hfw10, hlw10, hmw10, hnw10⟩ := bcell3 hw10; have hzw10 := hw10.size; (try simp only [World.size_alloc, World.size_setCell, World.size_drew, size_drewN] at hzw10))
  have ca10_0 : w10.heap[w3.heap.size]? = some (.cells (c) 26 (0, 0)) := block_below0 hw10 (by first | assumption | (repeat (first | assumption | (refine heap_alloc_at ?_; (first | rfl | (simp only [World.size_alloc, World.size_drew, World.size_setCell, size_drewN]; done))) | refine block_alloc ?_)))
  clear ca9_0
  have cb10_0 : w10.heap[b2]? = some (.cells (d) 26 (0, 0)) := block_below0 hw10 (by first | assumption | (repeat (first | assumption | (refine heap_alloc_at ?_; (first | rfl | (simp only [World.size_alloc, World.size_drew, World.size_setCell, size_drewN]; done))) | refine block_alloc ?_)))
  clear cb9_0
  have cu10_0 : w10.heap[w5.heap.size]? = some (.cells (z) 26 (0, 0)) := block_below0 hw10 (by first | assumption | (repeat (first | assumption | (refine heap_alloc_at ?_; (first | rfl | (simp only [World.size_alloc, World.size_drew, World.size_setCell, size_drewN]; done))) | refine block_alloc ?_)))
  clear cu9_0
  have cv10_0 : w10.heap[w6.heap.size]? = some (.cells (z) 26 (0, 0)) := block_below0 hw10 (by first | assumption | (repeat (first | assumption | (refine heap_alloc_at ?_; (first | rfl | (simp only [World.size_alloc, World.size_drew, World.size_setCell, size_drewN]; done))) | refine block_alloc ?_)))
  clear cv9_0
  have cp10_0 : w10.heap[w8.heap.size]? = some (.cells (z) 26 (0, 0)) := block_below0 hw10 (by first | assumption | (repeat (first | assumption | (refine heap_alloc_at ?_; (first | rfl | (simp only [World.size_alloc, World.size_drew, World.size_setCell, size_drewN]; done))) | refine block_alloc ?_)))
  clear cp9_0
  have cq10_0 : w10.heap[bq]? = some (.cells (z) 26 (0, 0)) := block_below0 hw10 (by first | assumption | (repeat (first | assumption | (refine heap_alloc_at ?_; (first | rfl | (simp only [World.size_alloc, World.size_drew, World.size_setCell, size_drewN]; done))) | refine block_alloc ?_)))
  clear cq9_0
  clear hcw10 hfw10 hlw10 hmw10 hnw10
  go_wp2_with (first | (refine wpl_loadg rfl 26 26 _ w6.heap.size z (0, 0) _ rfl rfl Try.underlying26 rfl (by rw [hs0.out]; exact infoTrace) (cv10_0) ?_) | (refine wpl_loadg rfl 26 26 _ bq z (0, 0) _ rfl rfl Try.underlying26 rfl (by rw [hs0.out]; exact infoTrace) (cq10_0) ?_))
  go_wp2_with fail; (refine (KQt.out _).mono ?_; rintro e w11 ⟨rfl, hw11⟩; obtain ⟨hcw11, hfw11, hlw11, hmw11, hnw11⟩ := bcell3 hw11; have hzw11 := hw11.size; (try simp only [World.size_alloc, World.size_setCell, World.size_drew, size_drewN] at hzw11))
  have ca11_0 : w11.heap[w3.heap.size]? = some (.cells (c) 26 (0, 0)) := block_below0 hw11 (by first | assumption | (repeat (first | assumption | (refine heap_alloc_at ?_; (first | rfl | (simp only [World.size_alloc, World.size_drew, World.size_setCell, size_drewN]; done))) | refine block_alloc ?_)))
  clear ca10_0
  have cb11_0 : w11.heap[b2]? = some (.cells (d) 26 (0, 0)) := block_below0 hw11 (by first | assumption | (repeat (first | assumption | (refine heap_alloc_at ?_; (first | rfl | (simp only [World.size_alloc, World.size_drew, World.size_setCell, size_drewN]; done))) | refine block_alloc ?_)))
  clear cb10_0
  have cu11_0 : w11.heap[w5.heap.size]? = some (.cells (z) 26 (0, 0)) := block_below0 hw11 (by first | assumption | (repeat (first | assumption | (refine heap_alloc_at ?_; (first | rfl | (simp only [World.size_alloc, World.size_drew, World.size_setCell, size_drewN]; done))) | refine block_alloc ?_)))
  clear cu10_0
  have cv11_0 : w11.heap[w6.heap.size]? = some (.cells (z) 26 (0, 0)) := block_below0 hw11 (by first | assumption | (repeat (first | assumption | (refine heap_alloc_at ?_; (first | rfl | (simp only [World.size_alloc, World.size_drew, World.size_setCell, size_drewN]; done))) | refine block_alloc ?_)))
  clear cv10_0
  have cp11_0 : w11.heap[w8.heap.size]? = some (.cells (z) 26 (0, 0)) := block_below0 hw11 (by first | assumption | (repeat (first | assumption | (refine heap_alloc_at ?_; (first | rfl | (simp only [World.size_alloc, World.size_drew, World.size_setCell, size_drewN]; done))) | refine block_alloc ?_)))
  clear cp10_0
  have cq11_0 : w11.heap[bq]? = some (.cells (z) 26 (0, 0)) := block_below0 hw11 (by first | assumption | (repeat (first | assumption | (refine heap_alloc_at ?_; (first | rfl | (simp only [World.size_alloc, World.size_drew, World.size_setCell, size_drewN]; done))) | refine block_alloc ?_)))
  clear cq10_0
  clear hcw11 hfw11 hlw11 hmw11 hnw11
  go_wp2
  go_ret
  exact ⟨rfl, by (repeat' (first | (with_reducible exact Below.refl _ _) | (with_reducible assumption) | (with_reducible refine Below.alloc ?_ ?_ _) | (with_reducible refine Below.drew ?_) | (with_reducible refine below_drewN ?_ _) | (with_reducible refine Below.setCell ?_ ?_ _) | (with_reducible refine below_step (by with_reducible assumption) ?_ ?_) | (with_reducible exact Below.size (by with_reducible assumption)) | go_size))⟩
end Go.Proofs.Ythgnemkfaiejbaa
