/-
  TraceAnalyticAdds: the walks.
-/
import Derived.Test.YthgnemkfaiejbaaTCplx
import Derived.Deep.Cut
set_option linter.unusedVariables false
set_option linter.unusedSimpArgs false
namespace Go.Proofs.Ythgnemkfaiejbaa
open Go.RowKit

theorem heap_alloc_2 (w : World) (o p : Obj) : ((w.alloc o).alloc p).heap[w.heap.size + 1]? = some p := heap_alloc_at (by simp)
set_option maxRecDepth 100000 in
set_option maxHeartbeats 2000000 in
theorem traceAdds_out (v0 v1 : Value) (x y : Nat → Int) (n m : Nat) (by' : Int) (w : World) (hr0 : Hid (IRow w v0 x n)) (hr1 : Hid (IRow w v1 y m)) (h : ¬ (n ≤ 64 ∧ m ≤ 64 ∧ inB by' 0 60 = true)) :
    Calls Try.prog 12 #[v0, v1, .int .i64 by'] w fun e w' => e = .returned (.bool true) ∧ Below w.heap.size w w' := by
  have KA := Lib.hid awake3_any
  obtain ⟨q0, c0, rfl, hc0, -⟩ := hr0.out
  obtain ⟨q1, c1, rfl, hc1, -⟩ := hr1.out
  clear hr0 hr1 hc0 hc1
  by_cases hn : n ≤ 64
  · have d0 : decide (64 < (n : Int)) = false := decide_eq_false (by omega)
    by_cases hm : m ≤ 64
    · have d1 : decide (64 < (m : Int)) = false := decide_eq_false (by omega)
      have hb : inB by' 0 60 = false := by
        cases hh : inB by' 0 60
        · rfl
        · exact absurd ⟨hn, hm, hh⟩ h
      have K := Lib.hid (fun W => bwithin_any by' 0 60 W)
      rw [hb] at K
      clear h hn hm hb
      go_enter Try.func12, Try.ntmps12
      go_wp2_with fail; (refine (KA.out _).mono ?_; rintro e w1 ⟨rfl, hw1⟩; obtain ⟨hcw1, hfw1, hlw1, hmw1, hnw1⟩ := bcell3 hw1; have hzw1 := hw1.size; (try simp only [World.size_alloc, World.size_setCell, World.size_drew, size_drewN] at hzw1))
      clear hcw1 hfw1 hlw1 hmw1 hnw1
      go_wp2_with fail
      refine (K.out _).mono ?_
      rintro e w' ⟨rfl, rfl⟩
      go_wp2
      go_ret
      exact ⟨rfl, by (repeat' (first | (with_reducible exact Below.refl _ _) | (with_reducible assumption) | (with_reducible refine Below.alloc ?_ ?_ _) | (with_reducible refine Below.drew ?_) | (with_reducible refine below_drewN ?_ _) | (with_reducible refine Below.setCell ?_ ?_ _) | (with_reducible refine below_step (by with_reducible assumption) ?_ ?_) | (with_reducible exact Below.size (by with_reducible assumption)) | go_size))⟩
    · have d1 : decide (64 < (m : Int)) = true := decide_eq_true (by omega)
      clear h hn hm
      go_enter Try.func12, Try.ntmps12
      go_wp2_with fail; (refine (KA.out _).mono ?_; rintro e w1 ⟨rfl, hw1⟩; obtain ⟨hcw1, hfw1, hlw1, hmw1, hnw1⟩ := bcell3 hw1; have hzw1 := hw1.size; (try simp only [World.size_alloc, World.size_setCell, World.size_drew, size_drewN] at hzw1))
      clear hcw1 hfw1 hlw1 hmw1 hnw1
      go_wp2
      go_ret
      exact ⟨rfl, by (repeat' (first | (with_reducible exact Below.refl _ _) | (with_reducible assumption) | (with_reducible refine Below.alloc ?_ ?_ _) | (with_reducible refine Below.drew ?_) | (with_reducible refine below_drewN ?_ _) | (with_reducible refine Below.setCell ?_ ?_ _) | (with_reducible refine below_step (by with_reducible assumption) ?_ ?_) | (with_reducible exact Below.size (by with_reducible assumption)) | go_size))⟩
  · have d0 : decide (64 < (n : Int)) = true := decide_eq_true (by omega)
    clear h hn
    go_enter Try.func12, Try.ntmps12
    go_wp2_with fail; (refine (KA.out _).mono ?_; rintro e w1 ⟨rfl, hw1⟩; obtain ⟨hcw1, hfw1, hlw1, hmw1, hnw1⟩ := bcell3 hw1; have hzw1 := hw1.size; (try simp only [World.size_alloc, World.size_setCell, World.size_drew, size_drewN] at hzw1))
    clear hcw1 hfw1 hlw1 hmw1 hnw1
    go_wp2
    go_ret
    exact ⟨rfl, by (repeat' (first | (with_reducible exact Below.refl _ _) | (with_reducible assumption) | (with_reducible refine Below.alloc ?_ ?_ _) | (with_reducible refine Below.drew ?_) | (with_reducible refine below_drewN ?_ _) | (with_reducible refine Below.setCell ?_ ?_ _) | (with_reducible refine below_step (by with_reducible assumption) ?_ ?_) | (with_reducible exact Below.size (by with_reducible assumption)) | go_size))⟩
set_option maxRecDepth 100000 in
set_option maxHeartbeats 2000000 in
theorem traceAdds_err (v0 v1 : Value) (x y : Nat → Int) (n m : Nat) (by' E : Int) (s : Array Value) (w : World) (hr0 : Hid (IRow w v0 x n)) (hr1 : Hid (IRow w v1 y m)) (hn : n ≤ 64) (hm : m ≤ 64) (hb : inB by' 0 60 = true) (hE : (E != 0) = true) (hss : Hid (s.size = 64)) (hso : Hid ((s.all (·.oneCell')) = true))
    (KD : Hid (∀ W, Calls Try.prog 52 #[.agg (tC (mkT x n)), .agg (tC (mkT y m))] W fun e w' => e = .returned (.tuple #[.agg s, .int .i64 E]) ∧ Below W.heap.size W w')) :
    Calls Try.prog 12 #[v0, v1, .int .i64 by'] w fun e w' => e = .returned (.bool true) ∧ Below w.heap.size w w' := by
  have KA := Lib.hid awake3_any
  have KM0 := Lib.hid (fun W (hB : Below w.heap.size w W) => made_any v0 x n W (by omega) (Lib.hid (hr0.out.below hB)))
  have KM1 := Lib.hid (fun W (hB : Below w.heap.size w W) => made_any v1 y m W (by omega) (Lib.hid (hr1.out.below hB)))
  obtain ⟨q0, c0, rfl, hc0, -⟩ := hr0.out
  obtain ⟨q1, c1, rfl, hc1, -⟩ := hr1.out
  have d0 : decide (64 < (n : Int)) = false := decide_eq_false (by omega)
  have d1 : decide (64 < (m : Int)) = false := decide_eq_false (by omega)
  have K := Lib.hid (fun W => bwithin_any by' 0 60 W)
  rw [hb] at K
  have HZ := Lib.hid zero_trace
  have hs0 := Lib.hid (tC_size fun _ => 0)
  have hsc := Lib.hid (tC_size (mkT x n))
  have hsd := Lib.hid (tC_size (mkT y m))
  have hoc := Lib.hid (tC_one (mkT x n))
  have hod := Lib.hid (tC_one (mkT y m))
  clear hr0 hr1 hc0 hc1 hb
  generalize tC (mkT x n) = c at *
  generalize tC (mkT y m) = d at *
  generalize (tC fun _ => 0) = z at *
  go_enter Try.func12, Try.ntmps12
  go_wp2_with fail; (refine (KA.out _).mono ?_; rintro e w1 ⟨rfl, hw1⟩; obtain ⟨hcw1, hfw1, hlw1, hmw1, hnw1⟩ := bcell3 hw1; have hzw1 := hw1.size; (try simp only [World.size_alloc, World.size_setCell, World.size_drew, size_drewN] at hzw1))
  clear hcw1 hfw1 hlw1 hmw1 hnw1
  have hB1 : Below w.heap.size w w1 := by (repeat' (first | (with_reducible exact Below.refl _ _) | (with_reducible assumption) | (with_reducible refine Below.alloc ?_ ?_ _) | (with_reducible refine Below.drew ?_) | (with_reducible refine below_drewN ?_ _) | (with_reducible refine Below.setCell ?_ ?_ _) | (with_reducible refine below_step (by with_reducible assumption) ?_ ?_) | (with_reducible exact Below.size (by with_reducible assumption)) | go_size))
  go_wp2_with fail
  refine (K.out _).mono ?_
  rintro e w' ⟨rfl, rfl⟩
  go_wp2_with fail; (refine (KM0.out _ hB1).mono ?_; rintro e w2 ⟨rfl, hw2⟩; obtain ⟨hcw2, hfw2, hlw2, hmw2, hnw2⟩ := bcell3 hw2; have hzw2 := hw2.size; (try simp only [World.size_alloc, World.size_setCell, World.size_drew, size_drewN] at hzw2))
  clear hcw2 hfw2 hlw2 hmw2 hnw2
  have hB2 : Below w.heap.size w w2 := by (repeat' (first | (with_reducible exact Below.refl _ _) | (with_reducible assumption) | (with_reducible refine Below.alloc ?_ ?_ _) | (with_reducible refine Below.drew ?_) | (with_reducible refine below_drewN ?_ _) | (with_reducible refine Below.setCell ?_ ?_ _) | (with_reducible refine below_step (by with_reducible assumption) ?_ ?_) | (with_reducible exact Below.size (by with_reducible assumption)) | go_size))
  go_wp2_with fail; (refine (KM1.out _ hB2).mono ?_; rintro e w3 ⟨rfl, hw3⟩; obtain ⟨hcw3, hfw3, hlw3, hmw3, hnw3⟩ := bcell3 hw3; have hzw3 := hw3.size; (try simp only [World.size_alloc, World.size_setCell, World.size_drew, size_drewN] at hzw3))
  clear hcw3 hfw3 hlw3 hmw3 hnw3
  have hB3 : Below w.heap.size w w3 := by (repeat' (first | (with_reducible exact Below.refl _ _) | (with_reducible assumption) | (with_reducible refine Below.alloc ?_ ?_ _) | (with_reducible refine Below.drew ?_) | (with_reducible refine below_drewN ?_ _) | (with_reducible refine Below.setCell ?_ ?_ _) | (with_reducible refine below_step (by with_reducible assumption) ?_ ?_) | (with_reducible exact Below.size (by with_reducible assumption)) | go_size))
  go_upto_region 6 with (first | (refine wpl_alloc rfl 26 z rfl (HZ.out _) ?_) | (refine wpl_store rfl 26 26 _ _ w3.heap.size z c rfl rfl rfl (by rw [hsc.out]; exact infoTrace) (by rw [hs0.out, hsc.out]) hoc.out (block_alloc (heap_alloc_last w3 _)) ?_) | (refine wpl_store rfl 26 26 _ _ (w3.alloc (.cells z 26)).heap.size z d rfl rfl rfl (by rw [hsd.out]; exact infoTrace) (by rw [hs0.out, hsd.out]) hod.out ((block_setRow_other (show ¬ w3.heap.size = (w3.alloc (.cells z 26)).heap.size by simp)).trans (heap_alloc_last _ _)) ?_))
  have hlt2 : w3.heap.size < (w3.alloc (.cells z 26)).heap.size := by simp
  generalize hb2 : (w3.alloc (.cells z 26)).heap.size = b2 at *
  refine abs_last (fun w4 hw4 => ?_)
  have hw40 : Below w.heap.size w w4 := by rw [hw4]; exact below_setRow (below_setRow (by have := hB3.size; (repeat' (first | (with_reducible exact Below.refl _ _) | (with_reducible assumption) | (with_reducible refine Below.alloc ?_ ?_ _) | (with_reducible refine Below.drew ?_) | (with_reducible refine below_drewN ?_ _) | (with_reducible refine Below.setCell ?_ ?_ _) | (with_reducible refine below_step (by with_reducible assumption) ?_ ?_) | (with_reducible exact Below.size (by with_reducible assumption)) | go_size))) c hB3.size) d (by have := hB3.size; omega)
  have ca4_0 : w4.heap[w3.heap.size]? = some (.cells c 26 (0, 0)) := by rw [hw4, block_setRow_other (by omega)]; exact block_setRow (block_alloc (heap_alloc_last w3 _))
  have cb4_0 : w4.heap[b2]? = some (.cells d 26 (0, 0)) := by rw [hw4]; exact block_setRow ((block_setRow_other (by omega)).trans (hb2 ▸ heap_alloc_last _ _))
  clear hw4 hb2
  have hz40 := hw40.size
  go_wp2_with (first | (refine wpl_load rfl 26 26 _ w3.heap.size c (0, 0) _ rfl rfl Try.underlying26 rfl (by rw [hsc.out]; exact infoTrace) ca4_0 ?_) | (refine wpl_load rfl 26 26 _ b2 d (0, 0) _ rfl rfl Try.underlying26 rfl (by rw [hsd.out]; exact infoTrace) cb4_0 ?_))
  go_wp2_with fail; (refine (KD.out _).mono ?_; rintro e w5 ⟨rfl, hw5⟩; obtain ⟨hcw5, hfw5, hlw5, hmw5, hnw5⟩ := bcell3 hw5; have hzw5 := hw5.size; (try simp only [World.size_alloc, World.size_setCell, World.size_drew, size_drewN] at hzw5))
  have ca5_0 : w5.heap[w3.heap.size]? = some (.cells (c) 26 (0, 0)) := block_below0 hw5 (by first | assumption | (repeat (first | assumption | (refine heap_alloc_at ?_; (first | rfl | (simp only [World.size_alloc, World.size_drew, World.size_setCell, size_drewN]; done))) | refine block_alloc ?_)))
  clear ca4_0
  have cb5_0 : w5.heap[b2]? = some (.cells (d) 26 (0, 0)) := block_below0 hw5 (by first | assumption | (repeat (first | assumption | (refine heap_alloc_at ?_; (first | rfl | (simp only [World.size_alloc, World.size_drew, World.size_setCell, size_drewN]; done))) | refine block_alloc ?_)))
  clear cb4_0
  clear hcw5 hfw5 hlw5 hmw5 hnw5
  go_wp2_with (first | (refine wpl_alloc rfl 26 z rfl (HZ.out _) ?_) | (refine wpl_store_new rfl 26 _ _ z s rfl rfl rfl (by rw [hss.out]; exact infoTrace) (by rw [hs0.out, hss.out]) hso.out ?_))
  go_ret
  exact ⟨rfl, by (repeat' (first | (with_reducible exact Below.refl _ _) | (with_reducible assumption) | (with_reducible refine Below.alloc ?_ ?_ _) | (with_reducible refine Below.drew ?_) | (with_reducible refine below_drewN ?_ _) | (with_reducible refine Below.setCell ?_ ?_ _) | (with_reducible refine below_step (by with_reducible assumption) ?_ ?_) | (with_reducible exact Below.size (by with_reducible assumption)) | go_size))⟩
set_option maxRecDepth 100000 in
set_option maxHeartbeats 4000000 in
theorem traceAdds_ok (v0 v1 : Value) (x y : Nat → Int) (n m b : Nat) (w : World) (hr0 : Hid (IRow w v0 x n)) (hr1 : Hid (IRow w v1 y m)) (hn : n ≤ 64) (hm : m ≤ 64) (hb60 : b ≤ 60)
    (hx : Hid (∀ k, k < 64 → (mkT x n k).natAbs ≤ 2047)) (hy : Hid (∀ k, k < 64 → (mkT y m k).natAbs ≤ 2047)) (hsum : Hid (∀ k, k < 64 → (sumT (mkT x n) (mkT y m) k).natAbs ≤ 2047)) (hL : ¬ 2047 < ldM (sumT (mkT x n) (mkT y m)) 64) :
    Calls Try.prog 12 #[v0, v1, .int .i64 (b : Int)] w fun e w' => e = .returned (.bool true) ∧ Below w.heap.size w w' := by
  have hb : inB (b : Int) 0 60 = true := by unfold inB; exact decide_eq_true (by omega)
  have KD := Lib.hid (fun W => added_ok (mkT x n) (mkT y m) W hx hy hL)
  have KX := Lib.hid (fun W => analytic_ok (mkT x n) W hx)
  have KY := Lib.hid (fun W => analytic_ok (mkT y m) W hy)
  have KZ := Lib.hid (fun W => analytic_ok (sumT (mkT x n) (mkT y m)) W hsum)
  have KS := Lib.hid (fun W => shifted_ok (mkT x n) (b : Int) W hx (by omega))
  have KV := Lib.hid (fun W => analytic_ok (shT (mkT x n) (b : Int)) W (Lib.hid fun k _ => shT_bd hx.out k))
  have hss := Lib.hid (tC_size (sumT (mkT x n) (mkT y m)))
  have hso := Lib.hid (tC_one (sumT (mkT x n) (mkT y m)))
  have hst := Lib.hid (tC_size (shT (mkT x n) (b : Int)))
  have hot := Lib.hid (tC_one (shT (mkT x n) (b : Int)))
  generalize tC (sumT (mkT x n) (mkT y m)) = s at *
  generalize tC (shT (mkT x n) (b : Int)) = t at *
  have hsA := Lib.hid (aC_size (anP (mkT x n)) (anQ (mkT x n)))
  have hoA := Lib.hid (aC_one (anP (mkT x n)) (anQ (mkT x n)))
  have HGA := Lib.hid (fun k (h : k < 61) => aC_get (anP (mkT x n)) (anQ (mkT x n)) h)
  generalize aC (anP (mkT x n)) (anQ (mkT x n)) = A at *
  have hsB := Lib.hid (aC_size (anP (mkT y m)) (anQ (mkT y m)))
  have hoB := Lib.hid (aC_one (anP (mkT y m)) (anQ (mkT y m)))
  have HGB := Lib.hid (fun k (h : k < 61) => aC_get (anP (mkT y m)) (anQ (mkT y m)) h)
  generalize aC (anP (mkT y m)) (anQ (mkT y m)) = B at *
  have hsC := Lib.hid (aC_size (anP (sumT (mkT x n) (mkT y m))) (anQ (sumT (mkT x n) (mkT y m))))
  have hoC := Lib.hid (aC_one (anP (sumT (mkT x n) (mkT y m))) (anQ (sumT (mkT x n) (mkT y m))))
  have HGC := Lib.hid (fun k (h : k < 61) => aC_get (anP (sumT (mkT x n) (mkT y m))) (anQ (sumT (mkT x n) (mkT y m))) h)
  generalize aC (anP (sumT (mkT x n) (mkT y m))) (anQ (sumT (mkT x n) (mkT y m))) = C at *
  have hsD := Lib.hid (aC_size (anP (shT (mkT x n) (b : Int))) (anQ (shT (mkT x n) (b : Int))))
  have hoD := Lib.hid (aC_one (anP (shT (mkT x n) (b : Int))) (anQ (shT (mkT x n) (b : Int))))
  have HGD := Lib.hid (fun k (h : k < 61) => aC_get (anP (shT (mkT x n) (b : Int))) (anQ (shT (mkT x n) (b : Int))) h)
  generalize aC (anP (shT (mkT x n) (b : Int))) (anQ (shT (mkT x n) (b : Int))) = D at *
  have hzA := Lib.hid (aC_size (fun _ => 0) fun _ => 0)
  have HZA := Lib.hid zero_ana
  generalize aC (fun _ => 0) (fun _ => 0) = zA at *
  have HAX := Lib.hid (fun k (h : k < 61) => an_bd hx.out h)
  have HAY := Lib.hid (fun k (h : k < 61) => an_bd hy.out h)
  have HPS := Lib.hid (fun k => anP_sum (mkT x n) (mkT y m) k)
  have HQS := Lib.hid (fun k => anQ_sum (mkT x n) (mkT y m) k)
  have HPT := Lib.hid (fun k (h : b ≤ k) (hk : k < 61) => anP_sh (mkT x n) b k h hk)
  have HQT := Lib.hid (fun k (h : b ≤ k) (hk : k < 61) => anQ_sh (mkT x n) b k h hk)
  clear hL hsum
  have KA := Lib.hid awake3_any
  have KM0 := Lib.hid (fun W (hB : Below w.heap.size w W) => made_any v0 x n W (by omega) (Lib.hid (hr0.out.below hB)))
  have KM1 := Lib.hid (fun W (hB : Below w.heap.size w W) => made_any v1 y m W (by omega) (Lib.hid (hr1.out.below hB)))
  obtain ⟨q0, c0, rfl, hc0, -⟩ := hr0.out
  obtain ⟨q1, c1, rfl, hc1, -⟩ := hr1.out
  have d0 : decide (64 < (n : Int)) = false := decide_eq_false (by omega)
  have d1 : decide (64 < (m : Int)) = false := decide_eq_false (by omega)
  have K := Lib.hid (fun W => bwithin_any (b : Int) 0 60 W)
  rw [hb] at K
  have HZ := Lib.hid zero_trace
  have hs0 := Lib.hid (tC_size fun _ => 0)
  have hsc := Lib.hid (tC_size (mkT x n))
  have hsd := Lib.hid (tC_size (mkT y m))
  have hoc := Lib.hid (tC_one (mkT x n))
  have hod := Lib.hid (tC_one (mkT y m))
  clear hr0 hr1 hc0 hc1 hb
  generalize tC (mkT x n) = c at *
  generalize tC (mkT y m) = d at *
  generalize (tC fun _ => 0) = z at *
  go_enter Try.func12, Try.ntmps12
  go_wp2_with fail; (refine (KA.out _).mono ?_; rintro e w1 ⟨rfl, hw1⟩; obtain ⟨hcw1, hfw1, hlw1, hmw1, hnw1⟩ := bcell3 hw1; have hzw1 := hw1.size; (try simp only [World.size_alloc, World.size_setCell, World.size_drew, size_drewN] at hzw1))
  clear hcw1 hfw1 hlw1 hmw1 hnw1
  have hB1 : Below w.heap.size w w1 := by (repeat' (first | (with_reducible exact Below.refl _ _) | (with_reducible assumption) | (with_reducible refine Below.alloc ?_ ?_ _) | (with_reducible refine Below.drew ?_) | (with_reducible refine below_drewN ?_ _) | (with_reducible refine Below.setCell ?_ ?_ _) | (with_reducible refine below_step (by with_reducible assumption) ?_ ?_) | (with_reducible exact Below.size (by with_reducible assumption)) | go_size))
  go_wp2_with fail
  refine (K.out _).mono ?_
  rintro e w' ⟨rfl, rfl⟩
  go_wp2_with fail; (refine (KM0.out _ hB1).mono ?_; rintro e w2 ⟨rfl, hw2⟩; obtain ⟨hcw2, hfw2, hlw2, hmw2, hnw2⟩ := bcell3 hw2; have hzw2 := hw2.size; (try simp only [World.size_alloc, World.size_setCell, World.size_drew, size_drewN] at hzw2))
  clear hcw2 hfw2 hlw2 hmw2 hnw2
  have hB2 : Below w.heap.size w w2 := by (repeat' (first | (with_reducible exact Below.refl _ _) | (with_reducible assumption) | (with_reducible refine Below.alloc ?_ ?_ _) | (with_reducible refine Below.drew ?_) | (with_reducible refine below_drewN ?_ _) | (with_reducible refine Below.setCell ?_ ?_ _) | (with_reducible refine below_step (by with_reducible assumption) ?_ ?_) | (with_reducible exact Below.size (by with_reducible assumption)) | go_size))
  go_wp2_with fail; (refine (KM1.out _ hB2).mono ?_; rintro e w3 ⟨rfl, hw3⟩; obtain ⟨hcw3, hfw3, hlw3, hmw3, hnw3⟩ := bcell3 hw3; have hzw3 := hw3.size; (try simp only [World.size_alloc, World.size_setCell, World.size_drew, size_drewN] at hzw3))
  clear hcw3 hfw3 hlw3 hmw3 hnw3
  have hB3 : Below w.heap.size w w3 := by (repeat' (first | (with_reducible exact Below.refl _ _) | (with_reducible assumption) | (with_reducible refine Below.alloc ?_ ?_ _) | (with_reducible refine Below.drew ?_) | (with_reducible refine below_drewN ?_ _) | (with_reducible refine Below.setCell ?_ ?_ _) | (with_reducible refine below_step (by with_reducible assumption) ?_ ?_) | (with_reducible exact Below.size (by with_reducible assumption)) | go_size))
  go_upto_region 6 with (first | (refine wpl_alloc rfl 26 z rfl (HZ.out _) ?_) | (refine wpl_store rfl 26 26 _ _ w3.heap.size z c rfl rfl rfl (by rw [hsc.out]; exact infoTrace) (by rw [hs0.out, hsc.out]) hoc.out (block_alloc (heap_alloc_last w3 _)) ?_) | (refine wpl_store rfl 26 26 _ _ (w3.alloc (.cells z 26)).heap.size z d rfl rfl rfl (by rw [hsd.out]; exact infoTrace) (by rw [hs0.out, hsd.out]) hod.out ((block_setRow_other (show ¬ w3.heap.size = (w3.alloc (.cells z 26)).heap.size by simp)).trans (heap_alloc_last _ _)) ?_))
  have hlt2 : w3.heap.size < (w3.alloc (.cells z 26)).heap.size := by simp
  generalize hb2 : (w3.alloc (.cells z 26)).heap.size = b2 at *
  refine abs_last (fun w4 hw4 => ?_)
  have hw40 : Below w.heap.size w w4 := by rw [hw4]; exact below_setRow (below_setRow (by have := hB3.size; (repeat' (first | (with_reducible exact Below.refl _ _) | (with_reducible assumption) | (with_reducible refine Below.alloc ?_ ?_ _) | (with_reducible refine Below.drew ?_) | (with_reducible refine below_drewN ?_ _) | (with_reducible refine Below.setCell ?_ ?_ _) | (with_reducible refine below_step (by with_reducible assumption) ?_ ?_) | (with_reducible exact Below.size (by with_reducible assumption)) | go_size))) c hB3.size) d (by have := hB3.size; omega)
  have ca4_0 : w4.heap[w3.heap.size]? = some (.cells c 26 (0, 0)) := by rw [hw4, block_setRow_other (by omega)]; exact block_setRow (block_alloc (heap_alloc_last w3 _))
  have cb4_0 : w4.heap[b2]? = some (.cells d 26 (0, 0)) := by rw [hw4]; exact block_setRow ((block_setRow_other (by omega)).trans (hb2 ▸ heap_alloc_last _ _))
  clear hw4 hb2
  have hz40 := hw40.size
  go_wp2_with (first | (refine wpl_load rfl 26 26 _ w3.heap.size c (0, 0) _ rfl rfl Try.underlying26 rfl (by rw [hsc.out]; exact infoTrace) ca4_0 ?_) | (refine wpl_load rfl 26 26 _ b2 d (0, 0) _ rfl rfl Try.underlying26 rfl (by rw [hsd.out]; exact infoTrace) cb4_0 ?_))
  go_wp2_with fail; (refine (KD.out _).mono ?_; rintro e w5 ⟨rfl, hw5⟩; obtain ⟨hcw5, hfw5, hlw5, hmw5, hnw5⟩ := bcell3 hw5; have hzw5 := hw5.size; (try simp only [World.size_alloc, World.size_setCell, World.size_drew, size_drewN] at hzw5))
  have ca5_0 : w5.heap[w3.heap.size]? = some (.cells (c) 26 (0, 0)) := block_below0 hw5 (by first | assumption | (repeat (first | assumption | (refine heap_alloc_at ?_; (first | rfl | (simp only [World.size_alloc, World.size_drew, World.size_setCell, size_drewN]; done))) | refine block_alloc ?_)))
  clear ca4_0
  have cb5_0 : w5.heap[b2]? = some (.cells (d) 26 (0, 0)) := block_below0 hw5 (by first | assumption | (repeat (first | assumption | (refine heap_alloc_at ?_; (first | rfl | (simp only [World.size_alloc, World.size_drew, World.size_setCell, size_drewN]; done))) | refine block_alloc ?_)))
  clear cb4_0
  clear hcw5 hfw5 hlw5 hmw5 hnw5
  go_wp2_with (first | (refine wpl_alloc rfl 26 z rfl (HZ.out _) ?_) | (refine wpl_store_new rfl 26 _ _ z s rfl rfl rfl (by rw [hss.out]; exact infoTrace) (by rw [hs0.out, hss.out]) hso.out ?_) | (refine wpl_load rfl 26 26 _ w3.heap.size c (0, 0) _ rfl rfl Try.underlying26 rfl (by rw [hsc.out]; exact infoTrace) (block_alloc ca5_0) ?_))
  go_wp2_with fail; (refine (KX.out _).mono ?_; rintro e w6 ⟨rfl, hw6⟩; obtain ⟨hcw6, hfw6, hlw6, hmw6, hnw6⟩ := bcell3 hw6; have hzw6 := hw6.size; (try simp only [World.size_alloc, World.size_setCell, World.size_drew, size_drewN] at hzw6))
  have ca6_0 : w6.heap[w3.heap.size]? = some (.cells (c) 26 (0, 0)) := block_below0 hw6 (by first | assumption | (repeat (first | assumption | (refine heap_alloc_at ?_; (first | rfl | (simp only [World.size_alloc, World.size_drew, World.size_setCell, size_drewN]; done))) | refine block_alloc ?_)))
  clear ca5_0
  have cb6_0 : w6.heap[b2]? = some (.cells (d) 26 (0, 0)) := block_below0 hw6 (by first | assumption | (repeat (first | assumption | (refine heap_alloc_at ?_; (first | rfl | (simp only [World.size_alloc, World.size_drew, World.size_setCell, size_drewN]; done))) | refine block_alloc ?_)))
  clear cb5_0
  have cu6_0 : w6.heap[w5.heap.size]? = some (.cells (s) 26 (0, 0)) := block_below0 hw6 (by first | assumption | (repeat (first | assumption | (refine heap_alloc_at ?_; (first | rfl | (simp only [World.size_alloc, World.size_drew, World.size_setCell, size_drewN]; done))) | refine block_alloc ?_)))
  clear hcw6 hfw6 hlw6 hmw6 hnw6
  go_wp2_with (first | (refine wpl_alloc rfl 92 zA rfl (HZA.out _) ?_) | (refine wpl_store_new rfl 92 _ _ zA A rfl rfl rfl (by rw [hsA.out]; exact infoAna) (by rw [hzA.out, hsA.out]) hoA.out ?_) | (refine wpl_load rfl 26 26 _ b2 d (0, 0) _ rfl rfl Try.underlying26 rfl (by rw [hsd.out]; exact infoTrace) (block_alloc cb6_0) ?_))
  go_wp2_with fail; (refine (KY.out _).mono ?_; rintro e w7 ⟨rfl, hw7⟩; obtain ⟨hcw7, hfw7, hlw7, hmw7, hnw7⟩ := bcell3 hw7; have hzw7 := hw7.size; (try simp only [World.size_alloc, World.size_setCell, World.size_drew, size_drewN] at hzw7))
  have ca7_0 : w7.heap[w3.heap.size]? = some (.cells (c) 26 (0, 0)) := block_below0 hw7 (by first | assumption | (repeat (first | assumption | (refine heap_alloc_at ?_; (first | rfl | (simp only [World.size_alloc, World.size_drew, World.size_setCell, size_drewN]; done))) | refine block_alloc ?_)))
  clear ca6_0
  have cb7_0 : w7.heap[b2]? = some (.cells (d) 26 (0, 0)) := block_below0 hw7 (by first | assumption | (repeat (first | assumption | (refine heap_alloc_at ?_; (first | rfl | (simp only [World.size_alloc, World.size_drew, World.size_setCell, size_drewN]; done))) | refine block_alloc ?_)))
  clear cb6_0
  have cu7_0 : w7.heap[w5.heap.size]? = some (.cells (s) 26 (0, 0)) := block_below0 hw7 (by first | assumption | (repeat (first | assumption | (refine heap_alloc_at ?_; (first | rfl | (simp only [World.size_alloc, World.size_drew, World.size_setCell, size_drewN]; done))) | refine block_alloc ?_)))
  clear cu6_0
  have cx7_0 : w7.heap[w6.heap.size]? = some (.cells (A) 92 (0, 0)) := block_below0 hw7 (by first | assumption | (repeat (first | assumption | (refine heap_alloc_at ?_; (first | rfl | (simp only [World.size_alloc, World.size_drew, World.size_setCell, size_drewN]; done))) | refine block_alloc ?_)))
  clear hcw7 hfw7 hlw7 hmw7 hnw7
  go_wp2_with (first | (refine wpl_alloc rfl 92 zA rfl (HZA.out _) ?_) | (refine wpl_store_new rfl 92 _ _ zA B rfl rfl rfl (by rw [hsB.out]; exact infoAna) (by rw [hzA.out, hsB.out]) hoB.out ?_) | (refine wpl_load rfl 26 26 _ w5.heap.size s (0, 0) _ rfl rfl Try.underlying26 rfl (by rw [hss.out]; exact infoTrace) (block_alloc cu7_0) ?_))
  go_wp2_with fail; (refine (KZ.out _).mono ?_; rintro e w8 ⟨rfl, hw8⟩; obtain ⟨hcw8, hfw8, hlw8, hmw8, hnw8⟩ := bcell3 hw8; have hzw8 := hw8.size; (try simp only [World.size_alloc, World.size_setCell, World.size_drew, size_drewN] at hzw8))
  have ca8_0 : w8.heap[w3.heap.size]? = some (.cells (c) 26 (0, 0)) := block_below0 hw8 (by first | assumption | (repeat (first | assumption | (refine heap_alloc_at ?_; (first | rfl | (simp only [World.size_alloc, World.size_drew, World.size_setCell, size_drewN]; done))) | refine block_alloc ?_)))
  clear ca7_0
  have cb8_0 : w8.heap[b2]? = some (.cells (d) 26 (0, 0)) := block_below0 hw8 (by first | assumption | (repeat (first | assumption | (refine heap_alloc_at ?_; (first | rfl | (simp only [World.size_alloc, World.size_drew, World.size_setCell, size_drewN]; done))) | refine block_alloc ?_)))
  clear cb7_0
  have cu8_0 : w8.heap[w5.heap.size]? = some (.cells (s) 26 (0, 0)) := block_below0 hw8 (by first | assumption | (repeat (first | assumption | (refine heap_alloc_at ?_; (first | rfl | (simp only [World.size_alloc, World.size_drew, World.size_setCell, size_drewN]; done))) | refine block_alloc ?_)))
  clear cu7_0
  have cx8_0 : w8.heap[w6.heap.size]? = some (.cells (A) 92 (0, 0)) := block_below0 hw8 (by first | assumption | (repeat (first | assumption | (refine heap_alloc_at ?_; (first | rfl | (simp only [World.size_alloc, World.size_drew, World.size_setCell, size_drewN]; done))) | refine block_alloc ?_)))
  clear cx7_0
  have cy8_0 : w8.heap[w7.heap.size]? = some (.cells (B) 92 (0, 0)) := block_below0 hw8 (by first | assumption | (repeat (first | assumption | (refine heap_alloc_at ?_; (first | rfl | (simp only [World.size_alloc, World.size_drew, World.size_setCell, size_drewN]; done))) | refine block_alloc ?_)))
  clear hcw8 hfw8 hlw8 hmw8 hnw8
  go_wp2_with (first | (refine wpl_alloc rfl 92 zA rfl (HZA.out _) ?_) | (refine wpl_store_new rfl 92 _ _ zA C rfl rfl rfl (by rw [hsC.out]; exact infoAna) (by rw [hzA.out, hsC.out]) hoC.out ?_) | (refine wpl_load rfl 26 26 _ w3.heap.size c (0, 0) _ rfl rfl Try.underlying26 rfl (by rw [hsc.out]; exact infoTrace) (block_alloc ca8_0) ?_))
  go_wp2_with fail; (refine (KS.out _).mono ?_; rintro e w9 ⟨rfl, hw9⟩; obtain ⟨hcw9, hfw9, hlw9, hmw9, hnw9⟩ := bcell3 hw9; have hzw9 := hw9.size; (try simp only [World.size_alloc, World.size_setCell, World.size_drew, size_drewN] at hzw9))
  have ca9_0 : w9.heap[w3.heap.size]? = some (.cells (c) 26 (0, 0)) := block_below0 hw9 (by first | assumption | (repeat (first | assumption | (refine heap_alloc_at ?_; (first | rfl | (simp only [World.size_alloc, World.size_drew, World.size_setCell, size_drewN]; done))) | refine block_alloc ?_)))
  clear ca8_0
  have cb9_0 : w9.heap[b2]? = some (.cells (d) 26 (0, 0)) := block_below0 hw9 (by first | assumption | (repeat (first | assumption | (refine heap_alloc_at ?_; (first | rfl | (simp only [World.size_alloc, World.size_drew, World.size_setCell, size_drewN]; done))) | refine block_alloc ?_)))
  clear cb8_0
  have cu9_0 : w9.heap[w5.heap.size]? = some (.cells (s) 26 (0, 0)) := block_below0 hw9 (by first | assumption | (repeat (first | assumption | (refine heap_alloc_at ?_; (first | rfl | (simp only [World.size_alloc, World.size_drew, World.size_setCell, size_drewN]; done))) | refine block_alloc ?_)))
  clear cu8_0
  have cx9_0 : w9.heap[w6.heap.size]? = some (.cells (A) 92 (0, 0)) := block_below0 hw9 (by first | assumption | (repeat (first | assumption | (refine heap_alloc_at ?_; (first | rfl | (simp only [World.size_alloc, World.size_drew, World.size_setCell, size_drewN]; done))) | refine block_alloc ?_)))
  clear cx8_0
  have cy9_0 : w9.heap[w7.heap.size]? = some (.cells (B) 92 (0, 0)) := block_below0 hw9 (by first | assumption | (repeat (first | assumption | (refine heap_alloc_at ?_; (first | rfl | (simp only [World.size_alloc, World.size_drew, World.size_setCell, size_drewN]; done))) | refine block_alloc ?_)))
  clear cy8_0
  have ccc9_0 : w9.heap[w8.heap.size]? = some (.cells (C) 92 (0, 0)) := block_below0 hw9 (by first | assumption | (repeat (first | assumption | (refine heap_alloc_at ?_; (first | rfl | (simp only [World.size_alloc, World.size_drew, World.size_setCell, size_drewN]; done))) | refine block_alloc ?_)))
  clear hcw9 hfw9 hlw9 hmw9 hnw9
  go_wp2_with (first | (refine wpl_alloc rfl 26 z rfl (HZ.out _) ?_) | (refine wpl_store_new rfl 26 _ _ z t rfl rfl rfl (by rw [hst.out]; exact infoTrace) (by rw [hs0.out, hst.out]) hot.out ?_) | (refine wpl_load rfl 26 26 _ w9.heap.size t (0, 0) _ rfl rfl Try.underlying26 rfl (by rw [hst.out]; exact infoTrace) (heap_alloc_last w9 _) ?_))
  go_wp2_with fail; (refine (KV.out _).mono ?_; rintro e w10 ⟨rfl, hw10⟩; obtain ⟨hcw10, hfw10, hlw10, hmw10, hnw10⟩ := bcell3 hw10; have hzw10 := hw10.size; (try simp only [World.size_alloc, World.size_setCell, World.size_drew, size_drewN] at hzw10))
  have ca10_0 : w10.heap[w3.heap.size]? = some (.cells (c) 26 (0, 0)) := block_below0 hw10 (by first | assumption | (repeat (first | assumption | (refine heap_alloc_at ?_; (first | rfl | (simp only [World.size_alloc, World.size_drew, World.size_setCell, size_drewN]; done))) | refine block_alloc ?_)))
  clear ca9_0
  have cb10_0 : w10.heap[b2]? = some (.cells (d) 26 (0, 0)) := block_below0 hw10 (by first | assumption | (repeat (first | assumption | (refine heap_alloc_at ?_; (first | rfl | (simp only [World.size_alloc, World.size_drew, World.size_setCell, size_drewN]; done))) | refine block_alloc ?_)))
  clear cb9_0
  have cu10_0 : w10.heap[w5.heap.size]? = some (.cells (s) 26 (0, 0)) := block_below0 hw10 (by first | assumption | (repeat (first | assumption | (refine heap_alloc_at ?_; (first | rfl | (simp only [World.size_alloc, World.size_drew, World.size_setCell, size_drewN]; done))) | refine block_alloc ?_)))
  clear cu9_0
  have cx10_0 : w10.heap[w6.heap.size]? = some (.cells (A) 92 (0, 0)) := block_below0 hw10 (by first | assumption | (repeat (first | assumption | (refine heap_alloc_at ?_; (first | rfl | (simp only [World.size_alloc, World.size_drew, World.size_setCell, size_drewN]; done))) | refine block_alloc ?_)))
  clear cx9_0
  have cy10_0 : w10.heap[w7.heap.size]? = some (.cells (B) 92 (0, 0)) := block_below0 hw10 (by first | assumption | (repeat (first | assumption | (refine heap_alloc_at ?_; (first | rfl | (simp only [World.size_alloc, World.size_drew, World.size_setCell, size_drewN]; done))) | refine block_alloc ?_)))
  clear cy9_0
  have ccc10_0 : w10.heap[w8.heap.size]? = some (.cells (C) 92 (0, 0)) := block_below0 hw10 (by first | assumption | (repeat (first | assumption | (refine heap_alloc_at ?_; (first | rfl | (simp only [World.size_alloc, World.size_drew, World.size_setCell, size_drewN]; done))) | refine block_alloc ?_)))
  clear ccc9_0
  have ct10_0 : w10.heap[w9.heap.size]? = some (.cells (t) 26 (0, 0)) := block_below0 hw10 (by first | assumption | (repeat (first | assumption | (refine heap_alloc_at ?_; (first | rfl | (simp only [World.size_alloc, World.size_drew, World.size_setCell, size_drewN]; done))) | refine block_alloc ?_)))
  clear hcw10 hfw10 hlw10 hmw10 hnw10
  go_wp2_with (first | (refine wpl_alloc rfl 92 zA rfl (HZA.out _) ?_) | (refine wpl_store_new rfl 92 _ _ zA D rfl rfl rfl (by rw [hsD.out]; exact infoAna) (by rw [hzA.out, hsD.out]) hoD.out ?_))
  have hbE : Below w.heap.size w (w10.alloc (.cells D 92)) := by (repeat' (first | (with_reducible exact Below.refl _ _) | (with_reducible assumption) | (with_reducible refine Below.alloc ?_ ?_ _) | (with_reducible refine Below.drew ?_) | (with_reducible refine below_drewN ?_ _) | (with_reducible refine Below.setCell ?_ ?_ _) | (with_reducible refine below_step (by with_reducible assumption) ?_ ?_) | (with_reducible exact Below.size (by with_reducible assumption)) | go_size))
  have gx : (w10.alloc (.cells D 92)).heap[w6.heap.size]? = some (.cells A 92 (0, 0)) := block_alloc cx10_0
  have gy : (w10.alloc (.cells D 92)).heap[w7.heap.size]? = some (.cells B 92 (0, 0)) := block_alloc cy10_0
  have gz : (w10.alloc (.cells D 92)).heap[w8.heap.size]? = some (.cells C 92 (0, 0)) := block_alloc ccc10_0
  have gv : (w10.alloc (.cells D 92)).heap[w10.heap.size]? = some (.cells D 92 (0, 0)) := heap_alloc_last w10 _
  refine abs_last (fun we hwe => ?_)
  rw [← hwe] at hbE gx gy gz gv
  clear hwe
  generalize w6.heap.size = bx at *
  generalize w7.heap.size = by1 at *
  generalize w8.heap.size = bz at *
  generalize w10.heap.size = bv at *
  go_loopw [21] (fun i wr => ∃ k : Nat, k ≤ 61 ∧ i = .int .i64 (k : Int) ∧ Below w.heap.size w wr ∧ wr.heap[bx]? = some (.cells A 92 (0, 0)) ∧ wr.heap[by1]? = some (.cells B 92 (0, 0)) ∧ wr.heap[bz]? = some (.cells C 92 (0, 0)) ∧ wr.heap[bv]? = some (.cells D 92 (0, 0))) (fun i _ => 61 - (intOf i).toNat)
  case atStart => exact ⟨0, Nat.zero_le _, rfl, hbE, gx, gy, gz, gv⟩
  case round =>
    clear hbE gx gy gz gv
    obtain ⟨k, hk, rfl, hB, g0, g1, g2, g3⟩ := hrel
    have HB := Lib.hid hB
    have G0 := Lib.hid g0
    have G1 := Lib.hid g1
    have G2 := Lib.hid g2
    have G3 := Lib.hid g3
    clear hB g0 g1 g2 g3
    by_cases hlt : k < 61
    · have dx := (cell_block (i := k) G0.out).trans (HGA.out k hlt)
      have dy := (cell_block (i := k) G1.out).trans (HGB.out k hlt)
      have dz := (cell_block (i := k) G2.out).trans (HGC.out k hlt)
      have bdx := HAX.out k hlt
      have bdy := HAY.out k hlt
      have hadd : ∀ w, _ := fun w => run_cadd (a := anP (mkT x n) k) (b := anQ (mkT x n) k) (c := anP (mkT y m) k) (d := anQ (mkT y m) k) (by omega) (by omega) (by omega) (by omega) w
      have hneq : ∀ w, _ := fun w => run_cneq (a := anP (mkT x n) k + anP (mkT y m) k) (b := anQ (mkT x n) k + anQ (mkT y m) k) (by omega) (by omega) w
      rw [HPS.out, HQS.out] at dz
      clear bdx bdy
      have e0 : (0 : Int) ≤ (k : Int) := by omega
      have e1 : (k : Int) < 61 := by omega
      unfold c64 at dx dy dz hadd hneq
      by_cases hge : b ≤ k
      · have dv := (cell_block (i := k) G3.out).trans (HGD.out k hlt)
        rw [HPT.out k hge hlt, HQT.out k hge hlt] at dv
        have dw := (cell_block (i := k - b) G0.out).trans (HGA.out (k - b) (by omega))
        have bdw := HAX.out (k - b) (by omega)
        have hneq2 : ∀ w, _ := fun w => run_cneq (a := anP (mkT x n) (k - b)) (b := anQ (mkT x n) (k - b)) (by omega) (by omega) w
        have wr1 : IntKind.i64.wrap ((k : Int) - (b : Int)) = ((k - b : Nat) : Int) := (IntWalk.i64_in _ (by omega)).trans (by omega)
        have e2 : (b : Int) ≤ (k : Int) := by omega
        have hj : k - b < 61 := by omega
        clear bdw
        unfold c64 at dv dw hneq2
        generalize wd Ieee.single (anP (mkT x n) k) = x1 at *
        generalize wd Ieee.single (anQ (mkT x n) k) = x2 at *
        generalize wd Ieee.single (anP (mkT y m) k) = y1 at *
        generalize wd Ieee.single (anQ (mkT y m) k) = y2 at *
        generalize wd Ieee.single (anP (mkT x n) k + anP (mkT y m) k) = z1 at *
        generalize wd Ieee.single (anQ (mkT x n) k + anQ (mkT y m) k) = z2 at *
        generalize wd Ieee.single (anP (mkT x n) (k - b)) = u1 at *
        generalize wd Ieee.single (anQ (mkT x n) (k - b)) = u2 at *
        generalize k - b = j at *
        have e3 : (0 : Int) ≤ (j : Int) := by omega
        have e4 : (j : Int) < 61 := by omega
        go_wp2
        refine wp_region_held_drew (S := fun w' => w'.cell? ⟨bx, j, none⟩ = some (.complex .f32 u1 u2) ∧ w'.cell? ⟨bx, k, none⟩ = some (.complex .f32 x1 x2) ∧ w'.cell? ⟨by1, k, none⟩ = some (.complex .f32 y1 y2) ∧ w'.cell? ⟨bz, k, none⟩ = some (.complex .f32 z1 z2) ∧ w'.cell? ⟨bv, k, none⟩ = some (.complex .f32 u1 u2)) (by kernel_rfl) ?_ (fun hH1 => ?_)
        · (first | assumption | (refine ⟨?_, ?_, ?_, ?_, ?_⟩ <;> assumption) | (go_keep; done) | (simp [*, go_sem]; done))
        refine wpAnyH_pure (i := 0) (v := ?_) rfl (by kernel_rfl) (by kernel_rfl) (by kernel_rfl) (fun _ _ _ h => h) (by rfl) (by assumption) ?_ ?_
        rotate_left
        · (intro w hSw; (try dsimp only at hSw); go_simp; (try with_reducible rfl))
        simp only [Act.put, List.getElem_toArray, List.getElem_cons_succ, List.getElem_cons_zero, List.setIfInBounds_toArray, List.set_cons_zero, List.set_cons_succ]
        refine wpAnyH_pure (i := 1) (v := ?_) rfl (by kernel_rfl) (by kernel_rfl) (by kernel_rfl) (fun _ _ _ h => h) (by rfl) (by assumption) ?_ ?_
        rotate_left
        · (intro w hSw; (try dsimp only at hSw); go_simp; (try with_reducible rfl))
        simp only [Act.put, List.getElem_toArray, List.getElem_cons_succ, List.getElem_cons_zero, List.setIfInBounds_toArray, List.set_cons_zero, List.set_cons_succ]
        refine wpAnyH_pure (i := 2) (v := ?_) rfl (by kernel_rfl) (by kernel_rfl) (by kernel_rfl) (fun _ _ _ h => h) (by rfl) (by assumption) ?_ ?_
        rotate_left
        · (intro w hSw; (try dsimp only at hSw); go_simp; (try with_reducible rfl))
        simp only [Act.put, List.getElem_toArray, List.getElem_cons_succ, List.getElem_cons_zero, List.setIfInBounds_toArray, List.set_cons_zero, List.set_cons_succ]
        refine wpAnyH_pure (i := 3) (v := ?_) rfl (by kernel_rfl) (by kernel_rfl) (by kernel_rfl) (fun _ _ _ h => h) (by rfl) (by assumption) ?_ ?_
        rotate_left
        · (intro w hSw; (try dsimp only at hSw); go_simp; (try with_reducible rfl))
        simp only [Act.put, List.getElem_toArray, List.getElem_cons_succ, List.getElem_cons_zero, List.setIfInBounds_toArray, List.set_cons_zero, List.set_cons_succ]
        refine wpAnyH_pure (i := 4) (v := ?_) rfl (by kernel_rfl) (by kernel_rfl) (by kernel_rfl) (fun _ _ _ h => h) (by rfl) (by assumption) ?_ ?_
        rotate_left
        · (intro w hSw; (try dsimp only at hSw); go_simp; (try with_reducible rfl))
        simp only [Act.put, List.getElem_toArray, List.getElem_cons_succ, List.getElem_cons_zero, List.setIfInBounds_toArray, List.set_cons_zero, List.set_cons_succ]
        refine wpAnyH_pure (i := 5) (v := ?_) rfl (by kernel_rfl) (by kernel_rfl) (by kernel_rfl) (fun _ _ _ h => h) (by rfl) (by assumption) ?_ ?_
        rotate_left
        · (intro w hSw; (try dsimp only at hSw); go_simp; (try with_reducible rfl))
        simp only [Act.put, List.getElem_toArray, List.getElem_cons_succ, List.getElem_cons_zero, List.setIfInBounds_toArray, List.set_cons_zero, List.set_cons_succ]
        refine wpAnyH_pure (i := 6) (v := ?_) rfl (by kernel_rfl) (by kernel_rfl) (by kernel_rfl) (fun _ _ _ h => h) (by rfl) (by assumption) ?_ ?_
        rotate_left
        · (intro w hSw; (try dsimp only at hSw); go_simp; (try with_reducible rfl))
        simp only [Act.put, List.getElem_toArray, List.getElem_cons_succ, List.getElem_cons_zero, List.setIfInBounds_toArray, List.set_cons_zero, List.set_cons_succ]
        refine wpAnyH_pure (i := 7) (v := ?_) rfl (by kernel_rfl) (by kernel_rfl) (by kernel_rfl) (fun _ _ _ h => h) (by rfl) (by assumption) ?_ ?_
        rotate_left
        · (intro w hSw; (try dsimp only at hSw); go_simp; (try with_reducible rfl))
        simp only [Act.put, List.getElem_toArray, List.getElem_cons_succ, List.getElem_cons_zero, List.setIfInBounds_toArray, List.set_cons_zero, List.set_cons_succ]
        refine wpAnyH_pure (i := 8) (v := ?_) rfl (by kernel_rfl) (by kernel_rfl) (by kernel_rfl) (fun _ _ _ h => h) (by rfl) (by assumption) ?_ ?_
        rotate_left
        · (intro w hSw; (try dsimp only at hSw); go_simp; (try with_reducible rfl))
        simp only [Act.put, List.getElem_toArray, List.getElem_cons_succ, List.getElem_cons_zero, List.setIfInBounds_toArray, List.set_cons_zero, List.set_cons_succ]
        refine wpAnyH_pure (i := 9) (v := ?_) rfl (by kernel_rfl) (by kernel_rfl) (by kernel_rfl) (fun _ _ _ h => h) (by rfl) (by assumption) ?_ ?_
        rotate_left
        · (intro w hSw; (try dsimp only at hSw); go_simp; (try with_reducible rfl))
        simp only [Act.put, List.getElem_toArray, List.getElem_cons_succ, List.getElem_cons_zero, List.setIfInBounds_toArray, List.set_cons_zero, List.set_cons_succ]
        refine wpAnyH_pure (i := 10) (v := ?_) rfl (by kernel_rfl) (by kernel_rfl) (by kernel_rfl) (fun _ _ _ h => h) (by rfl) (by assumption) ?_ ?_
        rotate_left
        · (intro w hSw; (try dsimp only at hSw); go_simp; (try with_reducible rfl))
        simp only [Act.put, List.getElem_toArray, List.getElem_cons_succ, List.getElem_cons_zero, List.setIfInBounds_toArray, List.set_cons_zero, List.set_cons_succ]
        refine wpAnyH_pure (i := 11) (v := ?_) rfl (by kernel_rfl) (by kernel_rfl) (by kernel_rfl) (fun _ _ _ h => h) (by rfl) (by assumption) ?_ ?_
        rotate_left
        · (intro w hSw; (try dsimp only at hSw); go_simp; (try with_reducible rfl))
        simp only [Act.put, List.getElem_toArray, List.getElem_cons_succ, List.getElem_cons_zero, List.setIfInBounds_toArray, List.set_cons_zero, List.set_cons_succ]
        refine wpAnyH_pure (i := 12) (v := ?_) rfl (by kernel_rfl) (by kernel_rfl) (by kernel_rfl) (fun _ _ _ h => h) (by first | rfl | (simp [Region.wanted, yielded, *]; done)) (by assumption) ?_ ?_
        rotate_left
        · (intro w hSw; (try dsimp only at hSw); go_simp; (try with_reducible rfl))
        simp only [Act.put, List.getElem_toArray, List.getElem_cons_succ, List.getElem_cons_zero, List.setIfInBounds_toArray, List.set_cons_zero, List.set_cons_succ]
        refine wpAnyH_pure (i := 13) (v := ?_) rfl (by kernel_rfl) (by kernel_rfl) (by kernel_rfl) (fun _ _ _ h => h) (by first | rfl | (simp [Region.wanted, yielded, *]; done)) (by assumption) ?_ ?_
        rotate_left
        · (intro w hSw; (try dsimp only at hSw); go_simp; (try with_reducible rfl))
        simp only [Act.put, List.getElem_toArray, List.getElem_cons_succ, List.getElem_cons_zero, List.setIfInBounds_toArray, List.set_cons_zero, List.set_cons_succ]
        refine wpAnyH_pure (i := 14) (v := ?_) rfl (by kernel_rfl) (by kernel_rfl) (by kernel_rfl) (fun _ _ _ h => h) (by first | rfl | (simp [Region.wanted, yielded, *]; done)) (by assumption) ?_ ?_
        rotate_left
        · (intro w hSw; (try dsimp only at hSw); go_simp; (try with_reducible rfl))
        simp only [Act.put, List.getElem_toArray, List.getElem_cons_succ, List.getElem_cons_zero, List.setIfInBounds_toArray, List.set_cons_zero, List.set_cons_succ]
        refine wpAnyH_pure (i := 15) (v := ?_) rfl (by kernel_rfl) (by kernel_rfl) (by kernel_rfl) (fun _ _ _ h => h) (by first | rfl | (simp [Region.wanted, yielded, *]; done)) (by assumption) ?_ ?_
        rotate_left
        · (intro w hSw; (try dsimp only at hSw); go_simp; (try with_reducible rfl))
        simp only [Act.put, List.getElem_toArray, List.getElem_cons_succ, List.getElem_cons_zero, List.setIfInBounds_toArray, List.set_cons_zero, List.set_cons_succ]
        refine wpAnyH_pure (i := 16) (v := ?_) rfl (by kernel_rfl) (by kernel_rfl) (by kernel_rfl) (fun _ _ _ h => h) (by first | rfl | (simp [Region.wanted, yielded, *]; done)) (by assumption) ?_ ?_
        rotate_left
        · (intro w hSw; (try dsimp only at hSw); go_simp; (try with_reducible rfl))
        simp only [Act.put, List.getElem_toArray, List.getElem_cons_succ, List.getElem_cons_zero, List.setIfInBounds_toArray, List.set_cons_zero, List.set_cons_succ]
        refine wpAnyH_pure (i := 17) (v := ?_) rfl (by kernel_rfl) (by kernel_rfl) (by kernel_rfl) (fun _ _ _ h => h) (by first | rfl | (simp [Region.wanted, yielded, *]; done)) (by assumption) ?_ ?_
        rotate_left
        · (intro w hSw; (try dsimp only at hSw); go_simp; (try with_reducible rfl))
        simp only [Act.put, List.getElem_toArray, List.getElem_cons_succ, List.getElem_cons_zero, List.setIfInBounds_toArray, List.set_cons_zero, List.set_cons_succ]
        refine wpAnyH_pure (i := 18) (v := ?_) rfl (by kernel_rfl) (by kernel_rfl) (by kernel_rfl) (fun _ _ _ h => h) (by first | rfl | (simp [Region.wanted, yielded, *]; done)) (by assumption) ?_ ?_
        rotate_left
        · (intro w hSw; (try dsimp only at hSw); go_simp; (try with_reducible rfl))
        simp only [Act.put, List.getElem_toArray, List.getElem_cons_succ, List.getElem_cons_zero, List.setIfInBounds_toArray, List.set_cons_zero, List.set_cons_succ]
        refine wpAnyH_pure (i := 19) (v := ?_) rfl (by kernel_rfl) (by kernel_rfl) (by kernel_rfl) (fun _ _ _ h => h) (by first | rfl | (simp [Region.wanted, yielded, *]; done)) (by assumption) ?_ ?_
        rotate_left
        · (intro w hSw; (try dsimp only at hSw); go_simp; (try with_reducible rfl))
        simp only [Act.put, List.getElem_toArray, List.getElem_cons_succ, List.getElem_cons_zero, List.setIfInBounds_toArray, List.set_cons_zero, List.set_cons_succ]
        refine wpAnyH_pure (i := 20) (v := ?_) rfl (by kernel_rfl) (by kernel_rfl) (by kernel_rfl) (fun _ _ _ h => h) (by first | rfl | (simp [Region.wanted, yielded, *]; done)) (by assumption) ?_ ?_
        rotate_left
        · (intro w hSw; (try dsimp only at hSw); go_simp; (try with_reducible rfl))
        simp only [Act.put, List.getElem_toArray, List.getElem_cons_succ, List.getElem_cons_zero, List.setIfInBounds_toArray, List.set_cons_zero, List.set_cons_succ]
        refine wpAnyH_pure (i := 21) (v := ?_) rfl (by kernel_rfl) (by kernel_rfl) (by kernel_rfl) (fun _ _ _ h => h) (by first | rfl | (simp [Region.wanted, yielded, *]; done)) (by assumption) ?_ ?_
        rotate_left
        · (intro w hSw; (try dsimp only at hSw); go_simp; (try with_reducible rfl))
        simp only [Act.put, List.getElem_toArray, List.getElem_cons_succ, List.getElem_cons_zero, List.setIfInBounds_toArray, List.set_cons_zero, List.set_cons_succ]
        refine wpAnyH_pure (i := 22) (v := ?_) rfl (by kernel_rfl) (by kernel_rfl) (by kernel_rfl) (fun _ _ _ h => h) (by first | rfl | (simp [Region.wanted, yielded, *]; done)) (by assumption) ?_ ?_
        rotate_left
        · (intro w hSw; (try dsimp only at hSw); go_simp; (try with_reducible rfl))
        simp only [Act.put, List.getElem_toArray, List.getElem_cons_succ, List.getElem_cons_zero, List.setIfInBounds_toArray, List.set_cons_zero, List.set_cons_succ]
        refine wpAnyH_pure (i := 23) (v := ?_) rfl (by kernel_rfl) (by kernel_rfl) (by kernel_rfl) (fun _ _ _ h => h) (by first | rfl | (simp [Region.wanted, yielded, *]; done)) (by assumption) ?_ ?_
        rotate_left
        · (intro w hSw; (try dsimp only at hSw); go_simp; (try with_reducible rfl))
        simp only [Act.put, List.getElem_toArray, List.getElem_cons_succ, List.getElem_cons_zero, List.setIfInBounds_toArray, List.set_cons_zero, List.set_cons_succ]
        refine wpAnyH_pure (i := 24) (v := ?_) rfl (by kernel_rfl) (by kernel_rfl) (by kernel_rfl) (fun _ _ _ h => h) (by first | rfl | (simp [Region.wanted, yielded, *]; done)) (by assumption) ?_ ?_
        rotate_left
        · (intro w hSw; (try dsimp only at hSw); go_simp; (try with_reducible rfl))
        simp only [Act.put, List.getElem_toArray, List.getElem_cons_succ, List.getElem_cons_zero, List.setIfInBounds_toArray, List.set_cons_zero, List.set_cons_succ]
        refine wpAnyH_pure (i := 25) (v := ?_) rfl (by kernel_rfl) (by kernel_rfl) (by kernel_rfl) (fun _ _ _ h => h) (by first | rfl | (simp [Region.wanted, yielded, *]; done)) (by assumption) ?_ ?_
        rotate_left
        · (intro w hSw; (try dsimp only at hSw); go_simp; (try with_reducible rfl))
        simp only [Act.put, List.getElem_toArray, List.getElem_cons_succ, List.getElem_cons_zero, List.setIfInBounds_toArray, List.set_cons_zero, List.set_cons_succ]
        refine wpAnyH_pure (i := 26) (v := ?_) rfl (by kernel_rfl) (by kernel_rfl) (by kernel_rfl) (fun _ _ _ h => h) (by rfl) (by assumption) ?_ ?_
        rotate_left
        · (intro w hSw; (try dsimp only at hSw); go_simp; (try with_reducible rfl))
        simp only [Act.put, List.getElem_toArray, List.getElem_cons_succ, List.getElem_cons_zero, List.setIfInBounds_toArray, List.set_cons_zero, List.set_cons_succ]
        refine wpAnyH_done (by kernel_rfl) ?_ _
        go_wp2
        go_roundw
        case rel => exact ⟨k + 1, by omega, by go_num, by have := HB.out; (repeat' (first | (with_reducible exact Below.refl _ _) | (with_reducible assumption) | (with_reducible refine Below.alloc ?_ ?_ _) | (with_reducible refine Below.drew ?_) | (with_reducible refine below_drewN ?_ _) | (with_reducible refine Below.setCell ?_ ?_ _) | (with_reducible refine below_step (by with_reducible assumption) ?_ ?_) | (with_reducible exact Below.size (by with_reducible assumption)) | go_size)), by rw [heap_drew]; exact G0.out, by rw [heap_drew]; exact G1.out, by rw [heap_drew]; exact G2.out, by rw [heap_drew]; exact G3.out⟩
        case measure => simp [intOf]; omega
      · have e2 : ¬ (b : Int) ≤ (k : Int) := by omega
        have e2' : decide ((b : Int) ≤ (k : Int)) = false := decide_eq_false e2
        generalize wd Ieee.single (anP (mkT x n) k) = x1 at *
        generalize wd Ieee.single (anQ (mkT x n) k) = x2 at *
        generalize wd Ieee.single (anP (mkT y m) k) = y1 at *
        generalize wd Ieee.single (anQ (mkT y m) k) = y2 at *
        generalize wd Ieee.single (anP (mkT x n) k + anP (mkT y m) k) = z1 at *
        generalize wd Ieee.single (anQ (mkT x n) k + anQ (mkT y m) k) = z2 at *
        clear e2
        go_wp2
        refine wp_region_held_drew (S := fun w' => w'.cell? ⟨bx, k, none⟩ = some (.complex .f32 x1 x2) ∧ w'.cell? ⟨by1, k, none⟩ = some (.complex .f32 y1 y2) ∧ w'.cell? ⟨bz, k, none⟩ = some (.complex .f32 z1 z2)) (by kernel_rfl) ?_ (fun hH2 => ?_)
        · (first | assumption | (refine ⟨?_, ?_, ?_⟩ <;> assumption) | (go_keep; done) | (simp [*, go_sem]; done))
        refine wpAnyH_pure (i := 0) (v := ?_) rfl (by kernel_rfl) (by kernel_rfl) (by kernel_rfl) (fun _ _ _ h => h) (by rfl) (by assumption) ?_ ?_
        rotate_left
        · (intro w hSw; (try dsimp only at hSw); go_simp; (try with_reducible rfl))
        simp only [Act.put, List.getElem_toArray, List.getElem_cons_succ, List.getElem_cons_zero, List.setIfInBounds_toArray, List.set_cons_zero, List.set_cons_succ]
        refine wpAnyH_pure (i := 1) (v := ?_) rfl (by kernel_rfl) (by kernel_rfl) (by kernel_rfl) (fun _ _ _ h => h) (by rfl) (by assumption) ?_ ?_
        rotate_left
        · (intro w hSw; (try dsimp only at hSw); go_simp; (try with_reducible rfl))
        simp only [Act.put, List.getElem_toArray, List.getElem_cons_succ, List.getElem_cons_zero, List.setIfInBounds_toArray, List.set_cons_zero, List.set_cons_succ]
        refine wpAnyH_pure (i := 2) (v := ?_) rfl (by kernel_rfl) (by kernel_rfl) (by kernel_rfl) (fun _ _ _ h => h) (by rfl) (by assumption) ?_ ?_
        rotate_left
        · (intro w hSw; (try dsimp only at hSw); go_simp; (try with_reducible rfl))
        simp only [Act.put, List.getElem_toArray, List.getElem_cons_succ, List.getElem_cons_zero, List.setIfInBounds_toArray, List.set_cons_zero, List.set_cons_succ]
        refine wpAnyH_pure (i := 3) (v := ?_) rfl (by kernel_rfl) (by kernel_rfl) (by kernel_rfl) (fun _ _ _ h => h) (by rfl) (by assumption) ?_ ?_
        rotate_left
        · (intro w hSw; (try dsimp only at hSw); go_simp; (try with_reducible rfl))
        simp only [Act.put, List.getElem_toArray, List.getElem_cons_succ, List.getElem_cons_zero, List.setIfInBounds_toArray, List.set_cons_zero, List.set_cons_succ]
        refine wpAnyH_pure (i := 4) (v := ?_) rfl (by kernel_rfl) (by kernel_rfl) (by kernel_rfl) (fun _ _ _ h => h) (by rfl) (by assumption) ?_ ?_
        rotate_left
        · (intro w hSw; (try dsimp only at hSw); go_simp; (try with_reducible rfl))
        simp only [Act.put, List.getElem_toArray, List.getElem_cons_succ, List.getElem_cons_zero, List.setIfInBounds_toArray, List.set_cons_zero, List.set_cons_succ]
        refine wpAnyH_pure (i := 5) (v := ?_) rfl (by kernel_rfl) (by kernel_rfl) (by kernel_rfl) (fun _ _ _ h => h) (by rfl) (by assumption) ?_ ?_
        rotate_left
        · (intro w hSw; (try dsimp only at hSw); go_simp; (try with_reducible rfl))
        simp only [Act.put, List.getElem_toArray, List.getElem_cons_succ, List.getElem_cons_zero, List.setIfInBounds_toArray, List.set_cons_zero, List.set_cons_succ]
        refine wpAnyH_pure (i := 6) (v := ?_) rfl (by kernel_rfl) (by kernel_rfl) (by kernel_rfl) (fun _ _ _ h => h) (by rfl) (by assumption) ?_ ?_
        rotate_left
        · (intro w hSw; (try dsimp only at hSw); go_simp; (try with_reducible rfl))
        simp only [Act.put, List.getElem_toArray, List.getElem_cons_succ, List.getElem_cons_zero, List.setIfInBounds_toArray, List.set_cons_zero, List.set_cons_succ]
        refine wpAnyH_pure (i := 7) (v := ?_) rfl (by kernel_rfl) (by kernel_rfl) (by kernel_rfl) (fun _ _ _ h => h) (by rfl) (by assumption) ?_ ?_
        rotate_left
        · (intro w hSw; (try dsimp only at hSw); go_simp; (try with_reducible rfl))
        simp only [Act.put, List.getElem_toArray, List.getElem_cons_succ, List.getElem_cons_zero, List.setIfInBounds_toArray, List.set_cons_zero, List.set_cons_succ]
        refine wpAnyH_pure (i := 8) (v := ?_) rfl (by kernel_rfl) (by kernel_rfl) (by kernel_rfl) (fun _ _ _ h => h) (by rfl) (by assumption) ?_ ?_
        rotate_left
        · (intro w hSw; (try dsimp only at hSw); go_simp; (try with_reducible rfl))
        simp only [Act.put, List.getElem_toArray, List.getElem_cons_succ, List.getElem_cons_zero, List.setIfInBounds_toArray, List.set_cons_zero, List.set_cons_succ]
        refine wpAnyH_pure (i := 9) (v := ?_) rfl (by kernel_rfl) (by kernel_rfl) (by kernel_rfl) (fun _ _ _ h => h) (by rfl) (by assumption) ?_ ?_
        rotate_left
        · (intro w hSw; (try dsimp only at hSw); go_simp; (try with_reducible rfl))
        simp only [Act.put, List.getElem_toArray, List.getElem_cons_succ, List.getElem_cons_zero, List.setIfInBounds_toArray, List.set_cons_zero, List.set_cons_succ]
        refine wpAnyH_pure (i := 10) (v := ?_) rfl (by kernel_rfl) (by kernel_rfl) (by kernel_rfl) (fun _ _ _ h => h) (by rfl) (by assumption) ?_ ?_
        rotate_left
        · (intro w hSw; (try dsimp only at hSw); go_simp; (try with_reducible rfl))
        simp only [Act.put, List.getElem_toArray, List.getElem_cons_succ, List.getElem_cons_zero, List.setIfInBounds_toArray, List.set_cons_zero, List.set_cons_succ]
        refine wpAnyH_pure (i := 11) (v := ?_) rfl (by kernel_rfl) (by kernel_rfl) (by kernel_rfl) (fun _ _ _ h => h) (by rfl) (by assumption) ?_ ?_
        rotate_left
        · (intro w hSw; (try dsimp only at hSw); go_simp; (try with_reducible rfl))
        simp only [Act.put, List.getElem_toArray, List.getElem_cons_succ, List.getElem_cons_zero, List.setIfInBounds_toArray, List.set_cons_zero, List.set_cons_succ]
        refine wpAnyH_pure (i := 12) (v := ?_) rfl (by kernel_rfl) (by kernel_rfl) (by kernel_rfl) (fun _ _ _ h => h) (by first | rfl | (simp [Region.wanted, yielded, *]; done)) (by assumption) ?_ ?_
        rotate_left
        · (intro w hSw; (try dsimp only at hSw); go_simp; (try with_reducible rfl))
        simp only [Act.put, List.getElem_toArray, List.getElem_cons_succ, List.getElem_cons_zero, List.setIfInBounds_toArray, List.set_cons_zero, List.set_cons_succ]
        refine wpAnyH_pure (i := 13) (v := ?_) rfl (by kernel_rfl) (by kernel_rfl) (by kernel_rfl) (fun _ _ _ h => h) (by first | rfl | (simp [Region.wanted, yielded, *]; done)) (by assumption) ?_ ?_
        rotate_left
        · (intro w hSw; (try dsimp only at hSw); go_simp; (try with_reducible rfl))
        simp only [Act.put, List.getElem_toArray, List.getElem_cons_succ, List.getElem_cons_zero, List.setIfInBounds_toArray, List.set_cons_zero, List.set_cons_succ]
        refine wpAnyH_pure (i := 14) (v := ?_) rfl (by kernel_rfl) (by kernel_rfl) (by kernel_rfl) (fun _ _ _ h => h) (by first | rfl | (simp [Region.wanted, yielded, *]; done)) (by assumption) ?_ ?_
        rotate_left
        · (intro w hSw; (try dsimp only at hSw); go_simp; (try with_reducible rfl))
        simp only [Act.put, List.getElem_toArray, List.getElem_cons_succ, List.getElem_cons_zero, List.setIfInBounds_toArray, List.set_cons_zero, List.set_cons_succ]
        refine wpAnyH_pure (i := 15) (v := ?_) rfl (by kernel_rfl) (by kernel_rfl) (by kernel_rfl) (fun _ _ _ h => h) (by first | rfl | (simp [Region.wanted, yielded, *]; done)) (by assumption) ?_ ?_
        rotate_left
        · (intro w hSw; (try dsimp only at hSw); go_simp; (try with_reducible rfl))
        simp only [Act.put, List.getElem_toArray, List.getElem_cons_succ, List.getElem_cons_zero, List.setIfInBounds_toArray, List.set_cons_zero, List.set_cons_succ]
        refine wpAnyH_skip (i := 16) rfl (by kernel_rfl) (by kernel_rfl) (by kernel_rfl) (fun _ _ _ h => h) (by first | rfl | (simp [Region.wanted, yielded, *]; done)) (by assumption) ?_
        simp only [Act.put, List.getElem_toArray, List.getElem_cons_succ, List.getElem_cons_zero, List.setIfInBounds_toArray, List.set_cons_zero, List.set_cons_succ]
        refine wpAnyH_skip (i := 17) rfl (by kernel_rfl) (by kernel_rfl) (by kernel_rfl) (fun _ _ _ h => h) (by first | rfl | (simp [Region.wanted, yielded, *]; done)) (by assumption) ?_
        simp only [Act.put, List.getElem_toArray, List.getElem_cons_succ, List.getElem_cons_zero, List.setIfInBounds_toArray, List.set_cons_zero, List.set_cons_succ]
        refine wpAnyH_skip (i := 18) rfl (by kernel_rfl) (by kernel_rfl) (by kernel_rfl) (fun _ _ _ h => h) (by first | rfl | (simp [Region.wanted, yielded, *]; done)) (by assumption) ?_
        simp only [Act.put, List.getElem_toArray, List.getElem_cons_succ, List.getElem_cons_zero, List.setIfInBounds_toArray, List.set_cons_zero, List.set_cons_succ]
        refine wpAnyH_skip (i := 19) rfl (by kernel_rfl) (by kernel_rfl) (by kernel_rfl) (fun _ _ _ h => h) (by first | rfl | (simp [Region.wanted, yielded, *]; done)) (by assumption) ?_
        simp only [Act.put, List.getElem_toArray, List.getElem_cons_succ, List.getElem_cons_zero, List.setIfInBounds_toArray, List.set_cons_zero, List.set_cons_succ]
        refine wpAnyH_skip (i := 20) rfl (by kernel_rfl) (by kernel_rfl) (by kernel_rfl) (fun _ _ _ h => h) (by first | rfl | (simp [Region.wanted, yielded, *]; done)) (by assumption) ?_
        simp only [Act.put, List.getElem_toArray, List.getElem_cons_succ, List.getElem_cons_zero, List.setIfInBounds_toArray, List.set_cons_zero, List.set_cons_succ]
        refine wpAnyH_skip (i := 21) rfl (by kernel_rfl) (by kernel_rfl) (by kernel_rfl) (fun _ _ _ h => h) (by first | rfl | (simp [Region.wanted, yielded, *]; done)) (by assumption) ?_
        simp only [Act.put, List.getElem_toArray, List.getElem_cons_succ, List.getElem_cons_zero, List.setIfInBounds_toArray, List.set_cons_zero, List.set_cons_succ]
        refine wpAnyH_skip (i := 22) rfl (by kernel_rfl) (by kernel_rfl) (by kernel_rfl) (fun _ _ _ h => h) (by first | rfl | (simp [Region.wanted, yielded, *]; done)) (by assumption) ?_
        simp only [Act.put, List.getElem_toArray, List.getElem_cons_succ, List.getElem_cons_zero, List.setIfInBounds_toArray, List.set_cons_zero, List.set_cons_succ]
        refine wpAnyH_skip (i := 23) rfl (by kernel_rfl) (by kernel_rfl) (by kernel_rfl) (fun _ _ _ h => h) (by first | rfl | (simp [Region.wanted, yielded, *]; done)) (by assumption) ?_
        simp only [Act.put, List.getElem_toArray, List.getElem_cons_succ, List.getElem_cons_zero, List.setIfInBounds_toArray, List.set_cons_zero, List.set_cons_succ]
        refine wpAnyH_skip (i := 24) rfl (by kernel_rfl) (by kernel_rfl) (by kernel_rfl) (fun _ _ _ h => h) (by first | rfl | (simp [Region.wanted, yielded, *]; done)) (by assumption) ?_
        simp only [Act.put, List.getElem_toArray, List.getElem_cons_succ, List.getElem_cons_zero, List.setIfInBounds_toArray, List.set_cons_zero, List.set_cons_succ]
        refine wpAnyH_pure (i := 25) (v := ?_) rfl (by kernel_rfl) (by kernel_rfl) (by kernel_rfl) (fun _ _ _ h => h) (by first | rfl | (simp [Region.wanted, yielded, *]; done)) (by assumption) ?_ ?_
        rotate_left
        · (intro w hSw; (try dsimp only at hSw); go_simp; (try with_reducible rfl))
        simp only [Act.put, List.getElem_toArray, List.getElem_cons_succ, List.getElem_cons_zero, List.setIfInBounds_toArray, List.set_cons_zero, List.set_cons_succ]
        refine wpAnyH_pure (i := 26) (v := ?_) rfl (by kernel_rfl) (by kernel_rfl) (by kernel_rfl) (fun _ _ _ h => h) (by rfl) (by assumption) ?_ ?_
        rotate_left
        · (intro w hSw; (try dsimp only at hSw); go_simp; (try with_reducible rfl))
        simp only [Act.put, List.getElem_toArray, List.getElem_cons_succ, List.getElem_cons_zero, List.setIfInBounds_toArray, List.set_cons_zero, List.set_cons_succ]
        refine wpAnyH_done (by kernel_rfl) ?_ _
        go_wp2
        go_roundw
        case rel => exact ⟨k + 1, by omega, by go_num, by have := HB.out; (repeat' (first | (with_reducible exact Below.refl _ _) | (with_reducible assumption) | (with_reducible refine Below.alloc ?_ ?_ _) | (with_reducible refine Below.drew ?_) | (with_reducible refine below_drewN ?_ _) | (with_reducible refine Below.setCell ?_ ?_ _) | (with_reducible refine below_step (by with_reducible assumption) ?_ ?_) | (with_reducible exact Below.size (by with_reducible assumption)) | go_size)), by rw [heap_drew]; exact G0.out, by rw [heap_drew]; exact G1.out, by rw [heap_drew]; exact G2.out, by rw [heap_drew]; exact G3.out⟩
        case measure => simp [intOf]; omega
    · obtain rfl : k = 61 := by omega
      go_wp2
      go_ret
      exact ⟨rfl, HB.out⟩
end Go.Proofs.Ythgnemkfaiejbaa
