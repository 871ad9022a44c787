/-
  GATES OF TIMES: Nearest, GateOf (its errors).
-/
import Derived.Test.YthgnemkfaiejbaaTTime
set_option linter.unusedVariables false
set_option linter.unusedSimpArgs false
namespace Go.Proofs.Ythgnemkfaiejbaa
open Go.RowKit

def neE (f s t : Int) : Int := frst [smE f s, unl (inB t (-1000000000000) 1000000000000) 2]
def neN (f s t : Int) : Int := (2 * (t - f) + s) / (2 * s)
set_option maxRecDepth 100000 in
set_option maxHeartbeats 1000000 in
theorem nearest_err (f s n : Int) (w : World) (h : neE f s n ≠ 0) : Calls Try.prog 73 #[.agg #[.int .i64 f, .int .i64 s], .int .i64 n] w fun e w' => e = .returned (.tuple #[.int .i64 0, .int .i64 (neE f s n)]) ∧ Below w.heap.size w w' := by
  have HE := Lib.hid (show neE f s n = frst [smE f s, unl (inB n (-1000000000000) 1000000000000) 2] from rfl)
  have hT : (neE f s n != 0) = true := by simpa using h
  generalize neE f s n = T at *
  have K := Lib.hid (fun W => checkSampling_any f s W)
  generalize smE f s = M at *
  go_enter Try.func73, Try.ntmps73
  go_wp2_with fail
  go_wp2_with fail; (refine (K.out _).mono ?_; rintro e w1 ⟨rfl, hw1⟩; obtain ⟨hcw1, hfw1, hlw1, hmw1, hnw1⟩ := bcell3 hw1; have hzw1 := hw1.size; (try simp only [World.size_alloc, World.size_setCell, World.size_drew, size_drewN] at hzw1))
  have cg1_0 : w1.cell? ⟨w.heap.size, 0, none⟩ = some (.int .i64 (f)) := (hcw1 (w.heap.size) (0) (by first | omega | (simp only [World.size_alloc, World.size_drew, World.size_setCell, size_drewN]; omega))).trans (by first | assumption | (simp [go_sem, *]; done)); have cg1_1 : w1.cell? ⟨w.heap.size, 1, none⟩ = some (.int .i64 (s)) := (hcw1 (w.heap.size) (1) (by first | omega | (simp only [World.size_alloc, World.size_drew, World.size_setCell, size_drewN]; omega))).trans (by first | assumption | (simp [go_sem, *]; done)); have og1 : w.heap.size < w1.heap.size := (by omega)
  go_wp2_with (first | (go_at_call 98; refine (rangeError_any _ _ _ _).mono ?_; rintro e w' ⟨rfl, rfl⟩) | (go_at_call 99; fail))
  refine (first2 M (unl (inB n (-1000000000000) 1000000000000) 2) _ _ (by simp [go_sem]) (by simp [go_sem])).mono ?_
  rintro e w' ⟨rfl, rfl⟩
  rw [← HE.out]
  go_wp2
  go_ret2
  exact ⟨rfl, by (repeat' (first | (with_reducible exact Below.refl _ _) | (with_reducible assumption) | (with_reducible refine Below.alloc ?_ ?_ _) | (with_reducible refine Below.drew ?_) | (with_reducible refine below_drewN ?_ _) | (with_reducible refine Below.setCell ?_ ?_ _) | (with_reducible refine below_step (by with_reducible assumption) ?_ ?_) | (with_reducible exact Below.size (by with_reducible assumption)) | go_size))⟩
set_option maxRecDepth 100000 in
set_option maxHeartbeats 1000000 in
theorem nearest_ok (f s n : Int) (w : World) (h : neE f s n = 0) : Calls Try.prog 73 #[.agg #[.int .i64 f, .int .i64 s], .int .i64 n] w fun e w' => e = .returned (.tuple (if inB (neN f s n) 0 63 = true then #[.int .i64 (neN f s n), .int .i64 0] else #[.int .i64 0, .int .i64 12])) ∧ Below w.heap.size w w' := by
  have h0 := frst2_eq0 (show frst [smE f s, unl (inB n (-1000000000000) 1000000000000) 2] = 0 from h)
  obtain ⟨⟨f0, f1⟩, s0, s1⟩ := smE_ok h0.1
  obtain ⟨n0, n1⟩ := inB_ok (by decide) h0.2
  have HE := Lib.hid (show 0 = frst [smE f s, unl (inB n (-1000000000000) 1000000000000) 2] from h.symm)
  have K := Lib.hid (fun W => checkSampling_any f s W)
  have KR := Lib.hid (fun W => brounded_any (n - f) s W (by omega) (by omega) (by omega) (by omega))
  have HN := Lib.hid (show neN f s n = (2 * (n - f) + s) / (2 * s) from rfl)
  clear h h0
  generalize smE f s = M at *
  generalize neN f s n = N at *
  rcases hb : inB N 0 63 with _ | _
  all_goals
    go_enter Try.func73, Try.ntmps73
    go_wp2_with fail
    go_wp2_with fail; (refine (K.out _).mono ?_; rintro e w1 ⟨rfl, hw1⟩; obtain ⟨hcw1, hfw1, hlw1, hmw1, hnw1⟩ := bcell3 hw1; have hzw1 := hw1.size; (try simp only [World.size_alloc, World.size_setCell, World.size_drew, size_drewN] at hzw1))
    have cg1_0 : w1.cell? ⟨w.heap.size, 0, none⟩ = some (.int .i64 (f)) := (hcw1 (w.heap.size) (0) (by first | omega | (simp only [World.size_alloc, World.size_drew, World.size_setCell, size_drewN]; omega))).trans (by first | assumption | (simp [go_sem, *]; done)); have cg1_1 : w1.cell? ⟨w.heap.size, 1, none⟩ = some (.int .i64 (s)) := (hcw1 (w.heap.size) (1) (by first | omega | (simp only [World.size_alloc, World.size_drew, World.size_setCell, size_drewN]; omega))).trans (by first | assumption | (simp [go_sem, *]; done)); have og1 : w.heap.size < w1.heap.size := (by omega)
    go_wp2_with (first | (go_at_call 98; refine (rangeError_any _ _ _ _).mono ?_; rintro e w' ⟨rfl, rfl⟩) | (go_at_call 99; fail))
    refine (first2 M (unl (inB n (-1000000000000) 1000000000000) 2) _ _ (by simp [go_sem]) (by simp [go_sem])).mono ?_
    rintro e w' ⟨rfl, rfl⟩
    rw [← HE.out]
    go_wp2_with fail
    refine (KR.out _).mono ?_
    rintro e w' ⟨rfl, rfl⟩
    rw [← HN.out]
    go_wp2_with (go_at_call 130; refine (isSample_any _ _).mono ?_; rintro e w' ⟨rfl, rfl⟩)
    go_ret2
    exact ⟨by simp, by (repeat' (first | (with_reducible exact Below.refl _ _) | (with_reducible assumption) | (with_reducible refine Below.alloc ?_ ?_ _) | (with_reducible refine Below.drew ?_) | (with_reducible refine below_drewN ?_ _) | (with_reducible refine Below.setCell ?_ ?_ _) | (with_reducible refine below_step (by with_reducible assumption) ?_ ?_) | (with_reducible exact Below.size (by with_reducible assumption)) | go_size))⟩
def goE (f s lo hi : Int) : Int := frst [smE f s, unl (inB lo (-1000000000000) 1000000000000) 2, unl (inB hi (-1000000000000) 1000000000000) 2, unl (decide (lo ≤ hi)) 9]
set_option maxRecDepth 100000 in
set_option maxHeartbeats 1000000 in
theorem gateOf_err (f s lo hi : Int) (w : World) (h : goE f s lo hi ≠ 0) : Calls Try.prog 74 #[.agg #[.int .i64 f, .int .i64 s], .agg #[.int .i64 lo, .int .i64 hi]] w fun e w' => e = .returned (.tuple #[.agg #[.int .i64 0, .int .i64 0], .int .i64 (goE f s lo hi)]) ∧ Below w.heap.size w w' := by
  have HE := Lib.hid (show goE f s lo hi = frst [smE f s, edE lo hi (-1000000000000) 1000000000000] from (frst_flat _ _ _ _).symm)
  have KE := Lib.hid (fun W => endsError_any lo hi (-1000000000000) 1000000000000 W)
  generalize edE lo hi (-1000000000000) 1000000000000 = D at *
  have hT : (goE f s lo hi != 0) = true := by simpa using h
  generalize goE f s lo hi = T at *
  have K := Lib.hid (fun W => checkSampling_any f s W)
  generalize smE f s = M at *
  go_enter Try.func74, Try.ntmps74
  go_wp2
  refine wp_region_held_drew (S := fun w' => w'.cell? ⟨w.heap.size, 0, none⟩ = some (.int .i64 (f)) ∧ w'.cell? ⟨w.heap.size, 1, none⟩ = some (.int .i64 (s)) ∧ w'.cell? ⟨w.heap.size + 1, 0, none⟩ = some (.int .i64 (lo)) ∧ w'.cell? ⟨w.heap.size + 1, 1, none⟩ = some (.int .i64 (hi))) (by kernel_rfl) ?_ (fun hH1 => ?_)
  · (first | assumption | (refine ⟨?_, ?_, ?_, ?_⟩ <;> assumption) | (go_keep; done) | (simp [*, go_sem]; done))
  refine wpAnyH_pure (i := 0) (v := ?_) rfl (by kernel_rfl) (by kernel_rfl) (by kernel_rfl) (fun _ _ _ h => h) (by rfl) (by assumption) ?_ ?_
  rotate_left
  · (intro w hSw; (try dsimp only at hSw); go_simp; (try with_reducible rfl))
  simp only [Act.put, List.getElem_toArray, List.getElem_cons_succ, List.getElem_cons_zero, List.setIfInBounds_toArray, List.set_cons_zero, List.set_cons_succ]
  refine wpAnyH_pure (i := 2) (v := ?_) rfl (by kernel_rfl) (by kernel_rfl) (by kernel_rfl) (fun _ _ _ h => h) (by rfl) (by assumption) ?_ ?_
  rotate_left
  · (intro w hSw; (try dsimp only at hSw); go_simp; (try with_reducible rfl))
  simp only [Act.put, List.getElem_toArray, List.getElem_cons_succ, List.getElem_cons_zero, List.setIfInBounds_toArray, List.set_cons_zero, List.set_cons_succ]
  refine wpAnyH_ready (rs := [1]) (by kernel_rfl) (by simp) ?_
  refine AllReadyH.cons rfl (fun Kq hKq => ?_) AllReadyH.nil
  go_simp
  refine (K.out _).mono ?_
  (rintro e w1 ⟨rfl, hw1⟩)
  obtain ⟨hcw1, hfw1, hlw1, hmw1, hnw1⟩ := bcell3 hw1
  have hzw1 := hw1.size
  (try simp only [World.size_alloc, World.size_setCell, World.size_drew, size_drewN] at hzw1)
  have cg1_0 : w1.cell? ⟨w.heap.size, 0, none⟩ = some (.int .i64 (f)) := (hcw1 (w.heap.size) (0) (by first | omega | (simp only [World.size_alloc, World.size_drew, World.size_setCell, size_drewN]; omega))).trans (by first | assumption | (simp [go_sem, *]; done)); have cg1_1 : w1.cell? ⟨w.heap.size, 1, none⟩ = some (.int .i64 (s)) := (hcw1 (w.heap.size) (1) (by first | omega | (simp only [World.size_alloc, World.size_drew, World.size_setCell, size_drewN]; omega))).trans (by first | assumption | (simp [go_sem, *]; done)); have og1 : w.heap.size < w1.heap.size := (by omega)
  have ct1_0 : w1.cell? ⟨w.heap.size + 1, 0, none⟩ = some (.int .i64 (lo)) := (hcw1 (w.heap.size + 1) (0) (by first | omega | (simp only [World.size_alloc, World.size_drew, World.size_setCell, size_drewN]; omega))).trans (by first | assumption | (simp [go_sem, *]; done)); have ct1_1 : w1.cell? ⟨w.heap.size + 1, 1, none⟩ = some (.int .i64 (hi)) := (hcw1 (w.heap.size + 1) (1) (by first | omega | (simp only [World.size_alloc, World.size_drew, World.size_setCell, size_drewN]; omega))).trans (by first | assumption | (simp [go_sem, *]; done)); have ot1 : w.heap.size + 1 < w1.heap.size := (by omega)
  have crz1_0 : w1.cell? ⟨w.heap.size + 1 + 1, 0, none⟩ = some (.int .i64 (0)) := (hcw1 (w.heap.size + 1 + 1) (0) (by first | omega | (simp only [World.size_alloc, World.size_drew, World.size_setCell, size_drewN]; omega))).trans (by first | assumption | (simp [go_sem, *]; done)); have crz1_1 : w1.cell? ⟨w.heap.size + 1 + 1, 1, none⟩ = some (.int .i64 (0)) := (hcw1 (w.heap.size + 1 + 1) (1) (by first | omega | (simp only [World.size_alloc, World.size_drew, World.size_setCell, size_drewN]; omega))).trans (by first | assumption | (simp [go_sem, *]; done)); have orz1 : w.heap.size + 1 + 1 < w1.heap.size := (by omega)
  have prz1_0 : w1.frozen? ⟨w.heap.size + 1 + 1, 0, none⟩ = false := (hfw1 (w.heap.size + 1 + 1) (0) (by first | omega | (simp only [World.size_alloc, World.size_drew, World.size_setCell, size_drewN]; omega))).trans (by first | assumption | (simp [go_sem, *]; done)); have prz1_1 : w1.frozen? ⟨w.heap.size + 1 + 1, 1, none⟩ = false := (hfw1 (w.heap.size + 1 + 1) (1) (by first | omega | (simp only [World.size_alloc, World.size_drew, World.size_setCell, size_drewN]; omega))).trans (by first | assumption | (simp [go_sem, *]; done))
  refine hKq.out _ _ ?_ (fun hH2 => ?_)
  · (first | assumption | (refine ⟨?_, ?_, ?_, ?_⟩ <;> assumption) | (go_keep; done) | (simp [*, go_sem]; done))
  clear hKq Kq
  clear hH1
  refine wpAnyH_ready (rs := [3]) (by kernel_rfl) (by simp) ?_
  refine AllReadyH.cons rfl (fun Kq hKq => ?_) AllReadyH.nil
  go_simp
  refine (KE.out _).mono ?_
  (rintro e w2 ⟨rfl, hw2⟩)
  obtain ⟨hcw2, hfw2, hlw2, hmw2, hnw2⟩ := bcell3 hw2
  have hzw2 := hw2.size
  (try simp only [World.size_alloc, World.size_setCell, World.size_drew, size_drewN] at hzw2)
  have cg2_0 : w2.cell? ⟨w.heap.size, 0, none⟩ = some (.int .i64 (f)) := (hcw2 (w.heap.size) (0) (by first | omega | (simp only [World.size_alloc, World.size_drew, World.size_setCell, size_drewN]; omega))).trans (by first | assumption | (simp [go_sem, *]; done)); have cg2_1 : w2.cell? ⟨w.heap.size, 1, none⟩ = some (.int .i64 (s)) := (hcw2 (w.heap.size) (1) (by first | omega | (simp only [World.size_alloc, World.size_drew, World.size_setCell, size_drewN]; omega))).trans (by first | assumption | (simp [go_sem, *]; done)); have og2 : w.heap.size < w2.heap.size := (by omega)
  clear cg1_0 cg1_1
  have ct2_0 : w2.cell? ⟨w.heap.size + 1, 0, none⟩ = some (.int .i64 (lo)) := (hcw2 (w.heap.size + 1) (0) (by first | omega | (simp only [World.size_alloc, World.size_drew, World.size_setCell, size_drewN]; omega))).trans (by first | assumption | (simp [go_sem, *]; done)); have ct2_1 : w2.cell? ⟨w.heap.size + 1, 1, none⟩ = some (.int .i64 (hi)) := (hcw2 (w.heap.size + 1) (1) (by first | omega | (simp only [World.size_alloc, World.size_drew, World.size_setCell, size_drewN]; omega))).trans (by first | assumption | (simp [go_sem, *]; done)); have ot2 : w.heap.size + 1 < w2.heap.size := (by omega)
  clear ct1_0 ct1_1
  have crz2_0 : w2.cell? ⟨w.heap.size + 1 + 1, 0, none⟩ = some (.int .i64 (0)) := (hcw2 (w.heap.size + 1 + 1) (0) (by first | omega | (simp only [World.size_alloc, World.size_drew, World.size_setCell, size_drewN]; omega))).trans (by first | assumption | (simp [go_sem, *]; done)); have crz2_1 : w2.cell? ⟨w.heap.size + 1 + 1, 1, none⟩ = some (.int .i64 (0)) := (hcw2 (w.heap.size + 1 + 1) (1) (by first | omega | (simp only [World.size_alloc, World.size_drew, World.size_setCell, size_drewN]; omega))).trans (by first | assumption | (simp [go_sem, *]; done)); have orz2 : w.heap.size + 1 + 1 < w2.heap.size := (by omega)
  have prz2_0 : w2.frozen? ⟨w.heap.size + 1 + 1, 0, none⟩ = false := (hfw2 (w.heap.size + 1 + 1) (0) (by first | omega | (simp only [World.size_alloc, World.size_drew, World.size_setCell, size_drewN]; omega))).trans (by first | assumption | (simp [go_sem, *]; done)); have prz2_1 : w2.frozen? ⟨w.heap.size + 1 + 1, 1, none⟩ = false := (hfw2 (w.heap.size + 1 + 1) (1) (by first | omega | (simp only [World.size_alloc, World.size_drew, World.size_setCell, size_drewN]; omega))).trans (by first | assumption | (simp [go_sem, *]; done))
  clear crz1_0 crz1_1 prz1_0 prz1_1
  refine hKq.out _ _ ?_ (fun hH3 => ?_)
  · (first | assumption | (refine ⟨?_, ?_, ?_, ?_⟩ <;> assumption) | (go_keep; done) | (simp [*, go_sem]; done))
  clear hKq Kq
  clear hH2
  refine wpAnyH_ready (rs := [4]) (by kernel_rfl) (by simp) ?_
  refine AllReadyH.cons rfl (fun Kq hKq => ?_) AllReadyH.nil
  go_simp
  refine hKq.out _ _ ?_ (fun hH4 => ?_)
  · (first | assumption | (refine ⟨?_, ?_, ?_, ?_⟩ <;> assumption) | (go_keep; done) | (simp [*, go_sem]; done))
  clear hKq Kq
  clear hH3
  refine wpAnyH_ready (rs := [5]) (by kernel_rfl) (by simp) ?_
  refine AllReadyH.cons rfl (fun Kq hKq => ?_) AllReadyH.nil
  go_simp
  apply Calls.mono
  focus ((apply first2 <;> exact cell_fresh _ _ _ _ _ _ (by first | rfl | simp) rfl); done)
  (rintro e w' ⟨rfl, rfl⟩)
  refine hKq.out _ _ ?_ (fun hH5 => ?_)
  · (first | assumption | (refine ⟨?_, ?_, ?_, ?_⟩ <;> assumption) | (go_keep; done) | (simp [*, go_sem]; done))
  clear hKq Kq
  clear hH4
  refine wpAnyH_pure (i := 6) (v := ?_) rfl (by kernel_rfl) (by kernel_rfl) (by kernel_rfl) (fun _ _ _ h => h) (by rfl) (by assumption) ?_ ?_
  rotate_left
  · (intro w hSw; (try dsimp only at hSw); go_simp; (try with_reducible rfl))
  simp only [Act.put, List.getElem_toArray, List.getElem_cons_succ, List.getElem_cons_zero, List.setIfInBounds_toArray, List.set_cons_zero, List.set_cons_succ]
  refine wpAnyH_done (by kernel_rfl) ?_ _
  rw [← HE.out]
  go_wp2
  refine bodyPost_ret (by simp [results, Try.results74, go_sem, *]; rfl) rfl ?_
  exact ⟨rfl, by (repeat' (first | (with_reducible exact Below.refl _ _) | (with_reducible assumption) | (with_reducible refine Below.alloc ?_ ?_ _) | (with_reducible refine Below.drew ?_) | (with_reducible refine below_drewN ?_ _) | (with_reducible refine Below.setCell ?_ ?_ _) | (with_reducible refine below_step (by with_reducible assumption) ?_ ?_) | (with_reducible exact Below.size (by with_reducible assumption)) | go_size))⟩
end Go.Proofs.Ythgnemkfaiejbaa
