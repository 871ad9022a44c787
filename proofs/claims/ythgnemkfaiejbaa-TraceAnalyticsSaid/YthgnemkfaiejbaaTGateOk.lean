/-
  GATES OF TIMES: GateOf where it has no error of its arguments.
-/
import Derived.Test.YthgnemkfaiejbaaTGate
import Derived.Test.YthgnemkfaiejbaaTReg
set_option linter.unusedVariables false
set_option linter.unusedSimpArgs false
namespace Go.Proofs.Ythgnemkfaiejbaa
open Go.RowKit

theorem du_bel (n b : Int) (w : World) (hb : 1 ≤ b) (lo : -9223372036854775807 ≤ n) (hi : n ≤ 9223372036854775807) (hb2 : b ≤ 9223372036854775807) :
    Calls Try.prog 145 #[.int .i64 n, .int .i64 b] w fun e w' => e = .returned (.int .i64 (cdiv n b)) ∧ Below w.heap.size w w' :=
  (du_any n b w hb lo hi hb2).mono fun e w' h => ⟨h.1, h.2 ▸ Below.refl _ _⟩
theorem dd_bel (n b : Int) (w : World) (hb : 1 ≤ b) (lo : -9223372036854775807 ≤ n) (hi : n ≤ 9223372036854775807) (hb2 : b ≤ 9223372036854775807) :
    Calls Try.prog 146 #[.int .i64 n, .int .i64 b] w fun e w' => e = .returned (.int .i64 (n / b)) ∧ Below w.heap.size w w' :=
  (dd_any n b w hb lo hi hb2).mono fun e w' h => ⟨h.1, h.2 ▸ Below.refl _ _⟩
theorem frst4_eq0 {a b c d : Int} (h : frst [a, b, c, d] = 0) : a = 0 ∧ b = 0 ∧ c = 0 ∧ d = 0 := by
  unfold frst at h
  simp only [frst] at h
  repeat' split at h
  all_goals simp_all
set_option maxRecDepth 100000 in
set_option maxHeartbeats 2000000 in
theorem gateOf_ok (f s lo hi : Int) (w : World) (h : goE f s lo hi = 0) : Calls Try.prog 74 #[.agg #[.int .i64 f, .int .i64 s], .agg #[.int .i64 lo, .int .i64 hi]] w fun e w' => e = .returned (.tuple (if max 0 (cdiv (lo - f) s) ≤ min 60 ((hi - f) / s) then #[.agg #[.int .i64 (max 0 (cdiv (lo - f) s)), .int .i64 (min 60 ((hi - f) / s))], .int .i64 0] else #[.agg #[.int .i64 0, .int .i64 0], .int .i64 12])) ∧ Below w.heap.size w w' := by
  have h0 := frst4_eq0 (show frst [smE f s, unl (inB lo (-1000000000000) 1000000000000) 2, unl (inB hi (-1000000000000) 1000000000000) 2, unl (decide (lo ≤ hi)) 9] = 0 from h)
  obtain ⟨⟨f0, f1⟩, s0, s1⟩ := smE_ok h0.1
  obtain ⟨l0, l1⟩ := inB_ok (by decide) h0.2.1
  obtain ⟨u0, u1⟩ := inB_ok (by decide) h0.2.2.1
  have HE := Lib.hid (show 0 = frst [smE f s, edE lo hi (-1000000000000) 1000000000000] from h.symm.trans (frst_flat _ _ _ _).symm)
  have KE := Lib.hid (fun W => endsError_any lo hi (-1000000000000) 1000000000000 W)
  have K := Lib.hid (fun W => checkSampling_any f s W)
  have K1 := Lib.hid (fun W => du_bel (lo - f) s W (by omega) (by omega) (by omega) (by omega))
  have K2 := Lib.hid (fun W => dd_bel (hi - f) s W (by omega) (by omega) (by omega) (by omega))
  have wr1 : IntKind.i64.wrap (lo - f) = lo - f := IntWalk.i64_in _ (by omega)
  have wr2 : IntKind.i64.wrap (hi - f) = hi - f := IntWalk.i64_in _ (by omega)
  clear h h0 f0 f1 s0 s1 l0 l1 u0 u1
  generalize smE f s = M at *
  generalize edE lo hi (-1000000000000) 1000000000000 = D at *
  generalize cdiv (lo - f) s = A at *
  generalize (hi - f) / s = B at *
  go_enter Try.func74, Try.ntmps74
  go_wp2
  refine wp_region_held_drew (S := fun w' => w'.cell? ⟨w.heap.size, 0, none⟩ = some (.int .i64 (f)) ∧ w'.cell? ⟨w.heap.size, 1, none⟩ = some (.int .i64 (s)) ∧ w'.cell? ⟨w.heap.size + 1, 0, none⟩ = some (.int .i64 (lo)) ∧ w'.cell? ⟨w.heap.size + 1, 1, none⟩ = some (.int .i64 (hi))) (by kernel_rfl) ?_ (fun hH1 => ?_)
  · (first | assumption | (refine ⟨?_, ?_, ?_, ?_⟩ <;> assumption) | (go_keep; done) | (simp [*, go_sem]; done))
  refine wpAnyH_pure (i := 0) (v := ?_) rfl (by kernel_rfl) (by kernel_rfl) (by kernel_rfl) (fun _ _ _ h => h) (by rfl) (by assumption) ?_ ?_
  rotate_left
  · (intro w hSw; (try dsimp only at hSw); go_simp; (try with_reducible rfl))
  simp only [Act.put, List.getElem_toArray, List.getElem_cons_succ, List.getElem_cons_zero, List.setIfInBounds_toArray, List.set_cons_zero, List.set_cons_succ]
  refine wpAnyH_pure (i := 2) (v := ?_) rfl (by kernel_rfl) (by kernel_rfl) (by kernel_rfl) (fun _ _ _ h => h) (by rfl) (by assumption) ?_ ?_
  rotate_left
  · (intro w hSw; (try dsimp only at hSw); go_simp; (try with_reducible rfl))
  simp only [Act.put, List.getElem_toArray, List.getElem_cons_succ, List.getElem_cons_zero, List.setIfInBounds_toArray, List.set_cons_zero, List.set_cons_succ]
  refine wpAnyH_ready (rs := [1]) (by kernel_rfl) (by simp) ?_
  refine AllReadyH.cons rfl (fun Kq hKq => ?_) AllReadyH.nil
  go_simp
  refine (K.out _).mono ?_
  (rintro e w1 ⟨rfl, hw1⟩)
  obtain ⟨hcw1, hfw1, hlw1, hmw1, hnw1⟩ := bcell3 hw1
  have hzw1 := hw1.size
  (try simp only [World.size_alloc, World.size_setCell, World.size_drew, size_drewN] at hzw1)
  have cg1_0 : w1.cell? ⟨w.heap.size, 0, none⟩ = some (.int .i64 (f)) := (hcw1 (w.heap.size) (0) (by first | omega | (simp only [World.size_alloc, World.size_drew, World.size_setCell, size_drewN]; omega))).trans (by first | assumption | (simp [go_sem, *]; done)); have cg1_1 : w1.cell? ⟨w.heap.size, 1, none⟩ = some (.int .i64 (s)) := (hcw1 (w.heap.size) (1) (by first | omega | (simp only [World.size_alloc, World.size_drew, World.size_setCell, size_drewN]; omega))).trans (by first | assumption | (simp [go_sem, *]; done)); have og1 : w.heap.size < w1.heap.size := (by omega)
  have ct1_0 : w1.cell? ⟨w.heap.size + 1, 0, none⟩ = some (.int .i64 (lo)) := (hcw1 (w.heap.size + 1) (0) (by first | omega | (simp only [World.size_alloc, World.size_drew, World.size_setCell, size_drewN]; omega))).trans (by first | assumption | (simp [go_sem, *]; done)); have ct1_1 : w1.cell? ⟨w.heap.size + 1, 1, none⟩ = some (.int .i64 (hi)) := (hcw1 (w.heap.size + 1) (1) (by first | omega | (simp only [World.size_alloc, World.size_drew, World.size_setCell, size_drewN]; omega))).trans (by first | assumption | (simp [go_sem, *]; done)); have ot1 : w.heap.size + 1 < w1.heap.size := (by omega)
  have crz1_0 : w1.cell? ⟨w.heap.size + 1 + 1, 0, none⟩ = some (.int .i64 (0)) := (hcw1 (w.heap.size + 1 + 1) (0) (by first | omega | (simp only [World.size_alloc, World.size_drew, World.size_setCell, size_drewN]; omega))).trans (by first | assumption | (simp [go_sem, *]; done)); have crz1_1 : w1.cell? ⟨w.heap.size + 1 + 1, 1, none⟩ = some (.int .i64 (0)) := (hcw1 (w.heap.size + 1 + 1) (1) (by first | omega | (simp only [World.size_alloc, World.size_drew, World.size_setCell, size_drewN]; omega))).trans (by first | assumption | (simp [go_sem, *]; done)); have orz1 : w.heap.size + 1 + 1 < w1.heap.size := (by omega)
  have prz1_0 : w1.frozen? ⟨w.heap.size + 1 + 1, 0, none⟩ = false := (hfw1 (w.heap.size + 1 + 1) (0) (by first | omega | (simp only [World.size_alloc, World.size_drew, World.size_setCell, size_drewN]; omega))).trans (by first | assumption | (simp [go_sem, *]; done)); have prz1_1 : w1.frozen? ⟨w.heap.size + 1 + 1, 1, none⟩ = false := (hfw1 (w.heap.size + 1 + 1) (1) (by first | omega | (simp only [World.size_alloc, World.size_drew, World.size_setCell, size_drewN]; omega))).trans (by first | assumption | (simp [go_sem, *]; done))
  refine hKq.out _ _ ?_ (fun hH2 => ?_)
  · (first | assumption | (refine ⟨?_, ?_, ?_, ?_⟩ <;> assumption) | (go_keep; done) | (simp [*, go_sem]; done))
  clear hKq Kq
  clear hH1
  refine wpAnyH_ready (rs := [3]) (by kernel_rfl) (by simp) ?_
  refine AllReadyH.cons rfl (fun Kq hKq => ?_) AllReadyH.nil
  go_simp
  refine (KE.out _).mono ?_
  (rintro e w2 ⟨rfl, hw2⟩)
  obtain ⟨hcw2, hfw2, hlw2, hmw2, hnw2⟩ := bcell3 hw2
  have hzw2 := hw2.size
  (try simp only [World.size_alloc, World.size_setCell, World.size_drew, size_drewN] at hzw2)
  have cg2_0 : w2.cell? ⟨w.heap.size, 0, none⟩ = some (.int .i64 (f)) := (hcw2 (w.heap.size) (0) (by first | omega | (simp only [World.size_alloc, World.size_drew, World.size_setCell, size_drewN]; omega))).trans (by first | assumption | (simp [go_sem, *]; done)); have cg2_1 : w2.cell? ⟨w.heap.size, 1, none⟩ = some (.int .i64 (s)) := (hcw2 (w.heap.size) (1) (by first | omega | (simp only [World.size_alloc, World.size_drew, World.size_setCell, size_drewN]; omega))).trans (by first | assumption | (simp [go_sem, *]; done)); have og2 : w.heap.size < w2.heap.size := (by omega)
  clear cg1_0 cg1_1
  have ct2_0 : w2.cell? ⟨w.heap.size + 1, 0, none⟩ = some (.int .i64 (lo)) := (hcw2 (w.heap.size + 1) (0) (by first | omega | (simp only [World.size_alloc, World.size_drew, World.size_setCell, size_drewN]; omega))).trans (by first | assumption | (simp [go_sem, *]; done)); have ct2_1 : w2.cell? ⟨w.heap.size + 1, 1, none⟩ = some (.int .i64 (hi)) := (hcw2 (w.heap.size + 1) (1) (by first | omega | (simp only [World.size_alloc, World.size_drew, World.size_setCell, size_drewN]; omega))).trans (by first | assumption | (simp [go_sem, *]; done)); have ot2 : w.heap.size + 1 < w2.heap.size := (by omega)
  clear ct1_0 ct1_1
  have crz2_0 : w2.cell? ⟨w.heap.size + 1 + 1, 0, none⟩ = some (.int .i64 (0)) := (hcw2 (w.heap.size + 1 + 1) (0) (by first | omega | (simp only [World.size_alloc, World.size_drew, World.size_setCell, size_drewN]; omega))).trans (by first | assumption | (simp [go_sem, *]; done)); have crz2_1 : w2.cell? ⟨w.heap.size + 1 + 1, 1, none⟩ = some (.int .i64 (0)) := (hcw2 (w.heap.size + 1 + 1) (1) (by first | omega | (simp only [World.size_alloc, World.size_drew, World.size_setCell, size_drewN]; omega))).trans (by first | assumption | (simp [go_sem, *]; done)); have orz2 : w.heap.size + 1 + 1 < w2.heap.size := (by omega)
  have prz2_0 : w2.frozen? ⟨w.heap.size + 1 + 1, 0, none⟩ = false := (hfw2 (w.heap.size + 1 + 1) (0) (by first | omega | (simp only [World.size_alloc, World.size_drew, World.size_setCell, size_drewN]; omega))).trans (by first | assumption | (simp [go_sem, *]; done)); have prz2_1 : w2.frozen? ⟨w.heap.size + 1 + 1, 1, none⟩ = false := (hfw2 (w.heap.size + 1 + 1) (1) (by first | omega | (simp only [World.size_alloc, World.size_drew, World.size_setCell, size_drewN]; omega))).trans (by first | assumption | (simp [go_sem, *]; done))
  clear crz1_0 crz1_1 prz1_0 prz1_1
  refine hKq.out _ _ ?_ (fun hH3 => ?_)
  · (first | assumption | (refine ⟨?_, ?_, ?_, ?_⟩ <;> assumption) | (go_keep; done) | (simp [*, go_sem]; done))
  clear hKq Kq
  clear hH2
  refine wpAnyH_ready (rs := [4]) (by kernel_rfl) (by simp) ?_
  refine AllReadyH.cons rfl (fun Kq hKq => ?_) AllReadyH.nil
  go_simp
  refine hKq.out _ _ ?_ (fun hH4 => ?_)
  · (first | assumption | (refine ⟨?_, ?_, ?_, ?_⟩ <;> assumption) | (go_keep; done) | (simp [*, go_sem]; done))
  clear hKq Kq
  clear hH3
  refine wpAnyH_ready (rs := [5]) (by kernel_rfl) (by simp) ?_
  refine AllReadyH.cons rfl (fun Kq hKq => ?_) AllReadyH.nil
  go_simp
  apply Calls.mono
  focus ((apply first2 <;> exact cell_fresh _ _ _ _ _ _ (by first | rfl | simp) rfl); done)
  (rintro e w' ⟨rfl, rfl⟩)
  refine hKq.out _ _ ?_ (fun hH5 => ?_)
  · (first | assumption | (refine ⟨?_, ?_, ?_, ?_⟩ <;> assumption) | (go_keep; done) | (simp [*, go_sem]; done))
  clear hKq Kq
  clear hH4
  refine wpAnyH_pure (i := 6) (v := ?_) rfl (by kernel_rfl) (by kernel_rfl) (by kernel_rfl) (fun _ _ _ h => h) (by rfl) (by assumption) ?_ ?_
  rotate_left
  · (intro w hSw; (try dsimp only at hSw); go_simp; (try with_reducible rfl))
  simp only [Act.put, List.getElem_toArray, List.getElem_cons_succ, List.getElem_cons_zero, List.setIfInBounds_toArray, List.set_cons_zero, List.set_cons_succ]
  refine wpAnyH_done (by kernel_rfl) ?_ _
  rw [← HE.out]
  go_wp2
  refine wp_region_held_drew (S := fun w' => w'.cell? ⟨w.heap.size, 0, none⟩ = some (.int .i64 (f)) ∧ w'.cell? ⟨w.heap.size, 1, none⟩ = some (.int .i64 (s)) ∧ w'.cell? ⟨w.heap.size + 1, 0, none⟩ = some (.int .i64 (lo)) ∧ w'.cell? ⟨w.heap.size + 1, 1, none⟩ = some (.int .i64 (hi)) ∧ w'.cell? ⟨w.heap.size + 1 + 1, 0, none⟩ = some (.int .i64 (0)) ∧ w'.cell? ⟨w.heap.size + 1 + 1, 1, none⟩ = some (.int .i64 (0)) ∧ w'.frozen? ⟨w.heap.size + 1 + 1, 0, none⟩ = false ∧ w'.frozen? ⟨w.heap.size + 1 + 1, 1, none⟩ = false) (by kernel_rfl) ?_ (fun hH6 => ?_)
  · (first | (go_keep; done) | (simp [*, go_sem]; done))
  refine wpAnyH_pure (i := 0) (v := ?_) rfl (by kernel_rfl) (by kernel_rfl) (by kernel_rfl) (fun _ _ _ h => h) (by rfl) (by assumption) ?_ ?_
  rotate_left
  · (intro w hSw; (try dsimp only at hSw); go_simp; (try with_reducible rfl))
  simp only [Act.put, List.getElem_toArray, List.getElem_cons_succ, List.getElem_cons_zero, List.setIfInBounds_toArray, List.set_cons_zero, List.set_cons_succ]
  refine wpAnyH_pure (i := 1) (v := ?_) rfl (by kernel_rfl) (by kernel_rfl) (by kernel_rfl) (fun _ _ _ h => h) (by rfl) (by assumption) ?_ ?_
  rotate_left
  · (intro w hSw; (try dsimp only at hSw); go_simp; (try with_reducible rfl))
  simp only [Act.put, List.getElem_toArray, List.getElem_cons_succ, List.getElem_cons_zero, List.setIfInBounds_toArray, List.set_cons_zero, List.set_cons_succ]
  refine wpAnyH_pure (i := 2) (v := ?_) rfl (by kernel_rfl) (by kernel_rfl) (by kernel_rfl) (fun _ _ _ h => h) (by rfl) (by assumption) ?_ ?_
  rotate_left
  · (intro w hSw; (try dsimp only at hSw); go_simp; (try with_reducible rfl))
  simp only [Act.put, List.getElem_toArray, List.getElem_cons_succ, List.getElem_cons_zero, List.setIfInBounds_toArray, List.set_cons_zero, List.set_cons_succ]
  refine wpAnyH_pure (i := 3) (v := ?_) rfl (by kernel_rfl) (by kernel_rfl) (by kernel_rfl) (fun _ _ _ h => h) (by rfl) (by assumption) ?_ ?_
  rotate_left
  · (intro w hSw; (try dsimp only at hSw); go_simp; (try with_reducible rfl))
  simp only [Act.put, List.getElem_toArray, List.getElem_cons_succ, List.getElem_cons_zero, List.setIfInBounds_toArray, List.set_cons_zero, List.set_cons_succ]
  refine wpAnyH_pure (i := 4) (v := ?_) rfl (by kernel_rfl) (by kernel_rfl) (by kernel_rfl) (fun _ _ _ h => h) (by rfl) (by assumption) ?_ ?_
  rotate_left
  · (intro w hSw; (try dsimp only at hSw); go_simp; (try with_reducible rfl))
  simp only [Act.put, List.getElem_toArray, List.getElem_cons_succ, List.getElem_cons_zero, List.setIfInBounds_toArray, List.set_cons_zero, List.set_cons_succ]
  refine wpAnyH_pure (i := 5) (v := ?_) rfl (by kernel_rfl) (by kernel_rfl) (by kernel_rfl) (fun _ _ _ h => h) (by rfl) (by assumption) ?_ ?_
  rotate_left
  · (intro w hSw; (try dsimp only at hSw); go_simp; (try with_reducible rfl))
  simp only [Act.put, List.getElem_toArray, List.getElem_cons_succ, List.getElem_cons_zero, List.setIfInBounds_toArray, List.set_cons_zero, List.set_cons_succ]
  refine wpAnyH_pure (i := 6) (v := ?_) rfl (by kernel_rfl) (by kernel_rfl) (by kernel_rfl) (fun _ _ _ h => h) (by rfl) (by assumption) ?_ ?_
  rotate_left
  · (intro w hSw; (try dsimp only at hSw); go_simp; (try with_reducible rfl))
  simp only [Act.put, List.getElem_toArray, List.getElem_cons_succ, List.getElem_cons_zero, List.setIfInBounds_toArray, List.set_cons_zero, List.set_cons_succ]
  refine wpAnyH_pure (i := 9) (v := ?_) rfl (by kernel_rfl) (by kernel_rfl) (by kernel_rfl) (fun _ _ _ h => h) (by rfl) (by assumption) ?_ ?_
  rotate_left
  · (intro w hSw; (try dsimp only at hSw); go_simp; (try with_reducible rfl))
  simp only [Act.put, List.getElem_toArray, List.getElem_cons_succ, List.getElem_cons_zero, List.setIfInBounds_toArray, List.set_cons_zero, List.set_cons_succ]
  refine wpAnyH_pure (i := 10) (v := ?_) rfl (by kernel_rfl) (by kernel_rfl) (by kernel_rfl) (fun _ _ _ h => h) (by rfl) (by assumption) ?_ ?_
  rotate_left
  · (intro w hSw; (try dsimp only at hSw); go_simp; (try with_reducible rfl))
  simp only [Act.put, List.getElem_toArray, List.getElem_cons_succ, List.getElem_cons_zero, List.setIfInBounds_toArray, List.set_cons_zero, List.set_cons_succ]
  refine wpAnyH_pure (i := 11) (v := ?_) rfl (by kernel_rfl) (by kernel_rfl) (by kernel_rfl) (fun _ _ _ h => h) (by rfl) (by assumption) ?_ ?_
  rotate_left
  · (intro w hSw; (try dsimp only at hSw); go_simp; (try with_reducible rfl))
  simp only [Act.put, List.getElem_toArray, List.getElem_cons_succ, List.getElem_cons_zero, List.setIfInBounds_toArray, List.set_cons_zero, List.set_cons_succ]
  refine wpAnyH_pure (i := 12) (v := ?_) rfl (by kernel_rfl) (by kernel_rfl) (by kernel_rfl) (fun _ _ _ h => h) (by rfl) (by assumption) ?_ ?_
  rotate_left
  · (intro w hSw; (try dsimp only at hSw); go_simp; (try with_reducible rfl))
  simp only [Act.put, List.getElem_toArray, List.getElem_cons_succ, List.getElem_cons_zero, List.setIfInBounds_toArray, List.set_cons_zero, List.set_cons_succ]
  refine wpAnyH_pure (i := 13) (v := ?_) rfl (by kernel_rfl) (by kernel_rfl) (by kernel_rfl) (fun _ _ _ h => h) (by rfl) (by assumption) ?_ ?_
  rotate_left
  · (intro w hSw; (try dsimp only at hSw); go_simp; (try with_reducible rfl))
  simp only [Act.put, List.getElem_toArray, List.getElem_cons_succ, List.getElem_cons_zero, List.setIfInBounds_toArray, List.set_cons_zero, List.set_cons_succ]
  refine wpAnyH_pure (i := 14) (v := ?_) rfl (by kernel_rfl) (by kernel_rfl) (by kernel_rfl) (fun _ _ _ h => h) (by rfl) (by assumption) ?_ ?_
  rotate_left
  · (intro w hSw; (try dsimp only at hSw); go_simp; (try with_reducible rfl))
  simp only [Act.put, List.getElem_toArray, List.getElem_cons_succ, List.getElem_cons_zero, List.setIfInBounds_toArray, List.set_cons_zero, List.set_cons_succ]
  refine wpAnyH_pure (i := 15) (v := ?_) rfl (by kernel_rfl) (by kernel_rfl) (by kernel_rfl) (fun _ _ _ h => h) (by rfl) (by assumption) ?_ ?_
  rotate_left
  · (intro w hSw; (try dsimp only at hSw); go_simp; (try with_reducible rfl))
  simp only [Act.put, List.getElem_toArray, List.getElem_cons_succ, List.getElem_cons_zero, List.setIfInBounds_toArray, List.set_cons_zero, List.set_cons_succ]
  refine wpAnyH_dag0 (fun a0 l0 l a W => ((W.cell? ⟨w.heap.size, 0, none⟩ = some (.int .i64 (f)) ∧ W.cell? ⟨w.heap.size, 1, none⟩ = some (.int .i64 (s)) ∧ W.cell? ⟨w.heap.size + 1, 0, none⟩ = some (.int .i64 (lo)) ∧ W.cell? ⟨w.heap.size + 1, 1, none⟩ = some (.int .i64 (hi)) ∧ W.cell? ⟨w.heap.size + 1 + 1, 0, none⟩ = some (.int .i64 (0)) ∧ W.cell? ⟨w.heap.size + 1 + 1, 1, none⟩ = some (.int .i64 (0)) ∧ W.frozen? ⟨w.heap.size + 1 + 1, 0, none⟩ = false ∧ W.frozen? ⟨w.heap.size + 1 + 1, 1, none⟩ = false) ∧ Below w.heap.size w W ∧ (w2.heap.size) ≤ W.heap.size) ∧ (((l = l0) ∧ (a = a0)) ∨ ((l = (l0.setIfInBounds 7 true)) ∧ (a = (a0.put (some 25) (.int .i64 A)))) ∨ (∃ n7 : Nat, (l = (l0.setIfInBounds 19 true)) ∧ (a = (a0.put (some 7) (.pointer (some ⟨n7, 0, none⟩)))) ∧ (((w2.heap.size) ≤ n7 ∧ n7 < W.heap.size) ∧ W.cell? ⟨n7, 0, none⟩ = some (.int .i64 0) ∧ W.frozen? ⟨n7, 0, none⟩ = false ∧ W.cell? ⟨n7, 1, none⟩ = some (.int .i64 0) ∧ W.frozen? ⟨n7, 1, none⟩ = false)) ∨ ((l = ((l0.setIfInBounds 7 true).setIfInBounds 8 true)) ∧ (a = ((a0.put (some 25) (.int .i64 A)).put (some 26) (.int .i64 (max 0 A))))) ∨ ((l = ((l0.setIfInBounds 7 true).setIfInBounds 16 true)) ∧ (a = ((a0.put (some 25) (.int .i64 A)).put (some 34) (.int .i64 B)))) ∨ (∃ n7 : Nat, (l = ((l0.setIfInBounds 7 true).setIfInBounds 19 true)) ∧ (a = ((a0.put (some 25) (.int .i64 A)).put (some 7) (.pointer (some ⟨n7, 0, none⟩)))) ∧ (((w2.heap.size) ≤ n7 ∧ n7 < W.heap.size) ∧ W.cell? ⟨n7, 0, none⟩ = some (.int .i64 0) ∧ W.frozen? ⟨n7, 0, none⟩ = false ∧ W.cell? ⟨n7, 1, none⟩ = some (.int .i64 0) ∧ W.frozen? ⟨n7, 1, none⟩ = false)) ∨ ((l = (((l0.setIfInBounds 7 true).setIfInBounds 8 true).setIfInBounds 16 true)) ∧ (a = (((a0.put (some 25) (.int .i64 A)).put (some 26) (.int .i64 (max 0 A))).put (some 34) (.int .i64 B)))) ∨ (∃ n7 : Nat, (l = (((l0.setIfInBounds 7 true).setIfInBounds 8 true).setIfInBounds 19 true)) ∧ (a = (((a0.put (some 25) (.int .i64 A)).put (some 26) (.int .i64 (max 0 A))).put (some 7) (.pointer (some ⟨n7, 0, none⟩)))) ∧ (((w2.heap.size) ≤ n7 ∧ n7 < W.heap.size) ∧ W.cell? ⟨n7, 0, none⟩ = some (.int .i64 0) ∧ W.frozen? ⟨n7, 0, none⟩ = false ∧ W.cell? ⟨n7, 1, none⟩ = some (.int .i64 0) ∧ W.frozen? ⟨n7, 1, none⟩ = false)) ∨ ((l = (((l0.setIfInBounds 7 true).setIfInBounds 16 true).setIfInBounds 17 true)) ∧ (a = (((a0.put (some 25) (.int .i64 A)).put (some 34) (.int .i64 B)).put (some 35) (.int .i64 (min 60 B))))) ∨ (∃ n7 : Nat, (l = (((l0.setIfInBounds 7 true).setIfInBounds 16 true).setIfInBounds 19 true)) ∧ (a = (((a0.put (some 25) (.int .i64 A)).put (some 34) (.int .i64 B)).put (some 7) (.pointer (some ⟨n7, 0, none⟩)))) ∧ (((w2.heap.size) ≤ n7 ∧ n7 < W.heap.size) ∧ W.cell? ⟨n7, 0, none⟩ = some (.int .i64 0) ∧ W.frozen? ⟨n7, 0, none⟩ = false ∧ W.cell? ⟨n7, 1, none⟩ = some (.int .i64 0) ∧ W.frozen? ⟨n7, 1, none⟩ = false)) ∨ ((l = ((((l0.setIfInBounds 7 true).setIfInBounds 8 true).setIfInBounds 16 true).setIfInBounds 17 true)) ∧ (a = ((((a0.put (some 25) (.int .i64 A)).put (some 26) (.int .i64 (max 0 A))).put (some 34) (.int .i64 B)).put (some 35) (.int .i64 (min 60 B))))) ∨ (∃ n7 : Nat, (l = ((((l0.setIfInBounds 7 true).setIfInBounds 8 true).setIfInBounds 16 true).setIfInBounds 19 true)) ∧ (a = ((((a0.put (some 25) (.int .i64 A)).put (some 26) (.int .i64 (max 0 A))).put (some 34) (.int .i64 B)).put (some 7) (.pointer (some ⟨n7, 0, none⟩)))) ∧ (((w2.heap.size) ≤ n7 ∧ n7 < W.heap.size) ∧ W.cell? ⟨n7, 0, none⟩ = some (.int .i64 0) ∧ W.frozen? ⟨n7, 0, none⟩ = false ∧ W.cell? ⟨n7, 1, none⟩ = some (.int .i64 0) ∧ W.frozen? ⟨n7, 1, none⟩ = false)) ∨ (∃ n7 : Nat, (l = ((((l0.setIfInBounds 7 true).setIfInBounds 16 true).setIfInBounds 17 true).setIfInBounds 19 true)) ∧ (a = ((((a0.put (some 25) (.int .i64 A)).put (some 34) (.int .i64 B)).put (some 35) (.int .i64 (min 60 B))).put (some 7) (.pointer (some ⟨n7, 0, none⟩)))) ∧ (((w2.heap.size) ≤ n7 ∧ n7 < W.heap.size) ∧ W.cell? ⟨n7, 0, none⟩ = some (.int .i64 0) ∧ W.frozen? ⟨n7, 0, none⟩ = false ∧ W.cell? ⟨n7, 1, none⟩ = some (.int .i64 0) ∧ W.frozen? ⟨n7, 1, none⟩ = false)) ∨ ((l = (((((l0.setIfInBounds 7 true).setIfInBounds 8 true).setIfInBounds 16 true).setIfInBounds 17 true).setIfInBounds 18 true)) ∧ (a = (((((a0.put (some 25) (.int .i64 A)).put (some 26) (.int .i64 (max 0 A))).put (some 34) (.int .i64 B)).put (some 35) (.int .i64 (min 60 B))).put (some 36) (.agg #[.int .i64 (max 0 A), .int .i64 (min 60 B)])))) ∨ (∃ n7 : Nat, (l = (((((l0.setIfInBounds 7 true).setIfInBounds 8 true).setIfInBounds 16 true).setIfInBounds 17 true).setIfInBounds 19 true)) ∧ (a = (((((a0.put (some 25) (.int .i64 A)).put (some 26) (.int .i64 (max 0 A))).put (some 34) (.int .i64 B)).put (some 35) (.int .i64 (min 60 B))).put (some 7) (.pointer (some ⟨n7, 0, none⟩)))) ∧ (((w2.heap.size) ≤ n7 ∧ n7 < W.heap.size) ∧ W.cell? ⟨n7, 0, none⟩ = some (.int .i64 0) ∧ W.frozen? ⟨n7, 0, none⟩ = false ∧ W.cell? ⟨n7, 1, none⟩ = some (.int .i64 0) ∧ W.frozen? ⟨n7, 1, none⟩ = false)) ∨ (∃ n7 : Nat, (l = ((((((l0.setIfInBounds 7 true).setIfInBounds 8 true).setIfInBounds 16 true).setIfInBounds 17 true).setIfInBounds 18 true).setIfInBounds 19 true)) ∧ (a = ((((((a0.put (some 25) (.int .i64 A)).put (some 26) (.int .i64 (max 0 A))).put (some 34) (.int .i64 B)).put (some 35) (.int .i64 (min 60 B))).put (some 36) (.agg #[.int .i64 (max 0 A), .int .i64 (min 60 B)])).put (some 7) (.pointer (some ⟨n7, 0, none⟩)))) ∧ (((w2.heap.size) ≤ n7 ∧ n7 < W.heap.size) ∧ W.cell? ⟨n7, 0, none⟩ = some (.int .i64 0) ∧ W.frozen? ⟨n7, 0, none⟩ = false ∧ W.cell? ⟨n7, 1, none⟩ = some (.int .i64 0) ∧ W.frozen? ⟨n7, 1, none⟩ = false)))) (by rfl) ?_ ?_ ?_
  · exact ⟨⟨hH6, by (repeat' (first | (with_reducible exact Below.refl _ _) | (with_reducible assumption) | (with_reducible refine Below.alloc ?_ ?_ _) | (with_reducible refine Below.drew ?_) | (with_reducible refine below_drewN ?_ _) | (with_reducible refine Below.setCell ?_ ?_ _) | (with_reducible refine below_step (by with_reducible assumption) ?_ ?_) | (with_reducible exact Below.size (by with_reducible assumption)) | go_size)), by first | omega | (simp only [World.size_alloc, World.size_setCell, World.size_drew, size_drewN]; omega)⟩, (Or.inl ⟨rfl, rfl⟩)⟩
  · intro l a W hI; exact hI.1.1
  intro l a W hI
  obtain ⟨⟨hSW, hB, hZ⟩, hI⟩ := hI
  have hSW' := hSW
  obtain ⟨cS0, cS1, cS2, cS3, cS4, cS5, cS6, cS7⟩ := hSW
  rcases hI with ⟨rfl, rfl⟩ | ⟨rfl, rfl⟩ | ⟨n7, rfl, rfl, ⟨⟨zn7, yn7⟩, dn7_0, fn7_0, dn7_1, fn7_1⟩⟩ | ⟨rfl, rfl⟩ | ⟨rfl, rfl⟩ | ⟨n7, rfl, rfl, ⟨⟨zn7, yn7⟩, dn7_0, fn7_0, dn7_1, fn7_1⟩⟩ | ⟨rfl, rfl⟩ | ⟨n7, rfl, rfl, ⟨⟨zn7, yn7⟩, dn7_0, fn7_0, dn7_1, fn7_1⟩⟩ | ⟨rfl, rfl⟩ | ⟨n7, rfl, rfl, ⟨⟨zn7, yn7⟩, dn7_0, fn7_0, dn7_1, fn7_1⟩⟩ | ⟨rfl, rfl⟩ | ⟨n7, rfl, rfl, ⟨⟨zn7, yn7⟩, dn7_0, fn7_0, dn7_1, fn7_1⟩⟩ | ⟨n7, rfl, rfl, ⟨⟨zn7, yn7⟩, dn7_0, fn7_0, dn7_1, fn7_1⟩⟩ | ⟨rfl, rfl⟩ | ⟨n7, rfl, rfl, ⟨⟨zn7, yn7⟩, dn7_0, fn7_0, dn7_1, fn7_1⟩⟩ | ⟨n7, rfl, rfl, ⟨⟨zn7, yn7⟩, dn7_0, fn7_0, dn7_1, fn7_1⟩⟩
  · left
    refine ⟨[7, 19], by kernel_rfl, by simp, ?_⟩
    simp only [Act.put, List.getElem_toArray, List.getElem_cons_succ, List.getElem_cons_zero, List.setIfInBounds_toArray, List.set_cons_zero, List.set_cons_succ]
    refine all_cons ?_ (all_cons ?_ (all_nil))
    · refine wpOp_step rfl (fun Kq hKq => ?_)
      go_simp
      refine (K1.out _).mono ?_
      rintro e W1 ⟨rfl, hw1⟩
      have hz1 := hw1.size
      have hc1 := (bcell hw1).1
      have hf1 := (bcell hw1).2
      refine hKq _ _ ?_
      exact ⟨⟨⟨(hc1 _ _ (by omega)).trans cS0, (hc1 _ _ (by omega)).trans cS1, (hc1 _ _ (by omega)).trans cS2, (hc1 _ _ (by omega)).trans cS3, (hc1 _ _ (by omega)).trans cS4, (hc1 _ _ (by omega)).trans cS5, (hf1 _ _ (by omega)).trans cS6, (hf1 _ _ (by omega)).trans cS7⟩, below_step hw1 hB (by have := hB.size; omega), by omega⟩, (Or.inr (Or.inl ⟨by rfl, by rfl⟩))⟩
    · refine wpOp_step rfl (fun Kq hKq => ?_)
      go_simp
      have hw1 : Below W.heap.size W (W.alloc (.cells #[.int .i64 0, .int .i64 0] 106)) := by (repeat' (first | (with_reducible exact Below.refl _ _) | (with_reducible assumption) | (with_reducible refine Below.alloc ?_ ?_ _) | (with_reducible refine Below.drew ?_) | (with_reducible refine below_drewN ?_ _) | (with_reducible refine Below.setCell ?_ ?_ _) | (with_reducible refine below_step (by with_reducible assumption) ?_ ?_) | (with_reducible exact Below.size (by with_reducible assumption)) | go_size))
      have hz1 : (W.alloc (.cells #[.int .i64 0, .int .i64 0] 106)).heap.size = W.heap.size + 1 := by simp
      have hc1 := (bcell hw1).1
      have hf1 := (bcell hw1).2
      refine hKq _ _ ?_
      exact ⟨⟨⟨(hc1 _ _ (by omega)).trans cS0, (hc1 _ _ (by omega)).trans cS1, (hc1 _ _ (by omega)).trans cS2, (hc1 _ _ (by omega)).trans cS3, (hc1 _ _ (by omega)).trans cS4, (hc1 _ _ (by omega)).trans cS5, (hf1 _ _ (by omega)).trans cS6, (hf1 _ _ (by omega)).trans cS7⟩, below_step hw1 hB (by have := hB.size; omega), by omega⟩, (Or.inr (Or.inr (Or.inl ⟨W.heap.size, by rfl, by rfl, ⟨⟨by omega, by omega⟩, by simp [go_sem], by simp [go_sem], by simp [go_sem], by simp [go_sem]⟩⟩)))⟩
  · left
    refine ⟨[8, 16, 19], by kernel_rfl, by simp, ?_⟩
    simp only [Act.put, List.getElem_toArray, List.getElem_cons_succ, List.getElem_cons_zero, List.setIfInBounds_toArray, List.set_cons_zero, List.set_cons_succ]
    refine all_cons ?_ (all_cons ?_ (all_cons ?_ (all_nil)))
    · refine wpOp_step rfl (fun Kq hKq => ?_)
      go_simp
      have hw1 : Below W.heap.size W W := Below.refl _ _
      have hz1 := hw1.size
      have hc1 := (bcell hw1).1
      have hf1 := (bcell hw1).2
      refine hKq _ _ ?_
      exact ⟨⟨⟨(hc1 _ _ (by omega)).trans cS0, (hc1 _ _ (by omega)).trans cS1, (hc1 _ _ (by omega)).trans cS2, (hc1 _ _ (by omega)).trans cS3, (hc1 _ _ (by omega)).trans cS4, (hc1 _ _ (by omega)).trans cS5, (hf1 _ _ (by omega)).trans cS6, (hf1 _ _ (by omega)).trans cS7⟩, below_step hw1 hB (by have := hB.size; omega), by omega⟩, (Or.inr (Or.inr (Or.inr (Or.inl ⟨by rfl, by rfl⟩))))⟩
    · refine wpOp_step rfl (fun Kq hKq => ?_)
      go_simp
      refine (K2.out _).mono ?_
      rintro e W1 ⟨rfl, hw1⟩
      have hz1 := hw1.size
      have hc1 := (bcell hw1).1
      have hf1 := (bcell hw1).2
      refine hKq _ _ ?_
      exact ⟨⟨⟨(hc1 _ _ (by omega)).trans cS0, (hc1 _ _ (by omega)).trans cS1, (hc1 _ _ (by omega)).trans cS2, (hc1 _ _ (by omega)).trans cS3, (hc1 _ _ (by omega)).trans cS4, (hc1 _ _ (by omega)).trans cS5, (hf1 _ _ (by omega)).trans cS6, (hf1 _ _ (by omega)).trans cS7⟩, below_step hw1 hB (by have := hB.size; omega), by omega⟩, (Or.inr (Or.inr (Or.inr (Or.inr (Or.inl ⟨by rfl, by rfl⟩)))))⟩
    · refine wpOp_step rfl (fun Kq hKq => ?_)
      go_simp
      have hw1 : Below W.heap.size W (W.alloc (.cells #[.int .i64 0, .int .i64 0] 106)) := by (repeat' (first | (with_reducible exact Below.refl _ _) | (with_reducible assumption) | (with_reducible refine Below.alloc ?_ ?_ _) | (with_reducible refine Below.drew ?_) | (with_reducible refine below_drewN ?_ _) | (with_reducible refine Below.setCell ?_ ?_ _) | (with_reducible refine below_step (by with_reducible assumption) ?_ ?_) | (with_reducible exact Below.size (by with_reducible assumption)) | go_size))
      have hz1 : (W.alloc (.cells #[.int .i64 0, .int .i64 0] 106)).heap.size = W.heap.size + 1 := by simp
      have hc1 := (bcell hw1).1
      have hf1 := (bcell hw1).2
      refine hKq _ _ ?_
      exact ⟨⟨⟨(hc1 _ _ (by omega)).trans cS0, (hc1 _ _ (by omega)).trans cS1, (hc1 _ _ (by omega)).trans cS2, (hc1 _ _ (by omega)).trans cS3, (hc1 _ _ (by omega)).trans cS4, (hc1 _ _ (by omega)).trans cS5, (hf1 _ _ (by omega)).trans cS6, (hf1 _ _ (by omega)).trans cS7⟩, below_step hw1 hB (by have := hB.size; omega), by omega⟩, (Or.inr (Or.inr (Or.inr (Or.inr (Or.inr (Or.inl ⟨W.heap.size, by rfl, by rfl, ⟨⟨by omega, by omega⟩, by simp [go_sem], by simp [go_sem], by simp [go_sem], by simp [go_sem]⟩⟩))))))⟩
  · left
    refine ⟨[7], by kernel_rfl, by simp, ?_⟩
    simp only [Act.put, List.getElem_toArray, List.getElem_cons_succ, List.getElem_cons_zero, List.setIfInBounds_toArray, List.set_cons_zero, List.set_cons_succ]
    refine all_cons ?_ (all_nil)
    · refine wpOp_step rfl (fun Kq hKq => ?_)
      go_simp
      refine (K1.out _).mono ?_
      rintro e W1 ⟨rfl, hw1⟩
      have hz1 := hw1.size
      have hc1 := (bcell hw1).1
      have hf1 := (bcell hw1).2
      refine hKq _ _ ?_
      exact ⟨⟨⟨(hc1 _ _ (by omega)).trans cS0, (hc1 _ _ (by omega)).trans cS1, (hc1 _ _ (by omega)).trans cS2, (hc1 _ _ (by omega)).trans cS3, (hc1 _ _ (by omega)).trans cS4, (hc1 _ _ (by omega)).trans cS5, (hf1 _ _ (by omega)).trans cS6, (hf1 _ _ (by omega)).trans cS7⟩, below_step hw1 hB (by have := hB.size; omega), by omega⟩, (Or.inr (Or.inr (Or.inr (Or.inr (Or.inr (Or.inl ⟨n7, by rfl, by rfl, ⟨⟨zn7, by omega⟩, (hc1 _ _ (by omega)).trans dn7_0, (hf1 _ _ (by omega)).trans fn7_0, (hc1 _ _ (by omega)).trans dn7_1, (hf1 _ _ (by omega)).trans fn7_1⟩⟩))))))⟩
  · left
    refine ⟨[16, 19], by kernel_rfl, by simp, ?_⟩
    simp only [Act.put, List.getElem_toArray, List.getElem_cons_succ, List.getElem_cons_zero, List.setIfInBounds_toArray, List.set_cons_zero, List.set_cons_succ]
    refine all_cons ?_ (all_cons ?_ (all_nil))
    · refine wpOp_step rfl (fun Kq hKq => ?_)
      go_simp
      refine (K2.out _).mono ?_
      rintro e W1 ⟨rfl, hw1⟩
      have hz1 := hw1.size
      have hc1 := (bcell hw1).1
      have hf1 := (bcell hw1).2
      refine hKq _ _ ?_
      exact ⟨⟨⟨(hc1 _ _ (by omega)).trans cS0, (hc1 _ _ (by omega)).trans cS1, (hc1 _ _ (by omega)).trans cS2, (hc1 _ _ (by omega)).trans cS3, (hc1 _ _ (by omega)).trans cS4, (hc1 _ _ (by omega)).trans cS5, (hf1 _ _ (by omega)).trans cS6, (hf1 _ _ (by omega)).trans cS7⟩, below_step hw1 hB (by have := hB.size; omega), by omega⟩, (Or.inr (Or.inr (Or.inr (Or.inr (Or.inr (Or.inr (Or.inl ⟨by rfl, by rfl⟩)))))))⟩
    · refine wpOp_step rfl (fun Kq hKq => ?_)
      go_simp
      have hw1 : Below W.heap.size W (W.alloc (.cells #[.int .i64 0, .int .i64 0] 106)) := by (repeat' (first | (with_reducible exact Below.refl _ _) | (with_reducible assumption) | (with_reducible refine Below.alloc ?_ ?_ _) | (with_reducible refine Below.drew ?_) | (with_reducible refine below_drewN ?_ _) | (with_reducible refine Below.setCell ?_ ?_ _) | (with_reducible refine below_step (by with_reducible assumption) ?_ ?_) | (with_reducible exact Below.size (by with_reducible assumption)) | go_size))
      have hz1 : (W.alloc (.cells #[.int .i64 0, .int .i64 0] 106)).heap.size = W.heap.size + 1 := by simp
      have hc1 := (bcell hw1).1
      have hf1 := (bcell hw1).2
      refine hKq _ _ ?_
      exact ⟨⟨⟨(hc1 _ _ (by omega)).trans cS0, (hc1 _ _ (by omega)).trans cS1, (hc1 _ _ (by omega)).trans cS2, (hc1 _ _ (by omega)).trans cS3, (hc1 _ _ (by omega)).trans cS4, (hc1 _ _ (by omega)).trans cS5, (hf1 _ _ (by omega)).trans cS6, (hf1 _ _ (by omega)).trans cS7⟩, below_step hw1 hB (by have := hB.size; omega), by omega⟩, (Or.inr (Or.inr (Or.inr (Or.inr (Or.inr (Or.inr (Or.inr (Or.inl ⟨W.heap.size, by rfl, by rfl, ⟨⟨by omega, by omega⟩, by simp [go_sem], by simp [go_sem], by simp [go_sem], by simp [go_sem]⟩⟩))))))))⟩
  · left
    refine ⟨[8, 17, 19], by kernel_rfl, by simp, ?_⟩
    simp only [Act.put, List.getElem_toArray, List.getElem_cons_succ, List.getElem_cons_zero, List.setIfInBounds_toArray, List.set_cons_zero, List.set_cons_succ]
    refine all_cons ?_ (all_cons ?_ (all_cons ?_ (all_nil)))
    · refine wpOp_step rfl (fun Kq hKq => ?_)
      go_simp
      have hw1 : Below W.heap.size W W := Below.refl _ _
      have hz1 := hw1.size
      have hc1 := (bcell hw1).1
      have hf1 := (bcell hw1).2
      refine hKq _ _ ?_
      exact ⟨⟨⟨(hc1 _ _ (by omega)).trans cS0, (hc1 _ _ (by omega)).trans cS1, (hc1 _ _ (by omega)).trans cS2, (hc1 _ _ (by omega)).trans cS3, (hc1 _ _ (by omega)).trans cS4, (hc1 _ _ (by omega)).trans cS5, (hf1 _ _ (by omega)).trans cS6, (hf1 _ _ (by omega)).trans cS7⟩, below_step hw1 hB (by have := hB.size; omega), by omega⟩, (Or.inr (Or.inr (Or.inr (Or.inr (Or.inr (Or.inr (Or.inl ⟨by rfl, by rfl⟩)))))))⟩
    · refine wpOp_step rfl (fun Kq hKq => ?_)
      go_simp
      have hw1 : Below W.heap.size W W := Below.refl _ _
      have hz1 := hw1.size
      have hc1 := (bcell hw1).1
      have hf1 := (bcell hw1).2
      refine hKq _ _ ?_
      exact ⟨⟨⟨(hc1 _ _ (by omega)).trans cS0, (hc1 _ _ (by omega)).trans cS1, (hc1 _ _ (by omega)).trans cS2, (hc1 _ _ (by omega)).trans cS3, (hc1 _ _ (by omega)).trans cS4, (hc1 _ _ (by omega)).trans cS5, (hf1 _ _ (by omega)).trans cS6, (hf1 _ _ (by omega)).trans cS7⟩, below_step hw1 hB (by have := hB.size; omega), by omega⟩, (Or.inr (Or.inr (Or.inr (Or.inr (Or.inr (Or.inr (Or.inr (Or.inr (Or.inl ⟨by rfl, by rfl⟩)))))))))⟩
    · refine wpOp_step rfl (fun Kq hKq => ?_)
      go_simp
      have hw1 : Below W.heap.size W (W.alloc (.cells #[.int .i64 0, .int .i64 0] 106)) := by (repeat' (first | (with_reducible exact Below.refl _ _) | (with_reducible assumption) | (with_reducible refine Below.alloc ?_ ?_ _) | (with_reducible refine Below.drew ?_) | (with_reducible refine below_drewN ?_ _) | (with_reducible refine Below.setCell ?_ ?_ _) | (with_reducible refine below_step (by with_reducible assumption) ?_ ?_) | (with_reducible exact Below.size (by with_reducible assumption)) | go_size))
      have hz1 : (W.alloc (.cells #[.int .i64 0, .int .i64 0] 106)).heap.size = W.heap.size + 1 := by simp
      have hc1 := (bcell hw1).1
      have hf1 := (bcell hw1).2
      refine hKq _ _ ?_
      exact ⟨⟨⟨(hc1 _ _ (by omega)).trans cS0, (hc1 _ _ (by omega)).trans cS1, (hc1 _ _ (by omega)).trans cS2, (hc1 _ _ (by omega)).trans cS3, (hc1 _ _ (by omega)).trans cS4, (hc1 _ _ (by omega)).trans cS5, (hf1 _ _ (by omega)).trans cS6, (hf1 _ _ (by omega)).trans cS7⟩, below_step hw1 hB (by have := hB.size; omega), by omega⟩, (Or.inr (Or.inr (Or.inr (Or.inr (Or.inr (Or.inr (Or.inr (Or.inr (Or.inr (Or.inl ⟨W.heap.size, by rfl, by rfl, ⟨⟨by omega, by omega⟩, by simp [go_sem], by simp [go_sem], by simp [go_sem], by simp [go_sem]⟩⟩))))))))))⟩
  · left
    refine ⟨[8, 16], by kernel_rfl, by simp, ?_⟩
    simp only [Act.put, List.getElem_toArray, List.getElem_cons_succ, List.getElem_cons_zero, List.setIfInBounds_toArray, List.set_cons_zero, List.set_cons_succ]
    refine all_cons ?_ (all_cons ?_ (all_nil))
    · refine wpOp_step rfl (fun Kq hKq => ?_)
      go_simp
      have hw1 : Below W.heap.size W W := Below.refl _ _
      have hz1 := hw1.size
      have hc1 := (bcell hw1).1
      have hf1 := (bcell hw1).2
      refine hKq _ _ ?_
      exact ⟨⟨⟨(hc1 _ _ (by omega)).trans cS0, (hc1 _ _ (by omega)).trans cS1, (hc1 _ _ (by omega)).trans cS2, (hc1 _ _ (by omega)).trans cS3, (hc1 _ _ (by omega)).trans cS4, (hc1 _ _ (by omega)).trans cS5, (hf1 _ _ (by omega)).trans cS6, (hf1 _ _ (by omega)).trans cS7⟩, below_step hw1 hB (by have := hB.size; omega), by omega⟩, (Or.inr (Or.inr (Or.inr (Or.inr (Or.inr (Or.inr (Or.inr (Or.inl ⟨n7, by rfl, by rfl, ⟨⟨zn7, by omega⟩, (hc1 _ _ (by omega)).trans dn7_0, (hf1 _ _ (by omega)).trans fn7_0, (hc1 _ _ (by omega)).trans dn7_1, (hf1 _ _ (by omega)).trans fn7_1⟩⟩))))))))⟩
    · refine wpOp_step rfl (fun Kq hKq => ?_)
      go_simp
      refine (K2.out _).mono ?_
      rintro e W1 ⟨rfl, hw1⟩
      have hz1 := hw1.size
      have hc1 := (bcell hw1).1
      have hf1 := (bcell hw1).2
      refine hKq _ _ ?_
      exact ⟨⟨⟨(hc1 _ _ (by omega)).trans cS0, (hc1 _ _ (by omega)).trans cS1, (hc1 _ _ (by omega)).trans cS2, (hc1 _ _ (by omega)).trans cS3, (hc1 _ _ (by omega)).trans cS4, (hc1 _ _ (by omega)).trans cS5, (hf1 _ _ (by omega)).trans cS6, (hf1 _ _ (by omega)).trans cS7⟩, below_step hw1 hB (by have := hB.size; omega), by omega⟩, (Or.inr (Or.inr (Or.inr (Or.inr (Or.inr (Or.inr (Or.inr (Or.inr (Or.inr (Or.inl ⟨n7, by rfl, by rfl, ⟨⟨zn7, by omega⟩, (hc1 _ _ (by omega)).trans dn7_0, (hf1 _ _ (by omega)).trans fn7_0, (hc1 _ _ (by omega)).trans dn7_1, (hf1 _ _ (by omega)).trans fn7_1⟩⟩))))))))))⟩
  · left
    refine ⟨[17, 19], by kernel_rfl, by simp, ?_⟩
    simp only [Act.put, List.getElem_toArray, List.getElem_cons_succ, List.getElem_cons_zero, List.setIfInBounds_toArray, List.set_cons_zero, List.set_cons_succ]
    refine all_cons ?_ (all_cons ?_ (all_nil))
    · refine wpOp_step rfl (fun Kq hKq => ?_)
      go_simp
      have hw1 : Below W.heap.size W W := Below.refl _ _
      have hz1 := hw1.size
      have hc1 := (bcell hw1).1
      have hf1 := (bcell hw1).2
      refine hKq _ _ ?_
      exact ⟨⟨⟨(hc1 _ _ (by omega)).trans cS0, (hc1 _ _ (by omega)).trans cS1, (hc1 _ _ (by omega)).trans cS2, (hc1 _ _ (by omega)).trans cS3, (hc1 _ _ (by omega)).trans cS4, (hc1 _ _ (by omega)).trans cS5, (hf1 _ _ (by omega)).trans cS6, (hf1 _ _ (by omega)).trans cS7⟩, below_step hw1 hB (by have := hB.size; omega), by omega⟩, (Or.inr (Or.inr (Or.inr (Or.inr (Or.inr (Or.inr (Or.inr (Or.inr (Or.inr (Or.inr (Or.inl ⟨by rfl, by rfl⟩)))))))))))⟩
    · refine wpOp_step rfl (fun Kq hKq => ?_)
      go_simp
      have hw1 : Below W.heap.size W (W.alloc (.cells #[.int .i64 0, .int .i64 0] 106)) := by (repeat' (first | (with_reducible exact Below.refl _ _) | (with_reducible assumption) | (with_reducible refine Below.alloc ?_ ?_ _) | (with_reducible refine Below.drew ?_) | (with_reducible refine below_drewN ?_ _) | (with_reducible refine Below.setCell ?_ ?_ _) | (with_reducible refine below_step (by with_reducible assumption) ?_ ?_) | (with_reducible exact Below.size (by with_reducible assumption)) | go_size))
      have hz1 : (W.alloc (.cells #[.int .i64 0, .int .i64 0] 106)).heap.size = W.heap.size + 1 := by simp
      have hc1 := (bcell hw1).1
      have hf1 := (bcell hw1).2
      refine hKq _ _ ?_
      exact ⟨⟨⟨(hc1 _ _ (by omega)).trans cS0, (hc1 _ _ (by omega)).trans cS1, (hc1 _ _ (by omega)).trans cS2, (hc1 _ _ (by omega)).trans cS3, (hc1 _ _ (by omega)).trans cS4, (hc1 _ _ (by omega)).trans cS5, (hf1 _ _ (by omega)).trans cS6, (hf1 _ _ (by omega)).trans cS7⟩, below_step hw1 hB (by have := hB.size; omega), by omega⟩, (Or.inr (Or.inr (Or.inr (Or.inr (Or.inr (Or.inr (Or.inr (Or.inr (Or.inr (Or.inr (Or.inr (Or.inl ⟨W.heap.size, by rfl, by rfl, ⟨⟨by omega, by omega⟩, by simp [go_sem], by simp [go_sem], by simp [go_sem], by simp [go_sem]⟩⟩))))))))))))⟩
  · left
    refine ⟨[16], by kernel_rfl, by simp, ?_⟩
    simp only [Act.put, List.getElem_toArray, List.getElem_cons_succ, List.getElem_cons_zero, List.setIfInBounds_toArray, List.set_cons_zero, List.set_cons_succ]
    refine all_cons ?_ (all_nil)
    · refine wpOp_step rfl (fun Kq hKq => ?_)
      go_simp
      refine (K2.out _).mono ?_
      rintro e W1 ⟨rfl, hw1⟩
      have hz1 := hw1.size
      have hc1 := (bcell hw1).1
      have hf1 := (bcell hw1).2
      refine hKq _ _ ?_
      exact ⟨⟨⟨(hc1 _ _ (by omega)).trans cS0, (hc1 _ _ (by omega)).trans cS1, (hc1 _ _ (by omega)).trans cS2, (hc1 _ _ (by omega)).trans cS3, (hc1 _ _ (by omega)).trans cS4, (hc1 _ _ (by omega)).trans cS5, (hf1 _ _ (by omega)).trans cS6, (hf1 _ _ (by omega)).trans cS7⟩, below_step hw1 hB (by have := hB.size; omega), by omega⟩, (Or.inr (Or.inr (Or.inr (Or.inr (Or.inr (Or.inr (Or.inr (Or.inr (Or.inr (Or.inr (Or.inr (Or.inl ⟨n7, by rfl, by rfl, ⟨⟨zn7, by omega⟩, (hc1 _ _ (by omega)).trans dn7_0, (hf1 _ _ (by omega)).trans fn7_0, (hc1 _ _ (by omega)).trans dn7_1, (hf1 _ _ (by omega)).trans fn7_1⟩⟩))))))))))))⟩
  · left
    refine ⟨[8, 19], by kernel_rfl, by simp, ?_⟩
    simp only [Act.put, List.getElem_toArray, List.getElem_cons_succ, List.getElem_cons_zero, List.setIfInBounds_toArray, List.set_cons_zero, List.set_cons_succ]
    refine all_cons ?_ (all_cons ?_ (all_nil))
    · refine wpOp_step rfl (fun Kq hKq => ?_)
      go_simp
      have hw1 : Below W.heap.size W W := Below.refl _ _
      have hz1 := hw1.size
      have hc1 := (bcell hw1).1
      have hf1 := (bcell hw1).2
      refine hKq _ _ ?_
      exact ⟨⟨⟨(hc1 _ _ (by omega)).trans cS0, (hc1 _ _ (by omega)).trans cS1, (hc1 _ _ (by omega)).trans cS2, (hc1 _ _ (by omega)).trans cS3, (hc1 _ _ (by omega)).trans cS4, (hc1 _ _ (by omega)).trans cS5, (hf1 _ _ (by omega)).trans cS6, (hf1 _ _ (by omega)).trans cS7⟩, below_step hw1 hB (by have := hB.size; omega), by omega⟩, (Or.inr (Or.inr (Or.inr (Or.inr (Or.inr (Or.inr (Or.inr (Or.inr (Or.inr (Or.inr (Or.inl ⟨by rfl, by rfl⟩)))))))))))⟩
    · refine wpOp_step rfl (fun Kq hKq => ?_)
      go_simp
      have hw1 : Below W.heap.size W (W.alloc (.cells #[.int .i64 0, .int .i64 0] 106)) := by (repeat' (first | (with_reducible exact Below.refl _ _) | (with_reducible assumption) | (with_reducible refine Below.alloc ?_ ?_ _) | (with_reducible refine Below.drew ?_) | (with_reducible refine below_drewN ?_ _) | (with_reducible refine Below.setCell ?_ ?_ _) | (with_reducible refine below_step (by with_reducible assumption) ?_ ?_) | (with_reducible exact Below.size (by with_reducible assumption)) | go_size))
      have hz1 : (W.alloc (.cells #[.int .i64 0, .int .i64 0] 106)).heap.size = W.heap.size + 1 := by simp
      have hc1 := (bcell hw1).1
      have hf1 := (bcell hw1).2
      refine hKq _ _ ?_
      exact ⟨⟨⟨(hc1 _ _ (by omega)).trans cS0, (hc1 _ _ (by omega)).trans cS1, (hc1 _ _ (by omega)).trans cS2, (hc1 _ _ (by omega)).trans cS3, (hc1 _ _ (by omega)).trans cS4, (hc1 _ _ (by omega)).trans cS5, (hf1 _ _ (by omega)).trans cS6, (hf1 _ _ (by omega)).trans cS7⟩, below_step hw1 hB (by have := hB.size; omega), by omega⟩, (Or.inr (Or.inr (Or.inr (Or.inr (Or.inr (Or.inr (Or.inr (Or.inr (Or.inr (Or.inr (Or.inr (Or.inr (Or.inl ⟨W.heap.size, by rfl, by rfl, ⟨⟨by omega, by omega⟩, by simp [go_sem], by simp [go_sem], by simp [go_sem], by simp [go_sem]⟩⟩)))))))))))))⟩
  · left
    refine ⟨[8, 17], by kernel_rfl, by simp, ?_⟩
    simp only [Act.put, List.getElem_toArray, List.getElem_cons_succ, List.getElem_cons_zero, List.setIfInBounds_toArray, List.set_cons_zero, List.set_cons_succ]
    refine all_cons ?_ (all_cons ?_ (all_nil))
    · refine wpOp_step rfl (fun Kq hKq => ?_)
      go_simp
      have hw1 : Below W.heap.size W W := Below.refl _ _
      have hz1 := hw1.size
      have hc1 := (bcell hw1).1
      have hf1 := (bcell hw1).2
      refine hKq _ _ ?_
      exact ⟨⟨⟨(hc1 _ _ (by omega)).trans cS0, (hc1 _ _ (by omega)).trans cS1, (hc1 _ _ (by omega)).trans cS2, (hc1 _ _ (by omega)).trans cS3, (hc1 _ _ (by omega)).trans cS4, (hc1 _ _ (by omega)).trans cS5, (hf1 _ _ (by omega)).trans cS6, (hf1 _ _ (by omega)).trans cS7⟩, below_step hw1 hB (by have := hB.size; omega), by omega⟩, (Or.inr (Or.inr (Or.inr (Or.inr (Or.inr (Or.inr (Or.inr (Or.inr (Or.inr (Or.inr (Or.inr (Or.inl ⟨n7, by rfl, by rfl, ⟨⟨zn7, by omega⟩, (hc1 _ _ (by omega)).trans dn7_0, (hf1 _ _ (by omega)).trans fn7_0, (hc1 _ _ (by omega)).trans dn7_1, (hf1 _ _ (by omega)).trans fn7_1⟩⟩))))))))))))⟩
    · refine wpOp_step rfl (fun Kq hKq => ?_)
      go_simp
      have hw1 : Below W.heap.size W W := Below.refl _ _
      have hz1 := hw1.size
      have hc1 := (bcell hw1).1
      have hf1 := (bcell hw1).2
      refine hKq _ _ ?_
      exact ⟨⟨⟨(hc1 _ _ (by omega)).trans cS0, (hc1 _ _ (by omega)).trans cS1, (hc1 _ _ (by omega)).trans cS2, (hc1 _ _ (by omega)).trans cS3, (hc1 _ _ (by omega)).trans cS4, (hc1 _ _ (by omega)).trans cS5, (hf1 _ _ (by omega)).trans cS6, (hf1 _ _ (by omega)).trans cS7⟩, below_step hw1 hB (by have := hB.size; omega), by omega⟩, (Or.inr (Or.inr (Or.inr (Or.inr (Or.inr (Or.inr (Or.inr (Or.inr (Or.inr (Or.inr (Or.inr (Or.inr (Or.inl ⟨n7, by rfl, by rfl, ⟨⟨zn7, by omega⟩, (hc1 _ _ (by omega)).trans dn7_0, (hf1 _ _ (by omega)).trans fn7_0, (hc1 _ _ (by omega)).trans dn7_1, (hf1 _ _ (by omega)).trans fn7_1⟩⟩)))))))))))))⟩
  · left
    refine ⟨[18, 19], by kernel_rfl, by simp, ?_⟩
    simp only [Act.put, List.getElem_toArray, List.getElem_cons_succ, List.getElem_cons_zero, List.setIfInBounds_toArray, List.set_cons_zero, List.set_cons_succ]
    refine all_cons ?_ (all_cons ?_ (all_nil))
    · refine wpOp_step rfl (fun Kq hKq => ?_)
      go_simp
      have hw1 : Below W.heap.size W W := Below.refl _ _
      have hz1 := hw1.size
      have hc1 := (bcell hw1).1
      have hf1 := (bcell hw1).2
      refine hKq _ _ ?_
      exact ⟨⟨⟨(hc1 _ _ (by omega)).trans cS0, (hc1 _ _ (by omega)).trans cS1, (hc1 _ _ (by omega)).trans cS2, (hc1 _ _ (by omega)).trans cS3, (hc1 _ _ (by omega)).trans cS4, (hc1 _ _ (by omega)).trans cS5, (hf1 _ _ (by omega)).trans cS6, (hf1 _ _ (by omega)).trans cS7⟩, below_step hw1 hB (by have := hB.size; omega), by omega⟩, (Or.inr (Or.inr (Or.inr (Or.inr (Or.inr (Or.inr (Or.inr (Or.inr (Or.inr (Or.inr (Or.inr (Or.inr (Or.inr (Or.inl ⟨by rfl, by rfl⟩))))))))))))))⟩
    · refine wpOp_step rfl (fun Kq hKq => ?_)
      go_simp
      have hw1 : Below W.heap.size W (W.alloc (.cells #[.int .i64 0, .int .i64 0] 106)) := by (repeat' (first | (with_reducible exact Below.refl _ _) | (with_reducible assumption) | (with_reducible refine Below.alloc ?_ ?_ _) | (with_reducible refine Below.drew ?_) | (with_reducible refine below_drewN ?_ _) | (with_reducible refine Below.setCell ?_ ?_ _) | (with_reducible refine below_step (by with_reducible assumption) ?_ ?_) | (with_reducible exact Below.size (by with_reducible assumption)) | go_size))
      have hz1 : (W.alloc (.cells #[.int .i64 0, .int .i64 0] 106)).heap.size = W.heap.size + 1 := by simp
      have hc1 := (bcell hw1).1
      have hf1 := (bcell hw1).2
      refine hKq _ _ ?_
      exact ⟨⟨⟨(hc1 _ _ (by omega)).trans cS0, (hc1 _ _ (by omega)).trans cS1, (hc1 _ _ (by omega)).trans cS2, (hc1 _ _ (by omega)).trans cS3, (hc1 _ _ (by omega)).trans cS4, (hc1 _ _ (by omega)).trans cS5, (hf1 _ _ (by omega)).trans cS6, (hf1 _ _ (by omega)).trans cS7⟩, below_step hw1 hB (by have := hB.size; omega), by omega⟩, (Or.inr (Or.inr (Or.inr (Or.inr (Or.inr (Or.inr (Or.inr (Or.inr (Or.inr (Or.inr (Or.inr (Or.inr (Or.inr (Or.inr (Or.inl ⟨W.heap.size, by rfl, by rfl, ⟨⟨by omega, by omega⟩, by simp [go_sem], by simp [go_sem], by simp [go_sem], by simp [go_sem]⟩⟩)))))))))))))))⟩
  · left
    refine ⟨[17], by kernel_rfl, by simp, ?_⟩
    simp only [Act.put, List.getElem_toArray, List.getElem_cons_succ, List.getElem_cons_zero, List.setIfInBounds_toArray, List.set_cons_zero, List.set_cons_succ]
    refine all_cons ?_ (all_nil)
    · refine wpOp_step rfl (fun Kq hKq => ?_)
      go_simp
      have hw1 : Below W.heap.size W W := Below.refl _ _
      have hz1 := hw1.size
      have hc1 := (bcell hw1).1
      have hf1 := (bcell hw1).2
      refine hKq _ _ ?_
      exact ⟨⟨⟨(hc1 _ _ (by omega)).trans cS0, (hc1 _ _ (by omega)).trans cS1, (hc1 _ _ (by omega)).trans cS2, (hc1 _ _ (by omega)).trans cS3, (hc1 _ _ (by omega)).trans cS4, (hc1 _ _ (by omega)).trans cS5, (hf1 _ _ (by omega)).trans cS6, (hf1 _ _ (by omega)).trans cS7⟩, below_step hw1 hB (by have := hB.size; omega), by omega⟩, (Or.inr (Or.inr (Or.inr (Or.inr (Or.inr (Or.inr (Or.inr (Or.inr (Or.inr (Or.inr (Or.inr (Or.inr (Or.inr (Or.inr (Or.inl ⟨n7, by rfl, by rfl, ⟨⟨zn7, by omega⟩, (hc1 _ _ (by omega)).trans dn7_0, (hf1 _ _ (by omega)).trans fn7_0, (hc1 _ _ (by omega)).trans dn7_1, (hf1 _ _ (by omega)).trans fn7_1⟩⟩)))))))))))))))⟩
  · left
    refine ⟨[8], by kernel_rfl, by simp, ?_⟩
    simp only [Act.put, List.getElem_toArray, List.getElem_cons_succ, List.getElem_cons_zero, List.setIfInBounds_toArray, List.set_cons_zero, List.set_cons_succ]
    refine all_cons ?_ (all_nil)
    · refine wpOp_step rfl (fun Kq hKq => ?_)
      go_simp
      have hw1 : Below W.heap.size W W := Below.refl _ _
      have hz1 := hw1.size
      have hc1 := (bcell hw1).1
      have hf1 := (bcell hw1).2
      refine hKq _ _ ?_
      exact ⟨⟨⟨(hc1 _ _ (by omega)).trans cS0, (hc1 _ _ (by omega)).trans cS1, (hc1 _ _ (by omega)).trans cS2, (hc1 _ _ (by omega)).trans cS3, (hc1 _ _ (by omega)).trans cS4, (hc1 _ _ (by omega)).trans cS5, (hf1 _ _ (by omega)).trans cS6, (hf1 _ _ (by omega)).trans cS7⟩, below_step hw1 hB (by have := hB.size; omega), by omega⟩, (Or.inr (Or.inr (Or.inr (Or.inr (Or.inr (Or.inr (Or.inr (Or.inr (Or.inr (Or.inr (Or.inr (Or.inr (Or.inr (Or.inr (Or.inl ⟨n7, by rfl, by rfl, ⟨⟨zn7, by omega⟩, (hc1 _ _ (by omega)).trans dn7_0, (hf1 _ _ (by omega)).trans fn7_0, (hc1 _ _ (by omega)).trans dn7_1, (hf1 _ _ (by omega)).trans fn7_1⟩⟩)))))))))))))))⟩
  · left
    refine ⟨[19], by kernel_rfl, by simp, ?_⟩
    simp only [Act.put, List.getElem_toArray, List.getElem_cons_succ, List.getElem_cons_zero, List.setIfInBounds_toArray, List.set_cons_zero, List.set_cons_succ]
    refine all_cons ?_ (all_nil)
    · refine wpOp_step rfl (fun Kq hKq => ?_)
      go_simp
      have hw1 : Below W.heap.size W (W.alloc (.cells #[.int .i64 0, .int .i64 0] 106)) := by (repeat' (first | (with_reducible exact Below.refl _ _) | (with_reducible assumption) | (with_reducible refine Below.alloc ?_ ?_ _) | (with_reducible refine Below.drew ?_) | (with_reducible refine below_drewN ?_ _) | (with_reducible refine Below.setCell ?_ ?_ _) | (with_reducible refine below_step (by with_reducible assumption) ?_ ?_) | (with_reducible exact Below.size (by with_reducible assumption)) | go_size))
      have hz1 : (W.alloc (.cells #[.int .i64 0, .int .i64 0] 106)).heap.size = W.heap.size + 1 := by simp
      have hc1 := (bcell hw1).1
      have hf1 := (bcell hw1).2
      refine hKq _ _ ?_
      exact ⟨⟨⟨(hc1 _ _ (by omega)).trans cS0, (hc1 _ _ (by omega)).trans cS1, (hc1 _ _ (by omega)).trans cS2, (hc1 _ _ (by omega)).trans cS3, (hc1 _ _ (by omega)).trans cS4, (hc1 _ _ (by omega)).trans cS5, (hf1 _ _ (by omega)).trans cS6, (hf1 _ _ (by omega)).trans cS7⟩, below_step hw1 hB (by have := hB.size; omega), by omega⟩, (Or.inr (Or.inr (Or.inr (Or.inr (Or.inr (Or.inr (Or.inr (Or.inr (Or.inr (Or.inr (Or.inr (Or.inr (Or.inr (Or.inr (Or.inr ⟨W.heap.size, by rfl, by rfl, ⟨⟨by omega, by omega⟩, by simp [go_sem], by simp [go_sem], by simp [go_sem], by simp [go_sem]⟩⟩)))))))))))))))⟩
  · left
    refine ⟨[18], by kernel_rfl, by simp, ?_⟩
    simp only [Act.put, List.getElem_toArray, List.getElem_cons_succ, List.getElem_cons_zero, List.setIfInBounds_toArray, List.set_cons_zero, List.set_cons_succ]
    refine all_cons ?_ (all_nil)
    · refine wpOp_step rfl (fun Kq hKq => ?_)
      go_simp
      have hw1 : Below W.heap.size W W := Below.refl _ _
      have hz1 := hw1.size
      have hc1 := (bcell hw1).1
      have hf1 := (bcell hw1).2
      refine hKq _ _ ?_
      exact ⟨⟨⟨(hc1 _ _ (by omega)).trans cS0, (hc1 _ _ (by omega)).trans cS1, (hc1 _ _ (by omega)).trans cS2, (hc1 _ _ (by omega)).trans cS3, (hc1 _ _ (by omega)).trans cS4, (hc1 _ _ (by omega)).trans cS5, (hf1 _ _ (by omega)).trans cS6, (hf1 _ _ (by omega)).trans cS7⟩, below_step hw1 hB (by have := hB.size; omega), by omega⟩, (Or.inr (Or.inr (Or.inr (Or.inr (Or.inr (Or.inr (Or.inr (Or.inr (Or.inr (Or.inr (Or.inr (Or.inr (Or.inr (Or.inr (Or.inr ⟨n7, by rfl, by rfl, ⟨⟨zn7, by omega⟩, (hc1 _ _ (by omega)).trans dn7_0, (hf1 _ _ (by omega)).trans fn7_0, (hc1 _ _ (by omega)).trans dn7_1, (hf1 _ _ (by omega)).trans fn7_1⟩⟩)))))))))))))))⟩
  right
  refine wpAnyH_fuel 1 (by rfl) ?_
  simp only [Act.put, List.getElem_toArray, List.getElem_cons_succ, List.getElem_cons_zero, List.setIfInBounds_toArray, List.set_cons_zero, List.set_cons_succ]
  have : ¬ n7 = w.heap.size := by omega
  have : ¬ w.heap.size = n7 := by omega
  have : ¬ n7 = w.heap.size + 1 := by omega
  have : ¬ w.heap.size + 1 = n7 := by omega
  have : ¬ n7 = w.heap.size + 1 + 1 := by omega
  have : ¬ w.heap.size + 1 + 1 = n7 := by omega
  clear hH6
  refine wpAnyH_ready (rs := [20]) (by kernel_rfl) (by simp) ?_
  refine AllReadyH.cons rfl (fun Kq hKq => ?_) AllReadyH.nil
  go_simp
  refine hKq.out _ _ ?_ (fun hH7 => ?_)
  · (first | (refine ⟨?_, ?_, ?_, ?_, ?_, ?_, ?_, ?_⟩ <;> (simp only [World.cell?_setCell_far, World.frozen?_setCell, *, ne_eq, not_false_eq_true]); done) | (go_keep; done) | (simp [*, go_sem]; done))
  clear hKq Kq
  have hZ1 := hZ
  refine wpAnyH_fin (T := fun W => (W.cell? ⟨w.heap.size, 0, none⟩ = some (.int .i64 (f)) ∧ W.cell? ⟨w.heap.size, 1, none⟩ = some (.int .i64 (s)) ∧ W.cell? ⟨w.heap.size + 1, 0, none⟩ = some (.int .i64 (lo)) ∧ W.cell? ⟨w.heap.size + 1, 1, none⟩ = some (.int .i64 (hi)) ∧ W.cell? ⟨w.heap.size + 1 + 1, 0, none⟩ = some (.int .i64 (0)) ∧ W.cell? ⟨w.heap.size + 1 + 1, 1, none⟩ = some (.int .i64 (0)) ∧ W.frozen? ⟨w.heap.size + 1 + 1, 0, none⟩ = false ∧ W.frozen? ⟨w.heap.size + 1 + 1, 1, none⟩ = false) ∧ (W.cell? ⟨n7, 0, none⟩ = some (.int .i64 (max 0 A)) ∧ W.cell? ⟨n7, 1, none⟩ = some (.int .i64 (min 60 B))) ∧ (n7 < W.heap.size ∧ (w2.heap.size) ≤ W.heap.size) ∧ Below w.heap.size w W) (by kernel_rfl) ⟨hH7, ?_, ?_, ?_⟩ (fun W1 hT => ?_)
  · first | (refine ⟨?_, ?_⟩ <;> (simp only [World.cell?_setCell_far, *, ne_eq, not_false_eq_true]); done) | (clear hH7; simp [*, go_sem]; done) | (simp [go_sem, *]; done)
  · refine ⟨?_, ?_⟩ <;> (simp only [World.size_setCell]; omega)
  · (repeat' (first | (with_reducible exact Below.refl _ _) | (with_reducible assumption) | (with_reducible refine Below.alloc ?_ ?_ _) | (with_reducible refine Below.drew ?_) | (with_reducible refine below_drewN ?_ _) | (with_reducible refine Below.setCell ?_ ?_ _) | (with_reducible refine below_step (by with_reducible assumption) ?_ ?_) | (with_reducible exact Below.size (by with_reducible assumption)) | go_size))
  obtain ⟨⟨gS0, gS1, gS2, gS3, gS4, gS5, gS6, gS7⟩, ⟨gF0, gF1⟩, ⟨gZ0, gZ1⟩, hB1⟩ := hT
  clear hSW' hH7 hB hZ hZ1 cS0 cS1 cS2 cS3 cS4 cS5 cS6 cS7 zn7 yn7 dn7_0 fn7_0 dn7_1 fn7_1
  by_cases hm : max 0 A ≤ min 60 B
  all_goals
    go_wp2
    refine bodyPost_ret (by simp [results, Try.results74, go_sem, *]; rfl) rfl ?_
    exact ⟨by simp [hm], by (repeat' (first | (with_reducible exact Below.refl _ _) | (with_reducible assumption) | (with_reducible refine Below.alloc ?_ ?_ _) | (with_reducible refine Below.drew ?_) | (with_reducible refine below_drewN ?_ _) | (with_reducible refine Below.setCell ?_ ?_ _) | (with_reducible refine below_step (by with_reducible assumption) ?_ ?_) | (with_reducible exact Below.size (by with_reducible assumption)) | go_size))⟩
end Go.Proofs.Ythgnemkfaiejbaa
