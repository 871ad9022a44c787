/-
  TURNS of the reference: TurnErr and TurnedTime.
-/
import Derived.Test.YtpphnnbijmoodaaTurn
set_option linter.unusedVariables false
set_option linter.unusedSimpArgs false
namespace Go.Proofs.Ytpphnnbijmoodaa
open Go.RowKit

set_option maxRecDepth 100000 in
set_option maxHeartbeats 4000000 in
theorem rturnErr_any (fx fz tx tz T v1 v2 : Int) (w : World) (hT : -9223372036854775808 ≤ T ∧ T ≤ 9223372036854775807) :
    Calls Try.prog 56 #[.agg #[.int .i64 fx, .int .i64 fz, .int .i64 tx, .int .i64 tz, .int .i64 T, .int .i64 v1, .int .i64 v2]] w fun e w' => e = .returned (.int .i64 (tuE fx fz tx tz T v1 v2)) ∧ Below w.heap.size w w' := by
  have K1 := Lib.hid (fun W => refSpot_any fx fz W)
  have K2 := Lib.hid (fun W => refSpot_any tx tz W)
  have K5 := Lib.hid (fun W => refSpeed_any v1 W)
  have K6 := Lib.hid (fun W => refSpeed_any v2 W)
  have B1 : ∀ W, _ := fun W => bwithin_any T 2 20000 W
  have B2 : ∀ W, _ := fun W => bwithin_any fz 0 (T - 1) W
  have B3 : ∀ W, _ := fun W => bwithin_any tz 0 (T - 1) W
  have HE : tuE fx fz tx tz T v1 v2 = frst [spE fx fz, spE tx tz, unl (inB T 2 20000) 2, unl (bw fz T && bw tz T) 22, unl (inB v1 500 10000) 2, unl (inB v2 500 10000) 2] := rfl
  have bz : ∀ z, 2 ≤ T → bw z T = inB z 0 (T - 1) := by
    intro z h2
    rw [Bool.eq_iff_iff, bw_iff, inB_iff]
    omega
  generalize tuE fx fz tx tz T v1 v2 = g at *
  generalize spE fx fz = e1 at *
  generalize spE tx tz = e2 at *
  generalize unl (inB v1 500 10000) 2 = e5 at *
  generalize unl (inB v2 500 10000) 2 = e6 at *
  by_cases g0 : frst [e1, e2] = 0
  · have HF := Lib.hid g0
    have g1 : e1 = 0 ∧ e2 = 0 := by
      rw [frst_zero] at g0
      exact ⟨g0 _ (by simp), g0 _ (by simp)⟩
    rw [g1.1, g1.2] at HE
    clear g0 g1
    cases c1 : inB T 2 20000
    · rw [c1] at B1 HE
      have HE2 := Lib.hid HE
      have BT := Lib.hid B1
      clear HE B1 B2 B3 bz c1
      go_enter Try.func56, Try.ntmps56
      go_wp2
      refine wp_region_held_drew (S := fun w' => w'.cell? ⟨w.heap.size, 0, none⟩ = some (.int .i64 (fx)) ∧ w'.cell? ⟨w.heap.size, 1, none⟩ = some (.int .i64 (fz)) ∧ w'.cell? ⟨w.heap.size, 2, none⟩ = some (.int .i64 (tx)) ∧ w'.cell? ⟨w.heap.size, 3, none⟩ = some (.int .i64 (tz)) ∧ w'.cell? ⟨w.heap.size, 4, none⟩ = some (.int .i64 (T)) ∧ w'.cell? ⟨w.heap.size, 5, none⟩ = some (.int .i64 (v1)) ∧ w'.cell? ⟨w.heap.size, 6, none⟩ = some (.int .i64 (v2))) (by kernel_rfl) ?_ (fun hH1 => ?_)
      · (first | assumption | (refine ⟨?_, ?_, ?_, ?_, ?_, ?_, ?_⟩ <;> assumption) | (go_keep; done) | (simp [*, go_sem]; done))
      refine wpAnyH_pure (i := 0) (v := ?_) rfl (by kernel_rfl) (by kernel_rfl) (by kernel_rfl) (fun _ _ _ h => h) (by rfl) (by assumption) ?_ ?_
      rotate_left
      · (intro w hSw; (try dsimp only at hSw); go_simp; (try with_reducible rfl))
      simp only [Act.put, List.getElem_toArray, List.getElem_cons_succ, List.getElem_cons_zero, List.setIfInBounds_toArray, List.set_cons_zero, List.set_cons_succ]
      refine wpAnyH_pure (i := 1) (v := ?_) rfl (by kernel_rfl) (by kernel_rfl) (by kernel_rfl) (fun _ _ _ h => h) (by rfl) (by assumption) ?_ ?_
      rotate_left
      · (intro w hSw; (try dsimp only at hSw); go_simp; (try with_reducible rfl))
      simp only [Act.put, List.getElem_toArray, List.getElem_cons_succ, List.getElem_cons_zero, List.setIfInBounds_toArray, List.set_cons_zero, List.set_cons_succ]
      refine wpAnyH_pure (i := 3) (v := ?_) rfl (by kernel_rfl) (by kernel_rfl) (by kernel_rfl) (fun _ _ _ h => h) (by rfl) (by assumption) ?_ ?_
      rotate_left
      · (intro w hSw; (try dsimp only at hSw); go_simp; (try with_reducible rfl))
      simp only [Act.put, List.getElem_toArray, List.getElem_cons_succ, List.getElem_cons_zero, List.setIfInBounds_toArray, List.set_cons_zero, List.set_cons_succ]
      refine wpAnyH_pure (i := 4) (v := ?_) rfl (by kernel_rfl) (by kernel_rfl) (by kernel_rfl) (fun _ _ _ h => h) (by rfl) (by assumption) ?_ ?_
      rotate_left
      · (intro w hSw; (try dsimp only at hSw); go_simp; (try with_reducible rfl))
      simp only [Act.put, List.getElem_toArray, List.getElem_cons_succ, List.getElem_cons_zero, List.setIfInBounds_toArray, List.set_cons_zero, List.set_cons_succ]
      refine wpAnyH_ready (rs := [2]) (by kernel_rfl) (by simp) ?_
      refine AllReadyH.cons rfl (fun Kq hKq => ?_) AllReadyH.nil
      go_simp
      refine (K1.out _).mono ?_
      (rintro e w1 ⟨rfl, hw1⟩)
      obtain ⟨hcw1, hfw1, hlw1, hmw1, hnw1⟩ := bcell3 hw1
      have hzw1 := hw1.size
      (try simp only [World.size_alloc, World.size_setCell, World.size_drew, size_drewN] at hzw1)
      have cx1_0 : w1.cell? ⟨w.heap.size, 0, none⟩ = some (.int .i64 (fx)) := (hcw1 (w.heap.size) (0) (by first | omega | (simp only [World.size_alloc, World.size_drew, World.size_setCell, size_drewN]; omega))).trans (by first | assumption | (simp [go_sem, *]; done)); have cx1_1 : w1.cell? ⟨w.heap.size, 1, none⟩ = some (.int .i64 (fz)) := (hcw1 (w.heap.size) (1) (by first | omega | (simp only [World.size_alloc, World.size_drew, World.size_setCell, size_drewN]; omega))).trans (by first | assumption | (simp [go_sem, *]; done)); have cx1_2 : w1.cell? ⟨w.heap.size, 2, none⟩ = some (.int .i64 (tx)) := (hcw1 (w.heap.size) (2) (by first | omega | (simp only [World.size_alloc, World.size_drew, World.size_setCell, size_drewN]; omega))).trans (by first | assumption | (simp [go_sem, *]; done)); have cx1_3 : w1.cell? ⟨w.heap.size, 3, none⟩ = some (.int .i64 (tz)) := (hcw1 (w.heap.size) (3) (by first | omega | (simp only [World.size_alloc, World.size_drew, World.size_setCell, size_drewN]; omega))).trans (by first | assumption | (simp [go_sem, *]; done)); have cx1_4 : w1.cell? ⟨w.heap.size, 4, none⟩ = some (.int .i64 (T)) := (hcw1 (w.heap.size) (4) (by first | omega | (simp only [World.size_alloc, World.size_drew, World.size_setCell, size_drewN]; omega))).trans (by first | assumption | (simp [go_sem, *]; done)); have cx1_5 : w1.cell? ⟨w.heap.size, 5, none⟩ = some (.int .i64 (v1)) := (hcw1 (w.heap.size) (5) (by first | omega | (simp only [World.size_alloc, World.size_drew, World.size_setCell, size_drewN]; omega))).trans (by first | assumption | (simp [go_sem, *]; done)); have cx1_6 : w1.cell? ⟨w.heap.size, 6, none⟩ = some (.int .i64 (v2)) := (hcw1 (w.heap.size) (6) (by first | omega | (simp only [World.size_alloc, World.size_drew, World.size_setCell, size_drewN]; omega))).trans (by first | assumption | (simp [go_sem, *]; done)); have ox1 : w.heap.size < w1.heap.size := (by omega)
      refine hKq.out _ _ ?_ (fun hH2 => ?_)
      · (first | assumption | (refine ⟨?_, ?_, ?_, ?_, ?_, ?_, ?_⟩ <;> assumption) | (go_keep; done) | (simp [*, go_sem]; done))
      clear hKq Kq
      clear hH1
      refine wpAnyH_ready (rs := [5]) (by kernel_rfl) (by simp) ?_
      refine AllReadyH.cons rfl (fun Kq hKq => ?_) AllReadyH.nil
      go_simp
      refine (K2.out _).mono ?_
      (rintro e w2 ⟨rfl, hw2⟩)
      obtain ⟨hcw2, hfw2, hlw2, hmw2, hnw2⟩ := bcell3 hw2
      have hzw2 := hw2.size
      (try simp only [World.size_alloc, World.size_setCell, World.size_drew, size_drewN] at hzw2)
      have cx2_0 : w2.cell? ⟨w.heap.size, 0, none⟩ = some (.int .i64 (fx)) := (hcw2 (w.heap.size) (0) (by first | omega | (simp only [World.size_alloc, World.size_drew, World.size_setCell, size_drewN]; omega))).trans (by first | assumption | (simp [go_sem, *]; done)); have cx2_1 : w2.cell? ⟨w.heap.size, 1, none⟩ = some (.int .i64 (fz)) := (hcw2 (w.heap.size) (1) (by first | omega | (simp only [World.size_alloc, World.size_drew, World.size_setCell, size_drewN]; omega))).trans (by first | assumption | (simp [go_sem, *]; done)); have cx2_2 : w2.cell? ⟨w.heap.size, 2, none⟩ = some (.int .i64 (tx)) := (hcw2 (w.heap.size) (2) (by first | omega | (simp only [World.size_alloc, World.size_drew, World.size_setCell, size_drewN]; omega))).trans (by first | assumption | (simp [go_sem, *]; done)); have cx2_3 : w2.cell? ⟨w.heap.size, 3, none⟩ = some (.int .i64 (tz)) := (hcw2 (w.heap.size) (3) (by first | omega | (simp only [World.size_alloc, World.size_drew, World.size_setCell, size_drewN]; omega))).trans (by first | assumption | (simp [go_sem, *]; done)); have cx2_4 : w2.cell? ⟨w.heap.size, 4, none⟩ = some (.int .i64 (T)) := (hcw2 (w.heap.size) (4) (by first | omega | (simp only [World.size_alloc, World.size_drew, World.size_setCell, size_drewN]; omega))).trans (by first | assumption | (simp [go_sem, *]; done)); have cx2_5 : w2.cell? ⟨w.heap.size, 5, none⟩ = some (.int .i64 (v1)) := (hcw2 (w.heap.size) (5) (by first | omega | (simp only [World.size_alloc, World.size_drew, World.size_setCell, size_drewN]; omega))).trans (by first | assumption | (simp [go_sem, *]; done)); have cx2_6 : w2.cell? ⟨w.heap.size, 6, none⟩ = some (.int .i64 (v2)) := (hcw2 (w.heap.size) (6) (by first | omega | (simp only [World.size_alloc, World.size_drew, World.size_setCell, size_drewN]; omega))).trans (by first | assumption | (simp [go_sem, *]; done)); have ox2 : w.heap.size < w2.heap.size := (by omega)
      clear cx1_0 cx1_1 cx1_2 cx1_3 cx1_4 cx1_5 cx1_6
      refine hKq.out _ _ ?_ (fun hH3 => ?_)
      · (first | assumption | (refine ⟨?_, ?_, ?_, ?_, ?_, ?_, ?_⟩ <;> assumption) | (go_keep; done) | (simp [*, go_sem]; done))
      clear hKq Kq
      clear hH2
      refine wpAnyH_ready (rs := [6]) (by kernel_rfl) (by simp) ?_
      refine AllReadyH.cons rfl (fun Kq hKq => ?_) AllReadyH.nil
      go_simp
      refine hKq.out _ _ ?_ (fun hH4 => ?_)
      · (first | assumption | (refine ⟨?_, ?_, ?_, ?_, ?_, ?_, ?_⟩ <;> assumption) | (go_keep; done) | (simp [*, go_sem]; done))
      clear hKq Kq
      clear hH3
      refine wpAnyH_ready (rs := [7]) (by kernel_rfl) (by simp) ?_
      refine AllReadyH.cons rfl (fun Kq hKq => ?_) AllReadyH.nil
      go_simp
      apply Calls.mono
      focus ((apply rfirst2 <;> exact cell_fresh _ _ _ _ _ _ (by first | rfl | simp) rfl); done)
      (rw [HF.out]; rintro e w' ⟨rfl, rfl⟩)
      refine hKq.out _ _ ?_ (fun hH5 => ?_)
      · (first | assumption | (refine ⟨?_, ?_, ?_, ?_, ?_, ?_, ?_⟩ <;> assumption) | (go_keep; done) | (simp [*, go_sem]; done))
      clear hKq Kq
      clear hH4
      refine wpAnyH_pure (i := 8) (v := ?_) rfl (by kernel_rfl) (by kernel_rfl) (by kernel_rfl) (fun _ _ _ h => h) (by rfl) (by assumption) ?_ ?_
      rotate_left
      · (intro w hSw; (try dsimp only at hSw); go_simp; (try with_reducible rfl))
      simp only [Act.put, List.getElem_toArray, List.getElem_cons_succ, List.getElem_cons_zero, List.setIfInBounds_toArray, List.set_cons_zero, List.set_cons_succ]
      refine wpAnyH_done (by kernel_rfl) ?_ _
      go_wp2_with (go_at_call 40; refine (BT.out _).mono ?_; rintro e w' ⟨rfl, rfl⟩)
      go_ret
      exact ⟨ri (by rw [HE2.out]; rfl), by (repeat' (first | (with_reducible exact Below.refl _ _) | (with_reducible assumption) | (with_reducible refine Below.alloc ?_ ?_ _) | (with_reducible refine Below.drew ?_) | (with_reducible refine below_drewN ?_ _) | (with_reducible refine Below.setCell ?_ ?_ _) | (with_reducible refine below_step (by with_reducible assumption) ?_ ?_) | (with_reducible exact Below.size (by with_reducible assumption)) | go_size))⟩
    · have hT2 := inB_iff.1 c1
      rw [bz fz hT2.1, bz tz hT2.1] at HE
      rw [c1] at B1 HE
      have wr : IntKind.i64.wrap (T - 1) = T - 1 := IntWalk.i64_in _ (by omega)
      cases c2 : inB fz 0 (T - 1)
      · rw [c2] at B2 HE
        have HE2 := Lib.hid HE
        have BT := Lib.hid B1
        have BF := Lib.hid B2
        clear HE B1 B2 B3 bz c1 c2
        go_enter Try.func56, Try.ntmps56
        go_wp2
        refine wp_region_held_drew (S := fun w' => w'.cell? ⟨w.heap.size, 0, none⟩ = some (.int .i64 (fx)) ∧ w'.cell? ⟨w.heap.size, 1, none⟩ = some (.int .i64 (fz)) ∧ w'.cell? ⟨w.heap.size, 2, none⟩ = some (.int .i64 (tx)) ∧ w'.cell? ⟨w.heap.size, 3, none⟩ = some (.int .i64 (tz)) ∧ w'.cell? ⟨w.heap.size, 4, none⟩ = some (.int .i64 (T)) ∧ w'.cell? ⟨w.heap.size, 5, none⟩ = some (.int .i64 (v1)) ∧ w'.cell? ⟨w.heap.size, 6, none⟩ = some (.int .i64 (v2))) (by kernel_rfl) ?_ (fun hH6 => ?_)
        · (first | assumption | (refine ⟨?_, ?_, ?_, ?_, ?_, ?_, ?_⟩ <;> assumption) | (go_keep; done) | (simp [*, go_sem]; done))
        refine wpAnyH_pure (i := 0) (v := ?_) rfl (by kernel_rfl) (by kernel_rfl) (by kernel_rfl) (fun _ _ _ h => h) (by rfl) (by assumption) ?_ ?_
        rotate_left
        · (intro w hSw; (try dsimp only at hSw); go_simp; (try with_reducible rfl))
        simp only [Act.put, List.getElem_toArray, List.getElem_cons_succ, List.getElem_cons_zero, List.setIfInBounds_toArray, List.set_cons_zero, List.set_cons_succ]
        refine wpAnyH_pure (i := 1) (v := ?_) rfl (by kernel_rfl) (by kernel_rfl) (by kernel_rfl) (fun _ _ _ h => h) (by rfl) (by assumption) ?_ ?_
        rotate_left
        · (intro w hSw; (try dsimp only at hSw); go_simp; (try with_reducible rfl))
        simp only [Act.put, List.getElem_toArray, List.getElem_cons_succ, List.getElem_cons_zero, List.setIfInBounds_toArray, List.set_cons_zero, List.set_cons_succ]
        refine wpAnyH_pure (i := 3) (v := ?_) rfl (by kernel_rfl) (by kernel_rfl) (by kernel_rfl) (fun _ _ _ h => h) (by rfl) (by assumption) ?_ ?_
        rotate_left
        · (intro w hSw; (try dsimp only at hSw); go_simp; (try with_reducible rfl))
        simp only [Act.put, List.getElem_toArray, List.getElem_cons_succ, List.getElem_cons_zero, List.setIfInBounds_toArray, List.set_cons_zero, List.set_cons_succ]
        refine wpAnyH_pure (i := 4) (v := ?_) rfl (by kernel_rfl) (by kernel_rfl) (by kernel_rfl) (fun _ _ _ h => h) (by rfl) (by assumption) ?_ ?_
        rotate_left
        · (intro w hSw; (try dsimp only at hSw); go_simp; (try with_reducible rfl))
        simp only [Act.put, List.getElem_toArray, List.getElem_cons_succ, List.getElem_cons_zero, List.setIfInBounds_toArray, List.set_cons_zero, List.set_cons_succ]
        refine wpAnyH_ready (rs := [2]) (by kernel_rfl) (by simp) ?_
        refine AllReadyH.cons rfl (fun Kq hKq => ?_) AllReadyH.nil
        go_simp
        refine (K1.out _).mono ?_
        (rintro e w1 ⟨rfl, hw1⟩)
        obtain ⟨hcw1, hfw1, hlw1, hmw1, hnw1⟩ := bcell3 hw1
        have hzw1 := hw1.size
        (try simp only [World.size_alloc, World.size_setCell, World.size_drew, size_drewN] at hzw1)
        have cx1_0 : w1.cell? ⟨w.heap.size, 0, none⟩ = some (.int .i64 (fx)) := (hcw1 (w.heap.size) (0) (by first | omega | (simp only [World.size_alloc, World.size_drew, World.size_setCell, size_drewN]; omega))).trans (by first | assumption | (simp [go_sem, *]; done)); have cx1_1 : w1.cell? ⟨w.heap.size, 1, none⟩ = some (.int .i64 (fz)) := (hcw1 (w.heap.size) (1) (by first | omega | (simp only [World.size_alloc, World.size_drew, World.size_setCell, size_drewN]; omega))).trans (by first | assumption | (simp [go_sem, *]; done)); have cx1_2 : w1.cell? ⟨w.heap.size, 2, none⟩ = some (.int .i64 (tx)) := (hcw1 (w.heap.size) (2) (by first | omega | (simp only [World.size_alloc, World.size_drew, World.size_setCell, size_drewN]; omega))).trans (by first | assumption | (simp [go_sem, *]; done)); have cx1_3 : w1.cell? ⟨w.heap.size, 3, none⟩ = some (.int .i64 (tz)) := (hcw1 (w.heap.size) (3) (by first | omega | (simp only [World.size_alloc, World.size_drew, World.size_setCell, size_drewN]; omega))).trans (by first | assumption | (simp [go_sem, *]; done)); have cx1_4 : w1.cell? ⟨w.heap.size, 4, none⟩ = some (.int .i64 (T)) := (hcw1 (w.heap.size) (4) (by first | omega | (simp only [World.size_alloc, World.size_drew, World.size_setCell, size_drewN]; omega))).trans (by first | assumption | (simp [go_sem, *]; done)); have cx1_5 : w1.cell? ⟨w.heap.size, 5, none⟩ = some (.int .i64 (v1)) := (hcw1 (w.heap.size) (5) (by first | omega | (simp only [World.size_alloc, World.size_drew, World.size_setCell, size_drewN]; omega))).trans (by first | assumption | (simp [go_sem, *]; done)); have cx1_6 : w1.cell? ⟨w.heap.size, 6, none⟩ = some (.int .i64 (v2)) := (hcw1 (w.heap.size) (6) (by first | omega | (simp only [World.size_alloc, World.size_drew, World.size_setCell, size_drewN]; omega))).trans (by first | assumption | (simp [go_sem, *]; done)); have ox1 : w.heap.size < w1.heap.size := (by omega)
        refine hKq.out _ _ ?_ (fun hH7 => ?_)
        · (first | assumption | (refine ⟨?_, ?_, ?_, ?_, ?_, ?_, ?_⟩ <;> assumption) | (go_keep; done) | (simp [*, go_sem]; done))
        clear hKq Kq
        clear hH6
        refine wpAnyH_ready (rs := [5]) (by kernel_rfl) (by simp) ?_
        refine AllReadyH.cons rfl (fun Kq hKq => ?_) AllReadyH.nil
        go_simp
        refine (K2.out _).mono ?_
        (rintro e w2 ⟨rfl, hw2⟩)
        obtain ⟨hcw2, hfw2, hlw2, hmw2, hnw2⟩ := bcell3 hw2
        have hzw2 := hw2.size
        (try simp only [World.size_alloc, World.size_setCell, World.size_drew, size_drewN] at hzw2)
        have cx2_0 : w2.cell? ⟨w.heap.size, 0, none⟩ = some (.int .i64 (fx)) := (hcw2 (w.heap.size) (0) (by first | omega | (simp only [World.size_alloc, World.size_drew, World.size_setCell, size_drewN]; omega))).trans (by first | assumption | (simp [go_sem, *]; done)); have cx2_1 : w2.cell? ⟨w.heap.size, 1, none⟩ = some (.int .i64 (fz)) := (hcw2 (w.heap.size) (1) (by first | omega | (simp only [World.size_alloc, World.size_drew, World.size_setCell, size_drewN]; omega))).trans (by first | assumption | (simp [go_sem, *]; done)); have cx2_2 : w2.cell? ⟨w.heap.size, 2, none⟩ = some (.int .i64 (tx)) := (hcw2 (w.heap.size) (2) (by first | omega | (simp only [World.size_alloc, World.size_drew, World.size_setCell, size_drewN]; omega))).trans (by first | assumption | (simp [go_sem, *]; done)); have cx2_3 : w2.cell? ⟨w.heap.size, 3, none⟩ = some (.int .i64 (tz)) := (hcw2 (w.heap.size) (3) (by first | omega | (simp only [World.size_alloc, World.size_drew, World.size_setCell, size_drewN]; omega))).trans (by first | assumption | (simp [go_sem, *]; done)); have cx2_4 : w2.cell? ⟨w.heap.size, 4, none⟩ = some (.int .i64 (T)) := (hcw2 (w.heap.size) (4) (by first | omega | (simp only [World.size_alloc, World.size_drew, World.size_setCell, size_drewN]; omega))).trans (by first | assumption | (simp [go_sem, *]; done)); have cx2_5 : w2.cell? ⟨w.heap.size, 5, none⟩ = some (.int .i64 (v1)) := (hcw2 (w.heap.size) (5) (by first | omega | (simp only [World.size_alloc, World.size_drew, World.size_setCell, size_drewN]; omega))).trans (by first | assumption | (simp [go_sem, *]; done)); have cx2_6 : w2.cell? ⟨w.heap.size, 6, none⟩ = some (.int .i64 (v2)) := (hcw2 (w.heap.size) (6) (by first | omega | (simp only [World.size_alloc, World.size_drew, World.size_setCell, size_drewN]; omega))).trans (by first | assumption | (simp [go_sem, *]; done)); have ox2 : w.heap.size < w2.heap.size := (by omega)
        clear cx1_0 cx1_1 cx1_2 cx1_3 cx1_4 cx1_5 cx1_6
        refine hKq.out _ _ ?_ (fun hH8 => ?_)
        · (first | assumption | (refine ⟨?_, ?_, ?_, ?_, ?_, ?_, ?_⟩ <;> assumption) | (go_keep; done) | (simp [*, go_sem]; done))
        clear hKq Kq
        clear hH7
        refine wpAnyH_ready (rs := [6]) (by kernel_rfl) (by simp) ?_
        refine AllReadyH.cons rfl (fun Kq hKq => ?_) AllReadyH.nil
        go_simp
        refine hKq.out _ _ ?_ (fun hH9 => ?_)
        · (first | assumption | (refine ⟨?_, ?_, ?_, ?_, ?_, ?_, ?_⟩ <;> assumption) | (go_keep; done) | (simp [*, go_sem]; done))
        clear hKq Kq
        clear hH8
        refine wpAnyH_ready (rs := [7]) (by kernel_rfl) (by simp) ?_
        refine AllReadyH.cons rfl (fun Kq hKq => ?_) AllReadyH.nil
        go_simp
        apply Calls.mono
        focus ((apply rfirst2 <;> exact cell_fresh _ _ _ _ _ _ (by first | rfl | simp) rfl); done)
        (rw [HF.out]; rintro e w' ⟨rfl, rfl⟩)
        refine hKq.out _ _ ?_ (fun hH10 => ?_)
        · (first | assumption | (refine ⟨?_, ?_, ?_, ?_, ?_, ?_, ?_⟩ <;> assumption) | (go_keep; done) | (simp [*, go_sem]; done))
        clear hKq Kq
        clear hH9
        refine wpAnyH_pure (i := 8) (v := ?_) rfl (by kernel_rfl) (by kernel_rfl) (by kernel_rfl) (fun _ _ _ h => h) (by rfl) (by assumption) ?_ ?_
        rotate_left
        · (intro w hSw; (try dsimp only at hSw); go_simp; (try with_reducible rfl))
        simp only [Act.put, List.getElem_toArray, List.getElem_cons_succ, List.getElem_cons_zero, List.setIfInBounds_toArray, List.set_cons_zero, List.set_cons_succ]
        refine wpAnyH_done (by kernel_rfl) ?_ _
        go_wp2_with fail
        refine (BT.out _).mono ?_
        rintro e w' ⟨rfl, rfl⟩
        go_wp2_with fail
        refine (BF.out _).mono ?_
        rintro e w' ⟨rfl, rfl⟩
        go_wp2
        go_ret
        exact ⟨ri (by rw [HE2.out]; rfl), by (repeat' (first | (with_reducible exact Below.refl _ _) | (with_reducible assumption) | (with_reducible refine Below.alloc ?_ ?_ _) | (with_reducible refine Below.drew ?_) | (with_reducible refine below_drewN ?_ _) | (with_reducible refine Below.setCell ?_ ?_ _) | (with_reducible refine below_step (by with_reducible assumption) ?_ ?_) | (with_reducible exact Below.size (by with_reducible assumption)) | go_size))⟩
      · rw [c2] at B2 HE
        cases c3 : inB tz 0 (T - 1)
        · rw [c3] at B3 HE
          have HE2 := Lib.hid HE
          have BT := Lib.hid B1
          have BF := Lib.hid B2
          have BZ := Lib.hid B3
          clear HE B1 B2 B3 bz c1 c2 c3
          go_enter Try.func56, Try.ntmps56
          go_wp2
          refine wp_region_held_drew (S := fun w' => w'.cell? ⟨w.heap.size, 0, none⟩ = some (.int .i64 (fx)) ∧ w'.cell? ⟨w.heap.size, 1, none⟩ = some (.int .i64 (fz)) ∧ w'.cell? ⟨w.heap.size, 2, none⟩ = some (.int .i64 (tx)) ∧ w'.cell? ⟨w.heap.size, 3, none⟩ = some (.int .i64 (tz)) ∧ w'.cell? ⟨w.heap.size, 4, none⟩ = some (.int .i64 (T)) ∧ w'.cell? ⟨w.heap.size, 5, none⟩ = some (.int .i64 (v1)) ∧ w'.cell? ⟨w.heap.size, 6, none⟩ = some (.int .i64 (v2))) (by kernel_rfl) ?_ (fun hH11 => ?_)
          · (first | assumption | (refine ⟨?_, ?_, ?_, ?_, ?_, ?_, ?_⟩ <;> assumption) | (go_keep; done) | (simp [*, go_sem]; done))
          refine wpAnyH_pure (i := 0) (v := ?_) rfl (by kernel_rfl) (by kernel_rfl) (by kernel_rfl) (fun _ _ _ h => h) (by rfl) (by assumption) ?_ ?_
          rotate_left
          · (intro w hSw; (try dsimp only at hSw); go_simp; (try with_reducible rfl))
          simp only [Act.put, List.getElem_toArray, List.getElem_cons_succ, List.getElem_cons_zero, List.setIfInBounds_toArray, List.set_cons_zero, List.set_cons_succ]
          refine wpAnyH_pure (i := 1) (v := ?_) rfl (by kernel_rfl) (by kernel_rfl) (by kernel_rfl) (fun _ _ _ h => h) (by rfl) (by assumption) ?_ ?_
          rotate_left
          · (intro w hSw; (try dsimp only at hSw); go_simp; (try with_reducible rfl))
          simp only [Act.put, List.getElem_toArray, List.getElem_cons_succ, List.getElem_cons_zero, List.setIfInBounds_toArray, List.set_cons_zero, List.set_cons_succ]
          refine wpAnyH_pure (i := 3) (v := ?_) rfl (by kernel_rfl) (by kernel_rfl) (by kernel_rfl) (fun _ _ _ h => h) (by rfl) (by assumption) ?_ ?_
          rotate_left
          · (intro w hSw; (try dsimp only at hSw); go_simp; (try with_reducible rfl))
          simp only [Act.put, List.getElem_toArray, List.getElem_cons_succ, List.getElem_cons_zero, List.setIfInBounds_toArray, List.set_cons_zero, List.set_cons_succ]
          refine wpAnyH_pure (i := 4) (v := ?_) rfl (by kernel_rfl) (by kernel_rfl) (by kernel_rfl) (fun _ _ _ h => h) (by rfl) (by assumption) ?_ ?_
          rotate_left
          · (intro w hSw; (try dsimp only at hSw); go_simp; (try with_reducible rfl))
          simp only [Act.put, List.getElem_toArray, List.getElem_cons_succ, List.getElem_cons_zero, List.setIfInBounds_toArray, List.set_cons_zero, List.set_cons_succ]
          refine wpAnyH_ready (rs := [2]) (by kernel_rfl) (by simp) ?_
          refine AllReadyH.cons rfl (fun Kq hKq => ?_) AllReadyH.nil
          go_simp
          refine (K1.out _).mono ?_
          (rintro e w1 ⟨rfl, hw1⟩)
          obtain ⟨hcw1, hfw1, hlw1, hmw1, hnw1⟩ := bcell3 hw1
          have hzw1 := hw1.size
          (try simp only [World.size_alloc, World.size_setCell, World.size_drew, size_drewN] at hzw1)
          have cx1_0 : w1.cell? ⟨w.heap.size, 0, none⟩ = some (.int .i64 (fx)) := (hcw1 (w.heap.size) (0) (by first | omega | (simp only [World.size_alloc, World.size_drew, World.size_setCell, size_drewN]; omega))).trans (by first | assumption | (simp [go_sem, *]; done)); have cx1_1 : w1.cell? ⟨w.heap.size, 1, none⟩ = some (.int .i64 (fz)) := (hcw1 (w.heap.size) (1) (by first | omega | (simp only [World.size_alloc, World.size_drew, World.size_setCell, size_drewN]; omega))).trans (by first | assumption | (simp [go_sem, *]; done)); have cx1_2 : w1.cell? ⟨w.heap.size, 2, none⟩ = some (.int .i64 (tx)) := (hcw1 (w.heap.size) (2) (by first | omega | (simp only [World.size_alloc, World.size_drew, World.size_setCell, size_drewN]; omega))).trans (by first | assumption | (simp [go_sem, *]; done)); have cx1_3 : w1.cell? ⟨w.heap.size, 3, none⟩ = some (.int .i64 (tz)) := (hcw1 (w.heap.size) (3) (by first | omega | (simp only [World.size_alloc, World.size_drew, World.size_setCell, size_drewN]; omega))).trans (by first | assumption | (simp [go_sem, *]; done)); have cx1_4 : w1.cell? ⟨w.heap.size, 4, none⟩ = some (.int .i64 (T)) := (hcw1 (w.heap.size) (4) (by first | omega | (simp only [World.size_alloc, World.size_drew, World.size_setCell, size_drewN]; omega))).trans (by first | assumption | (simp [go_sem, *]; done)); have cx1_5 : w1.cell? ⟨w.heap.size, 5, none⟩ = some (.int .i64 (v1)) := (hcw1 (w.heap.size) (5) (by first | omega | (simp only [World.size_alloc, World.size_drew, World.size_setCell, size_drewN]; omega))).trans (by first | assumption | (simp [go_sem, *]; done)); have cx1_6 : w1.cell? ⟨w.heap.size, 6, none⟩ = some (.int .i64 (v2)) := (hcw1 (w.heap.size) (6) (by first | omega | (simp only [World.size_alloc, World.size_drew, World.size_setCell, size_drewN]; omega))).trans (by first | assumption | (simp [go_sem, *]; done)); have ox1 : w.heap.size < w1.heap.size := (by omega)
          refine hKq.out _ _ ?_ (fun hH12 => ?_)
          · (first | assumption | (refine ⟨?_, ?_, ?_, ?_, ?_, ?_, ?_⟩ <;> assumption) | (go_keep; done) | (simp [*, go_sem]; done))
          clear hKq Kq
          clear hH11
          refine wpAnyH_ready (rs := [5]) (by kernel_rfl) (by simp) ?_
          refine AllReadyH.cons rfl (fun Kq hKq => ?_) AllReadyH.nil
          go_simp
          refine (K2.out _).mono ?_
          (rintro e w2 ⟨rfl, hw2⟩)
          obtain ⟨hcw2, hfw2, hlw2, hmw2, hnw2⟩ := bcell3 hw2
          have hzw2 := hw2.size
          (try simp only [World.size_alloc, World.size_setCell, World.size_drew, size_drewN] at hzw2)
          have cx2_0 : w2.cell? ⟨w.heap.size, 0, none⟩ = some (.int .i64 (fx)) := (hcw2 (w.heap.size) (0) (by first | omega | (simp only [World.size_alloc, World.size_drew, World.size_setCell, size_drewN]; omega))).trans (by first | assumption | (simp [go_sem, *]; done)); have cx2_1 : w2.cell? ⟨w.heap.size, 1, none⟩ = some (.int .i64 (fz)) := (hcw2 (w.heap.size) (1) (by first | omega | (simp only [World.size_alloc, World.size_drew, World.size_setCell, size_drewN]; omega))).trans (by first | assumption | (simp [go_sem, *]; done)); have cx2_2 : w2.cell? ⟨w.heap.size, 2, none⟩ = some (.int .i64 (tx)) := (hcw2 (w.heap.size) (2) (by first | omega | (simp only [World.size_alloc, World.size_drew, World.size_setCell, size_drewN]; omega))).trans (by first | assumption | (simp [go_sem, *]; done)); have cx2_3 : w2.cell? ⟨w.heap.size, 3, none⟩ = some (.int .i64 (tz)) := (hcw2 (w.heap.size) (3) (by first | omega | (simp only [World.size_alloc, World.size_drew, World.size_setCell, size_drewN]; omega))).trans (by first | assumption | (simp [go_sem, *]; done)); have cx2_4 : w2.cell? ⟨w.heap.size, 4, none⟩ = some (.int .i64 (T)) := (hcw2 (w.heap.size) (4) (by first | omega | (simp only [World.size_alloc, World.size_drew, World.size_setCell, size_drewN]; omega))).trans (by first | assumption | (simp [go_sem, *]; done)); have cx2_5 : w2.cell? ⟨w.heap.size, 5, none⟩ = some (.int .i64 (v1)) := (hcw2 (w.heap.size) (5) (by first | omega | (simp only [World.size_alloc, World.size_drew, World.size_setCell, size_drewN]; omega))).trans (by first | assumption | (simp [go_sem, *]; done)); have cx2_6 : w2.cell? ⟨w.heap.size, 6, none⟩ = some (.int .i64 (v2)) := (hcw2 (w.heap.size) (6) (by first | omega | (simp only [World.size_alloc, World.size_drew, World.size_setCell, size_drewN]; omega))).trans (by first | assumption | (simp [go_sem, *]; done)); have ox2 : w.heap.size < w2.heap.size := (by omega)
          clear cx1_0 cx1_1 cx1_2 cx1_3 cx1_4 cx1_5 cx1_6
          refine hKq.out _ _ ?_ (fun hH13 => ?_)
          · (first | assumption | (refine ⟨?_, ?_, ?_, ?_, ?_, ?_, ?_⟩ <;> assumption) | (go_keep; done) | (simp [*, go_sem]; done))
          clear hKq Kq
          clear hH12
          refine wpAnyH_ready (rs := [6]) (by kernel_rfl) (by simp) ?_
          refine AllReadyH.cons rfl (fun Kq hKq => ?_) AllReadyH.nil
          go_simp
          refine hKq.out _ _ ?_ (fun hH14 => ?_)
          · (first | assumption | (refine ⟨?_, ?_, ?_, ?_, ?_, ?_, ?_⟩ <;> assumption) | (go_keep; done) | (simp [*, go_sem]; done))
          clear hKq Kq
          clear hH13
          refine wpAnyH_ready (rs := [7]) (by kernel_rfl) (by simp) ?_
          refine AllReadyH.cons rfl (fun Kq hKq => ?_) AllReadyH.nil
          go_simp
          apply Calls.mono
          focus ((apply rfirst2 <;> exact cell_fresh _ _ _ _ _ _ (by first | rfl | simp) rfl); done)
          (rw [HF.out]; rintro e w' ⟨rfl, rfl⟩)
          refine hKq.out _ _ ?_ (fun hH15 => ?_)
          · (first | assumption | (refine ⟨?_, ?_, ?_, ?_, ?_, ?_, ?_⟩ <;> assumption) | (go_keep; done) | (simp [*, go_sem]; done))
          clear hKq Kq
          clear hH14
          refine wpAnyH_pure (i := 8) (v := ?_) rfl (by kernel_rfl) (by kernel_rfl) (by kernel_rfl) (fun _ _ _ h => h) (by rfl) (by assumption) ?_ ?_
          rotate_left
          · (intro w hSw; (try dsimp only at hSw); go_simp; (try with_reducible rfl))
          simp only [Act.put, List.getElem_toArray, List.getElem_cons_succ, List.getElem_cons_zero, List.setIfInBounds_toArray, List.set_cons_zero, List.set_cons_succ]
          refine wpAnyH_done (by kernel_rfl) ?_ _
          go_wp2_with fail
          refine (BT.out _).mono ?_
          rintro e w' ⟨rfl, rfl⟩
          go_wp2_with fail
          refine (BF.out _).mono ?_
          rintro e w' ⟨rfl, rfl⟩
          go_wp2_with fail
          refine (BZ.out _).mono ?_
          rintro e w' ⟨rfl, rfl⟩
          go_wp2
          go_ret
          exact ⟨ri (by rw [HE2.out]; rfl), by (repeat' (first | (with_reducible exact Below.refl _ _) | (with_reducible assumption) | (with_reducible refine Below.alloc ?_ ?_ _) | (with_reducible refine Below.drew ?_) | (with_reducible refine below_drewN ?_ _) | (with_reducible refine Below.setCell ?_ ?_ _) | (with_reducible refine below_step (by with_reducible assumption) ?_ ?_) | (with_reducible exact Below.size (by with_reducible assumption)) | go_size))⟩
        · rw [c3] at B3 HE
          have HE2 := Lib.hid (show g = frst [e5, e6] by rw [HE]; rfl)
          have BT := Lib.hid B1
          have BF := Lib.hid B2
          have BZ := Lib.hid B3
          clear HE B1 B2 B3 bz c1 c2 c3
          go_enter Try.func56, Try.ntmps56
          go_wp2
          refine wp_region_held_drew (S := fun w' => w'.cell? ⟨w.heap.size, 0, none⟩ = some (.int .i64 (fx)) ∧ w'.cell? ⟨w.heap.size, 1, none⟩ = some (.int .i64 (fz)) ∧ w'.cell? ⟨w.heap.size, 2, none⟩ = some (.int .i64 (tx)) ∧ w'.cell? ⟨w.heap.size, 3, none⟩ = some (.int .i64 (tz)) ∧ w'.cell? ⟨w.heap.size, 4, none⟩ = some (.int .i64 (T)) ∧ w'.cell? ⟨w.heap.size, 5, none⟩ = some (.int .i64 (v1)) ∧ w'.cell? ⟨w.heap.size, 6, none⟩ = some (.int .i64 (v2))) (by kernel_rfl) ?_ (fun hH16 => ?_)
          · (first | assumption | (refine ⟨?_, ?_, ?_, ?_, ?_, ?_, ?_⟩ <;> assumption) | (go_keep; done) | (simp [*, go_sem]; done))
          refine wpAnyH_pure (i := 0) (v := ?_) rfl (by kernel_rfl) (by kernel_rfl) (by kernel_rfl) (fun _ _ _ h => h) (by rfl) (by assumption) ?_ ?_
          rotate_left
          · (intro w hSw; (try dsimp only at hSw); go_simp; (try with_reducible rfl))
          simp only [Act.put, List.getElem_toArray, List.getElem_cons_succ, List.getElem_cons_zero, List.setIfInBounds_toArray, List.set_cons_zero, List.set_cons_succ]
          refine wpAnyH_pure (i := 1) (v := ?_) rfl (by kernel_rfl) (by kernel_rfl) (by kernel_rfl) (fun _ _ _ h => h) (by rfl) (by assumption) ?_ ?_
          rotate_left
          · (intro w hSw; (try dsimp only at hSw); go_simp; (try with_reducible rfl))
          simp only [Act.put, List.getElem_toArray, List.getElem_cons_succ, List.getElem_cons_zero, List.setIfInBounds_toArray, List.set_cons_zero, List.set_cons_succ]
          refine wpAnyH_pure (i := 3) (v := ?_) rfl (by kernel_rfl) (by kernel_rfl) (by kernel_rfl) (fun _ _ _ h => h) (by rfl) (by assumption) ?_ ?_
          rotate_left
          · (intro w hSw; (try dsimp only at hSw); go_simp; (try with_reducible rfl))
          simp only [Act.put, List.getElem_toArray, List.getElem_cons_succ, List.getElem_cons_zero, List.setIfInBounds_toArray, List.set_cons_zero, List.set_cons_succ]
          refine wpAnyH_pure (i := 4) (v := ?_) rfl (by kernel_rfl) (by kernel_rfl) (by kernel_rfl) (fun _ _ _ h => h) (by rfl) (by assumption) ?_ ?_
          rotate_left
          · (intro w hSw; (try dsimp only at hSw); go_simp; (try with_reducible rfl))
          simp only [Act.put, List.getElem_toArray, List.getElem_cons_succ, List.getElem_cons_zero, List.setIfInBounds_toArray, List.set_cons_zero, List.set_cons_succ]
          refine wpAnyH_ready (rs := [2]) (by kernel_rfl) (by simp) ?_
          refine AllReadyH.cons rfl (fun Kq hKq => ?_) AllReadyH.nil
          go_simp
          refine (K1.out _).mono ?_
          (rintro e w1 ⟨rfl, hw1⟩)
          obtain ⟨hcw1, hfw1, hlw1, hmw1, hnw1⟩ := bcell3 hw1
          have hzw1 := hw1.size
          (try simp only [World.size_alloc, World.size_setCell, World.size_drew, size_drewN] at hzw1)
          have cx1_0 : w1.cell? ⟨w.heap.size, 0, none⟩ = some (.int .i64 (fx)) := (hcw1 (w.heap.size) (0) (by first | omega | (simp only [World.size_alloc, World.size_drew, World.size_setCell, size_drewN]; omega))).trans (by first | assumption | (simp [go_sem, *]; done)); have cx1_1 : w1.cell? ⟨w.heap.size, 1, none⟩ = some (.int .i64 (fz)) := (hcw1 (w.heap.size) (1) (by first | omega | (simp only [World.size_alloc, World.size_drew, World.size_setCell, size_drewN]; omega))).trans (by first | assumption | (simp [go_sem, *]; done)); have cx1_2 : w1.cell? ⟨w.heap.size, 2, none⟩ = some (.int .i64 (tx)) := (hcw1 (w.heap.size) (2) (by first | omega | (simp only [World.size_alloc, World.size_drew, World.size_setCell, size_drewN]; omega))).trans (by first | assumption | (simp [go_sem, *]; done)); have cx1_3 : w1.cell? ⟨w.heap.size, 3, none⟩ = some (.int .i64 (tz)) := (hcw1 (w.heap.size) (3) (by first | omega | (simp only [World.size_alloc, World.size_drew, World.size_setCell, size_drewN]; omega))).trans (by first | assumption | (simp [go_sem, *]; done)); have cx1_4 : w1.cell? ⟨w.heap.size, 4, none⟩ = some (.int .i64 (T)) := (hcw1 (w.heap.size) (4) (by first | omega | (simp only [World.size_alloc, World.size_drew, World.size_setCell, size_drewN]; omega))).trans (by first | assumption | (simp [go_sem, *]; done)); have cx1_5 : w1.cell? ⟨w.heap.size, 5, none⟩ = some (.int .i64 (v1)) := (hcw1 (w.heap.size) (5) (by first | omega | (simp only [World.size_alloc, World.size_drew, World.size_setCell, size_drewN]; omega))).trans (by first | assumption | (simp [go_sem, *]; done)); have cx1_6 : w1.cell? ⟨w.heap.size, 6, none⟩ = some (.int .i64 (v2)) := (hcw1 (w.heap.size) (6) (by first | omega | (simp only [World.size_alloc, World.size_drew, World.size_setCell, size_drewN]; omega))).trans (by first | assumption | (simp [go_sem, *]; done)); have ox1 : w.heap.size < w1.heap.size := (by omega)
          refine hKq.out _ _ ?_ (fun hH17 => ?_)
          · (first | assumption | (refine ⟨?_, ?_, ?_, ?_, ?_, ?_, ?_⟩ <;> assumption) | (go_keep; done) | (simp [*, go_sem]; done))
          clear hKq Kq
          clear hH16
          refine wpAnyH_ready (rs := [5]) (by kernel_rfl) (by simp) ?_
          refine AllReadyH.cons rfl (fun Kq hKq => ?_) AllReadyH.nil
          go_simp
          refine (K2.out _).mono ?_
          (rintro e w2 ⟨rfl, hw2⟩)
          obtain ⟨hcw2, hfw2, hlw2, hmw2, hnw2⟩ := bcell3 hw2
          have hzw2 := hw2.size
          (try simp only [World.size_alloc, World.size_setCell, World.size_drew, size_drewN] at hzw2)
          have cx2_0 : w2.cell? ⟨w.heap.size, 0, none⟩ = some (.int .i64 (fx)) := (hcw2 (w.heap.size) (0) (by first | omega | (simp only [World.size_alloc, World.size_drew, World.size_setCell, size_drewN]; omega))).trans (by first | assumption | (simp [go_sem, *]; done)); have cx2_1 : w2.cell? ⟨w.heap.size, 1, none⟩ = some (.int .i64 (fz)) := (hcw2 (w.heap.size) (1) (by first | omega | (simp only [World.size_alloc, World.size_drew, World.size_setCell, size_drewN]; omega))).trans (by first | assumption | (simp [go_sem, *]; done)); have cx2_2 : w2.cell? ⟨w.heap.size, 2, none⟩ = some (.int .i64 (tx)) := (hcw2 (w.heap.size) (2) (by first | omega | (simp only [World.size_alloc, World.size_drew, World.size_setCell, size_drewN]; omega))).trans (by first | assumption | (simp [go_sem, *]; done)); have cx2_3 : w2.cell? ⟨w.heap.size, 3, none⟩ = some (.int .i64 (tz)) := (hcw2 (w.heap.size) (3) (by first | omega | (simp only [World.size_alloc, World.size_drew, World.size_setCell, size_drewN]; omega))).trans (by first | assumption | (simp [go_sem, *]; done)); have cx2_4 : w2.cell? ⟨w.heap.size, 4, none⟩ = some (.int .i64 (T)) := (hcw2 (w.heap.size) (4) (by first | omega | (simp only [World.size_alloc, World.size_drew, World.size_setCell, size_drewN]; omega))).trans (by first | assumption | (simp [go_sem, *]; done)); have cx2_5 : w2.cell? ⟨w.heap.size, 5, none⟩ = some (.int .i64 (v1)) := (hcw2 (w.heap.size) (5) (by first | omega | (simp only [World.size_alloc, World.size_drew, World.size_setCell, size_drewN]; omega))).trans (by first | assumption | (simp [go_sem, *]; done)); have cx2_6 : w2.cell? ⟨w.heap.size, 6, none⟩ = some (.int .i64 (v2)) := (hcw2 (w.heap.size) (6) (by first | omega | (simp only [World.size_alloc, World.size_drew, World.size_setCell, size_drewN]; omega))).trans (by first | assumption | (simp [go_sem, *]; done)); have ox2 : w.heap.size < w2.heap.size := (by omega)
          clear cx1_0 cx1_1 cx1_2 cx1_3 cx1_4 cx1_5 cx1_6
          refine hKq.out _ _ ?_ (fun hH18 => ?_)
          · (first | assumption | (refine ⟨?_, ?_, ?_, ?_, ?_, ?_, ?_⟩ <;> assumption) | (go_keep; done) | (simp [*, go_sem]; done))
          clear hKq Kq
          clear hH17
          refine wpAnyH_ready (rs := [6]) (by kernel_rfl) (by simp) ?_
          refine AllReadyH.cons rfl (fun Kq hKq => ?_) AllReadyH.nil
          go_simp
          refine hKq.out _ _ ?_ (fun hH19 => ?_)
          · (first | assumption | (refine ⟨?_, ?_, ?_, ?_, ?_, ?_, ?_⟩ <;> assumption) | (go_keep; done) | (simp [*, go_sem]; done))
          clear hKq Kq
          clear hH18
          refine wpAnyH_ready (rs := [7]) (by kernel_rfl) (by simp) ?_
          refine AllReadyH.cons rfl (fun Kq hKq => ?_) AllReadyH.nil
          go_simp
          apply Calls.mono
          focus ((apply rfirst2 <;> exact cell_fresh _ _ _ _ _ _ (by first | rfl | simp) rfl); done)
          (rw [HF.out]; rintro e w' ⟨rfl, rfl⟩)
          refine hKq.out _ _ ?_ (fun hH20 => ?_)
          · (first | assumption | (refine ⟨?_, ?_, ?_, ?_, ?_, ?_, ?_⟩ <;> assumption) | (go_keep; done) | (simp [*, go_sem]; done))
          clear hKq Kq
          clear hH19
          refine wpAnyH_pure (i := 8) (v := ?_) rfl (by kernel_rfl) (by kernel_rfl) (by kernel_rfl) (fun _ _ _ h => h) (by rfl) (by assumption) ?_ ?_
          rotate_left
          · (intro w hSw; (try dsimp only at hSw); go_simp; (try with_reducible rfl))
          simp only [Act.put, List.getElem_toArray, List.getElem_cons_succ, List.getElem_cons_zero, List.setIfInBounds_toArray, List.set_cons_zero, List.set_cons_succ]
          refine wpAnyH_done (by kernel_rfl) ?_ _
          go_wp2_with fail
          refine (BT.out _).mono ?_
          rintro e w' ⟨rfl, rfl⟩
          go_wp2_with fail
          refine (BF.out _).mono ?_
          rintro e w' ⟨rfl, rfl⟩
          go_wp2_with fail
          refine (BZ.out _).mono ?_
          rintro e w' ⟨rfl, rfl⟩
          go_wp2_with fail
          refine wp_region_held_drew (S := fun w' => w'.cell? ⟨w.heap.size, 0, none⟩ = some (.int .i64 (fx)) ∧ w'.cell? ⟨w.heap.size, 1, none⟩ = some (.int .i64 (fz)) ∧ w'.cell? ⟨w.heap.size, 2, none⟩ = some (.int .i64 (tx)) ∧ w'.cell? ⟨w.heap.size, 3, none⟩ = some (.int .i64 (tz)) ∧ w'.cell? ⟨w.heap.size, 4, none⟩ = some (.int .i64 (T)) ∧ w'.cell? ⟨w.heap.size, 5, none⟩ = some (.int .i64 (v1)) ∧ w'.cell? ⟨w.heap.size, 6, none⟩ = some (.int .i64 (v2))) (by kernel_rfl) ?_ (fun hH21 => ?_)
          · (first | assumption | (refine ⟨?_, ?_, ?_, ?_, ?_, ?_, ?_⟩ <;> assumption) | (go_keep; done) | (simp [*, go_sem]; done))
          refine wpAnyH_pure (i := 0) (v := ?_) rfl (by kernel_rfl) (by kernel_rfl) (by kernel_rfl) (fun _ _ _ h => h) (by rfl) (by assumption) ?_ ?_
          rotate_left
          · (intro w hSw; (try dsimp only at hSw); go_simp; (try with_reducible rfl))
          simp only [Act.put, List.getElem_toArray, List.getElem_cons_succ, List.getElem_cons_zero, List.setIfInBounds_toArray, List.set_cons_zero, List.set_cons_succ]
          refine wpAnyH_pure (i := 1) (v := ?_) rfl (by kernel_rfl) (by kernel_rfl) (by kernel_rfl) (fun _ _ _ h => h) (by rfl) (by assumption) ?_ ?_
          rotate_left
          · (intro w hSw; (try dsimp only at hSw); go_simp; (try with_reducible rfl))
          simp only [Act.put, List.getElem_toArray, List.getElem_cons_succ, List.getElem_cons_zero, List.setIfInBounds_toArray, List.set_cons_zero, List.set_cons_succ]
          refine wpAnyH_pure (i := 3) (v := ?_) rfl (by kernel_rfl) (by kernel_rfl) (by kernel_rfl) (fun _ _ _ h => h) (by rfl) (by assumption) ?_ ?_
          rotate_left
          · (intro w hSw; (try dsimp only at hSw); go_simp; (try with_reducible rfl))
          simp only [Act.put, List.getElem_toArray, List.getElem_cons_succ, List.getElem_cons_zero, List.setIfInBounds_toArray, List.set_cons_zero, List.set_cons_succ]
          refine wpAnyH_pure (i := 4) (v := ?_) rfl (by kernel_rfl) (by kernel_rfl) (by kernel_rfl) (fun _ _ _ h => h) (by rfl) (by assumption) ?_ ?_
          rotate_left
          · (intro w hSw; (try dsimp only at hSw); go_simp; (try with_reducible rfl))
          simp only [Act.put, List.getElem_toArray, List.getElem_cons_succ, List.getElem_cons_zero, List.setIfInBounds_toArray, List.set_cons_zero, List.set_cons_succ]
          refine wpAnyH_ready (rs := [2]) (by kernel_rfl) (by simp) ?_
          refine AllReadyH.cons rfl (fun Kq hKq => ?_) AllReadyH.nil
          go_simp
          refine (K5.out _).mono ?_
          (rintro e w' ⟨rfl, rfl⟩)
          refine hKq.out _ _ ?_ (fun hH22 => ?_)
          · (first | assumption | (refine ⟨?_, ?_, ?_, ?_, ?_, ?_, ?_⟩ <;> assumption) | (go_keep; done) | (simp [*, go_sem]; done))
          clear hKq Kq
          clear hH21
          refine wpAnyH_ready (rs := [5]) (by kernel_rfl) (by simp) ?_
          refine AllReadyH.cons rfl (fun Kq hKq => ?_) AllReadyH.nil
          go_simp
          refine (K6.out _).mono ?_
          (rintro e w' ⟨rfl, rfl⟩)
          refine hKq.out _ _ ?_ (fun hH23 => ?_)
          · (first | assumption | (refine ⟨?_, ?_, ?_, ?_, ?_, ?_, ?_⟩ <;> assumption) | (go_keep; done) | (simp [*, go_sem]; done))
          clear hKq Kq
          clear hH22
          refine wpAnyH_ready (rs := [6]) (by kernel_rfl) (by simp) ?_
          refine AllReadyH.cons rfl (fun Kq hKq => ?_) AllReadyH.nil
          go_simp
          refine hKq.out _ _ ?_ (fun hH24 => ?_)
          · (first | assumption | (refine ⟨?_, ?_, ?_, ?_, ?_, ?_, ?_⟩ <;> assumption) | (go_keep; done) | (simp [*, go_sem]; done))
          clear hKq Kq
          clear hH23
          refine wpAnyH_ready (rs := [7]) (by kernel_rfl) (by simp) ?_
          refine AllReadyH.cons rfl (fun Kq hKq => ?_) AllReadyH.nil
          go_simp
          apply Calls.mono
          focus ((apply rfirst2 <;> exact cell_fresh _ _ _ _ _ _ (by first | rfl | simp) rfl); done)
          (rintro e w' ⟨rfl, rfl⟩)
          refine hKq.out _ _ ?_ (fun hH25 => ?_)
          · (first | assumption | (refine ⟨?_, ?_, ?_, ?_, ?_, ?_, ?_⟩ <;> assumption) | (go_keep; done) | (simp [*, go_sem]; done))
          clear hKq Kq
          clear hH24
          refine wpAnyH_pure (i := 8) (v := ?_) rfl (by kernel_rfl) (by kernel_rfl) (by kernel_rfl) (fun _ _ _ h => h) (by rfl) (by assumption) ?_ ?_
          rotate_left
          · (intro w hSw; (try dsimp only at hSw); go_simp; (try with_reducible rfl))
          simp only [Act.put, List.getElem_toArray, List.getElem_cons_succ, List.getElem_cons_zero, List.setIfInBounds_toArray, List.set_cons_zero, List.set_cons_succ]
          refine wpAnyH_done (by kernel_rfl) ?_ _
          go_wp2
          go_ret
          exact ⟨ri HE2.out.symm, by (repeat' (first | (with_reducible exact Below.refl _ _) | (with_reducible assumption) | (with_reducible refine Below.alloc ?_ ?_ _) | (with_reducible refine Below.drew ?_) | (with_reducible refine below_drewN ?_ _) | (with_reducible refine Below.setCell ?_ ?_ _) | (with_reducible refine below_step (by with_reducible assumption) ?_ ?_) | (with_reducible exact Below.size (by with_reducible assumption)) | go_size))⟩
  · have e0 : g = frst [e1, e2] := by
      rw [HE]
      by_cases c : e1 = 0
      · subst c
        have : ¬ e2 = 0 := fun e => g0 (by rw [e]; rfl)
        simp [frst, this]
      · simp [frst, c]
    clear HE B1 B2 B3 bz
    rw [← e0] at g0
    have HF := Lib.hid e0.symm
    clear e0
    go_enter Try.func56, Try.ntmps56
    go_wp2
    refine wp_region_held_drew (S := fun w' => w'.cell? ⟨w.heap.size, 0, none⟩ = some (.int .i64 (fx)) ∧ w'.cell? ⟨w.heap.size, 1, none⟩ = some (.int .i64 (fz)) ∧ w'.cell? ⟨w.heap.size, 2, none⟩ = some (.int .i64 (tx)) ∧ w'.cell? ⟨w.heap.size, 3, none⟩ = some (.int .i64 (tz)) ∧ w'.cell? ⟨w.heap.size, 4, none⟩ = some (.int .i64 (T)) ∧ w'.cell? ⟨w.heap.size, 5, none⟩ = some (.int .i64 (v1)) ∧ w'.cell? ⟨w.heap.size, 6, none⟩ = some (.int .i64 (v2))) (by kernel_rfl) ?_ (fun hH26 => ?_)
    · (first | assumption | (refine ⟨?_, ?_, ?_, ?_, ?_, ?_, ?_⟩ <;> assumption) | (go_keep; done) | (simp [*, go_sem]; done))
    refine wpAnyH_pure (i := 0) (v := ?_) rfl (by kernel_rfl) (by kernel_rfl) (by kernel_rfl) (fun _ _ _ h => h) (by rfl) (by assumption) ?_ ?_
    rotate_left
    · (intro w hSw; (try dsimp only at hSw); go_simp; (try with_reducible rfl))
    simp only [Act.put, List.getElem_toArray, List.getElem_cons_succ, List.getElem_cons_zero, List.setIfInBounds_toArray, List.set_cons_zero, List.set_cons_succ]
    refine wpAnyH_pure (i := 1) (v := ?_) rfl (by kernel_rfl) (by kernel_rfl) (by kernel_rfl) (fun _ _ _ h => h) (by rfl) (by assumption) ?_ ?_
    rotate_left
    · (intro w hSw; (try dsimp only at hSw); go_simp; (try with_reducible rfl))
    simp only [Act.put, List.getElem_toArray, List.getElem_cons_succ, List.getElem_cons_zero, List.setIfInBounds_toArray, List.set_cons_zero, List.set_cons_succ]
    refine wpAnyH_pure (i := 3) (v := ?_) rfl (by kernel_rfl) (by kernel_rfl) (by kernel_rfl) (fun _ _ _ h => h) (by rfl) (by assumption) ?_ ?_
    rotate_left
    · (intro w hSw; (try dsimp only at hSw); go_simp; (try with_reducible rfl))
    simp only [Act.put, List.getElem_toArray, List.getElem_cons_succ, List.getElem_cons_zero, List.setIfInBounds_toArray, List.set_cons_zero, List.set_cons_succ]
    refine wpAnyH_pure (i := 4) (v := ?_) rfl (by kernel_rfl) (by kernel_rfl) (by kernel_rfl) (fun _ _ _ h => h) (by rfl) (by assumption) ?_ ?_
    rotate_left
    · (intro w hSw; (try dsimp only at hSw); go_simp; (try with_reducible rfl))
    simp only [Act.put, List.getElem_toArray, List.getElem_cons_succ, List.getElem_cons_zero, List.setIfInBounds_toArray, List.set_cons_zero, List.set_cons_succ]
    refine wpAnyH_ready (rs := [2]) (by kernel_rfl) (by simp) ?_
    refine AllReadyH.cons rfl (fun Kq hKq => ?_) AllReadyH.nil
    go_simp
    refine (K1.out _).mono ?_
    (rintro e w1 ⟨rfl, hw1⟩)
    obtain ⟨hcw1, hfw1, hlw1, hmw1, hnw1⟩ := bcell3 hw1
    have hzw1 := hw1.size
    (try simp only [World.size_alloc, World.size_setCell, World.size_drew, size_drewN] at hzw1)
    have cx1_0 : w1.cell? ⟨w.heap.size, 0, none⟩ = some (.int .i64 (fx)) := (hcw1 (w.heap.size) (0) (by first | omega | (simp only [World.size_alloc, World.size_drew, World.size_setCell, size_drewN]; omega))).trans (by first | assumption | (simp [go_sem, *]; done)); have cx1_1 : w1.cell? ⟨w.heap.size, 1, none⟩ = some (.int .i64 (fz)) := (hcw1 (w.heap.size) (1) (by first | omega | (simp only [World.size_alloc, World.size_drew, World.size_setCell, size_drewN]; omega))).trans (by first | assumption | (simp [go_sem, *]; done)); have cx1_2 : w1.cell? ⟨w.heap.size, 2, none⟩ = some (.int .i64 (tx)) := (hcw1 (w.heap.size) (2) (by first | omega | (simp only [World.size_alloc, World.size_drew, World.size_setCell, size_drewN]; omega))).trans (by first | assumption | (simp [go_sem, *]; done)); have cx1_3 : w1.cell? ⟨w.heap.size, 3, none⟩ = some (.int .i64 (tz)) := (hcw1 (w.heap.size) (3) (by first | omega | (simp only [World.size_alloc, World.size_drew, World.size_setCell, size_drewN]; omega))).trans (by first | assumption | (simp [go_sem, *]; done)); have cx1_4 : w1.cell? ⟨w.heap.size, 4, none⟩ = some (.int .i64 (T)) := (hcw1 (w.heap.size) (4) (by first | omega | (simp only [World.size_alloc, World.size_drew, World.size_setCell, size_drewN]; omega))).trans (by first | assumption | (simp [go_sem, *]; done)); have cx1_5 : w1.cell? ⟨w.heap.size, 5, none⟩ = some (.int .i64 (v1)) := (hcw1 (w.heap.size) (5) (by first | omega | (simp only [World.size_alloc, World.size_drew, World.size_setCell, size_drewN]; omega))).trans (by first | assumption | (simp [go_sem, *]; done)); have cx1_6 : w1.cell? ⟨w.heap.size, 6, none⟩ = some (.int .i64 (v2)) := (hcw1 (w.heap.size) (6) (by first | omega | (simp only [World.size_alloc, World.size_drew, World.size_setCell, size_drewN]; omega))).trans (by first | assumption | (simp [go_sem, *]; done)); have ox1 : w.heap.size < w1.heap.size := (by omega)
    refine hKq.out _ _ ?_ (fun hH27 => ?_)
    · (first | assumption | (refine ⟨?_, ?_, ?_, ?_, ?_, ?_, ?_⟩ <;> assumption) | (go_keep; done) | (simp [*, go_sem]; done))
    clear hKq Kq
    clear hH26
    refine wpAnyH_ready (rs := [5]) (by kernel_rfl) (by simp) ?_
    refine AllReadyH.cons rfl (fun Kq hKq => ?_) AllReadyH.nil
    go_simp
    refine (K2.out _).mono ?_
    (rintro e w2 ⟨rfl, hw2⟩)
    obtain ⟨hcw2, hfw2, hlw2, hmw2, hnw2⟩ := bcell3 hw2
    have hzw2 := hw2.size
    (try simp only [World.size_alloc, World.size_setCell, World.size_drew, size_drewN] at hzw2)
    have cx2_0 : w2.cell? ⟨w.heap.size, 0, none⟩ = some (.int .i64 (fx)) := (hcw2 (w.heap.size) (0) (by first | omega | (simp only [World.size_alloc, World.size_drew, World.size_setCell, size_drewN]; omega))).trans (by first | assumption | (simp [go_sem, *]; done)); have cx2_1 : w2.cell? ⟨w.heap.size, 1, none⟩ = some (.int .i64 (fz)) := (hcw2 (w.heap.size) (1) (by first | omega | (simp only [World.size_alloc, World.size_drew, World.size_setCell, size_drewN]; omega))).trans (by first | assumption | (simp [go_sem, *]; done)); have cx2_2 : w2.cell? ⟨w.heap.size, 2, none⟩ = some (.int .i64 (tx)) := (hcw2 (w.heap.size) (2) (by first | omega | (simp only [World.size_alloc, World.size_drew, World.size_setCell, size_drewN]; omega))).trans (by first | assumption | (simp [go_sem, *]; done)); have cx2_3 : w2.cell? ⟨w.heap.size, 3, none⟩ = some (.int .i64 (tz)) := (hcw2 (w.heap.size) (3) (by first | omega | (simp only [World.size_alloc, World.size_drew, World.size_setCell, size_drewN]; omega))).trans (by first | assumption | (simp [go_sem, *]; done)); have cx2_4 : w2.cell? ⟨w.heap.size, 4, none⟩ = some (.int .i64 (T)) := (hcw2 (w.heap.size) (4) (by first | omega | (simp only [World.size_alloc, World.size_drew, World.size_setCell, size_drewN]; omega))).trans (by first | assumption | (simp [go_sem, *]; done)); have cx2_5 : w2.cell? ⟨w.heap.size, 5, none⟩ = some (.int .i64 (v1)) := (hcw2 (w.heap.size) (5) (by first | omega | (simp only [World.size_alloc, World.size_drew, World.size_setCell, size_drewN]; omega))).trans (by first | assumption | (simp [go_sem, *]; done)); have cx2_6 : w2.cell? ⟨w.heap.size, 6, none⟩ = some (.int .i64 (v2)) := (hcw2 (w.heap.size) (6) (by first | omega | (simp only [World.size_alloc, World.size_drew, World.size_setCell, size_drewN]; omega))).trans (by first | assumption | (simp [go_sem, *]; done)); have ox2 : w.heap.size < w2.heap.size := (by omega)
    clear cx1_0 cx1_1 cx1_2 cx1_3 cx1_4 cx1_5 cx1_6
    refine hKq.out _ _ ?_ (fun hH28 => ?_)
    · (first | assumption | (refine ⟨?_, ?_, ?_, ?_, ?_, ?_, ?_⟩ <;> assumption) | (go_keep; done) | (simp [*, go_sem]; done))
    clear hKq Kq
    clear hH27
    refine wpAnyH_ready (rs := [6]) (by kernel_rfl) (by simp) ?_
    refine AllReadyH.cons rfl (fun Kq hKq => ?_) AllReadyH.nil
    go_simp
    refine hKq.out _ _ ?_ (fun hH29 => ?_)
    · (first | assumption | (refine ⟨?_, ?_, ?_, ?_, ?_, ?_, ?_⟩ <;> assumption) | (go_keep; done) | (simp [*, go_sem]; done))
    clear hKq Kq
    clear hH28
    refine wpAnyH_ready (rs := [7]) (by kernel_rfl) (by simp) ?_
    refine AllReadyH.cons rfl (fun Kq hKq => ?_) AllReadyH.nil
    go_simp
    apply Calls.mono
    focus ((apply rfirst2 <;> exact cell_fresh _ _ _ _ _ _ (by first | rfl | simp) rfl); done)
    (rw [HF.out]; rintro e w' ⟨rfl, rfl⟩)
    refine hKq.out _ _ ?_ (fun hH30 => ?_)
    · (first | assumption | (refine ⟨?_, ?_, ?_, ?_, ?_, ?_, ?_⟩ <;> assumption) | (go_keep; done) | (simp [*, go_sem]; done))
    clear hKq Kq
    clear hH29
    refine wpAnyH_pure (i := 8) (v := ?_) rfl (by kernel_rfl) (by kernel_rfl) (by kernel_rfl) (fun _ _ _ h => h) (by rfl) (by assumption) ?_ ?_
    rotate_left
    · (intro w hSw; (try dsimp only at hSw); go_simp; (try with_reducible rfl))
    simp only [Act.put, List.getElem_toArray, List.getElem_cons_succ, List.getElem_cons_zero, List.setIfInBounds_toArray, List.set_cons_zero, List.set_cons_succ]
    refine wpAnyH_done (by kernel_rfl) ?_ _
    go_wp2
    go_ret
    exact ⟨rfl, by (repeat' (first | (with_reducible exact Below.refl _ _) | (with_reducible assumption) | (with_reducible refine Below.alloc ?_ ?_ _) | (with_reducible refine Below.drew ?_) | (with_reducible refine below_drewN ?_ _) | (with_reducible refine Below.setCell ?_ ?_ _) | (with_reducible refine below_step (by with_reducible assumption) ?_ ?_) | (with_reducible exact Below.size (by with_reducible assumption)) | go_size))⟩
set_option maxRecDepth 100000 in
set_option maxHeartbeats 1000000 in
theorem rturnedTime_any (fx fz tx tz T v1 v2 : Int) (w : World) (h : okT fx fz tx tz T v1 v2) :
    Calls Try.prog 57 #[.agg #[.int .i64 fx, .int .i64 fz, .int .i64 tx, .int .i64 tz, .int .i64 T, .int .i64 v1, .int .i64 v2]] w fun e w' => e = .returned (.agg #[.int .i64 (lsL (crT fx fz tx tz T v1 v2)), .int .i64 (lsH (crT fx fz tx tz T v1 v2))]) ∧ Below w.heap.size w w' := by
  have K1 : Hid (∀ W, Calls Try.prog 38 #[.agg #[.int .i64 fx, .int .i64 (T - fz), .int .i64 v1, .int .i64 tx, .int .i64 (T - tz), .int .i64 v2]] W fun e w' => e = .returned (.agg #[.int .i64 (lsL (crT fx fz tx tz T v1 v2)), .int .i64 (lsH (crT fx fz tx tz T v1 v2))]) ∧ Below W.heap.size W w') := Lib.hid (fun W => rleast_any (crT fx fz tx tz T v1 v2) W (okC_turn h))
  generalize lsL (crT fx fz tx tz T v1 v2) = a at *
  generalize lsH (crT fx fz tx tz T v1 v2) = b at *
  obtain ⟨-, -, c, d, e, -, -⟩ := h
  go_enter Try.func57, Try.ntmps57
  go_wp2_with fail; (refine (K1.out _).mono ?_; rintro e w1 ⟨rfl, hw1⟩; obtain ⟨hcw1, hfw1, hlw1, hmw1, hnw1⟩ := bcell3 hw1; have hzw1 := hw1.size; (try simp only [World.size_alloc, World.size_setCell, World.size_drew, size_drewN] at hzw1))
  have cx1_0 : w1.cell? ⟨w.heap.size, 0, none⟩ = some (.int .i64 (fx)) := (hcw1 (w.heap.size) (0) (by first | omega | (simp only [World.size_alloc, World.size_drew, World.size_setCell, size_drewN]; omega))).trans (by first | assumption | (simp [go_sem, *]; done)); have cx1_1 : w1.cell? ⟨w.heap.size, 1, none⟩ = some (.int .i64 (fz)) := (hcw1 (w.heap.size) (1) (by first | omega | (simp only [World.size_alloc, World.size_drew, World.size_setCell, size_drewN]; omega))).trans (by first | assumption | (simp [go_sem, *]; done)); have cx1_2 : w1.cell? ⟨w.heap.size, 2, none⟩ = some (.int .i64 (tx)) := (hcw1 (w.heap.size) (2) (by first | omega | (simp only [World.size_alloc, World.size_drew, World.size_setCell, size_drewN]; omega))).trans (by first | assumption | (simp [go_sem, *]; done)); have cx1_3 : w1.cell? ⟨w.heap.size, 3, none⟩ = some (.int .i64 (tz)) := (hcw1 (w.heap.size) (3) (by first | omega | (simp only [World.size_alloc, World.size_drew, World.size_setCell, size_drewN]; omega))).trans (by first | assumption | (simp [go_sem, *]; done)); have cx1_4 : w1.cell? ⟨w.heap.size, 4, none⟩ = some (.int .i64 (T)) := (hcw1 (w.heap.size) (4) (by first | omega | (simp only [World.size_alloc, World.size_drew, World.size_setCell, size_drewN]; omega))).trans (by first | assumption | (simp [go_sem, *]; done)); have cx1_5 : w1.cell? ⟨w.heap.size, 5, none⟩ = some (.int .i64 (v1)) := (hcw1 (w.heap.size) (5) (by first | omega | (simp only [World.size_alloc, World.size_drew, World.size_setCell, size_drewN]; omega))).trans (by first | assumption | (simp [go_sem, *]; done)); have cx1_6 : w1.cell? ⟨w.heap.size, 6, none⟩ = some (.int .i64 (v2)) := (hcw1 (w.heap.size) (6) (by first | omega | (simp only [World.size_alloc, World.size_drew, World.size_setCell, size_drewN]; omega))).trans (by first | assumption | (simp [go_sem, *]; done)); have ox1 : w.heap.size < w1.heap.size := (by omega)
  have crz1_0 : w1.cell? ⟨w.heap.size + 1, 0, none⟩ = some (.int .i64 (0)) := (hcw1 (w.heap.size + 1) (0) (by first | omega | (simp only [World.size_alloc, World.size_drew, World.size_setCell, size_drewN]; omega))).trans (by first | assumption | (simp [go_sem, *]; done)); have crz1_1 : w1.cell? ⟨w.heap.size + 1, 1, none⟩ = some (.int .i64 (0)) := (hcw1 (w.heap.size + 1) (1) (by first | omega | (simp only [World.size_alloc, World.size_drew, World.size_setCell, size_drewN]; omega))).trans (by first | assumption | (simp [go_sem, *]; done)); have orz1 : w.heap.size + 1 < w1.heap.size := (by omega)
  have prz1_0 : w1.frozen? ⟨w.heap.size + 1, 0, none⟩ = false := (hfw1 (w.heap.size + 1) (0) (by first | omega | (simp only [World.size_alloc, World.size_drew, World.size_setCell, size_drewN]; omega))).trans (by first | assumption | (simp [go_sem, *]; done)); have prz1_1 : w1.frozen? ⟨w.heap.size + 1, 1, none⟩ = false := (hfw1 (w.heap.size + 1) (1) (by first | omega | (simp only [World.size_alloc, World.size_drew, World.size_setCell, size_drewN]; omega))).trans (by first | assumption | (simp [go_sem, *]; done))
  go_wp2
  refine bodyPost_ret (by simp [results, Try.results57, go_sem, *]; rfl) rfl ?_
  exact ⟨rfl, by (repeat' (first | (with_reducible exact Below.refl _ _) | (with_reducible assumption) | (with_reducible refine Below.alloc ?_ ?_ _) | (with_reducible refine Below.drew ?_) | (with_reducible refine below_drewN ?_ _) | (with_reducible refine Below.setCell ?_ ?_ _) | (with_reducible refine below_step (by with_reducible assumption) ?_ ?_) | (with_reducible exact Below.size (by with_reducible assumption)) | go_size))⟩
end Go.Proofs.Ytpphnnbijmoodaa
