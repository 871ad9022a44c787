/-
  ECHOES of the reference: EchoErr, EchoTime.
-/
import Derived.Test.YtegdokmgplancaaEchoS
set_option linter.unusedVariables false
set_option linter.unusedSimpArgs false
namespace Go.Proofs.Ytegdokmgplancaa
open Go.RowKit

theorem frst_app : ∀ (l r : List Int), frst (l ++ r) = if frst l = 0 then frst r else frst l
  | [], r => by simp [frst]
  | e :: l, r => by
    rw [List.cons_append, frst, frst, frst_app l r]
    by_cases h : e = 0
    · rw [if_pos h, if_pos h]
    · rw [if_neg h, if_neg h, if_neg h]
set_option maxRecDepth 100000 in
set_option maxHeartbeats 2000000 in
theorem rechoErr_any (e : Ec) (w : World) :
    Calls Try.prog 59 #[e.v] w fun r w' => r = .returned (.int .i64 (ecE e)) ∧ Below w.heap.size w w' := by
  have K1 := Lib.hid (fun W => rcheckMode_any e.o W)
  have K2 := Lib.hid (fun W => rcheckMode_any e.b W)
  have HE : ecE e = if frst [mE e.o, mE e.b] = 0 then frst [wE e.o e.fx e.fz e.ax e.az, wE e.b e.tx e.tz e.ax e.az] else frst [mE e.o, mE e.b] := frst_app [mE e.o, mE e.b] [wE e.o e.fx e.fz e.ax e.az, wE e.b e.tx e.tz e.ax e.az]
  by_cases h : frst [mE e.o, mE e.b] = 0
  · rw [if_pos h] at HE
    have hm := h
    rw [frst_zero] at hm
    have m1 := mE_zero.1 (hm _ (by simp : mE e.o ∈ _))
    have m2 := mE_zero.1 (hm _ (by simp : mE e.b ∈ _))
    have K3 := Lib.hid (fun W => rwayErr_any e.o e.fx e.fz e.ax e.az W m1)
    have K4 := Lib.hid (fun W => rwayErr_any e.b e.tx e.tz e.ax e.az W m2)
    have HF := Lib.hid h
    have HE2 := Lib.hid HE
    clear HE h hm m1 m2
    unfold Ec.v
    generalize mE e.o = e1 at *
    generalize mE e.b = e2 at *
    generalize wE e.o e.fx e.fz e.ax e.az = e3 at *
    generalize wE e.b e.tx e.tz e.ax e.az = e4 at *
    go_enter Try.func59, Try.ntmps59
    go_wp2
    refine wp_region_held_drew (S := fun w' => w'.cell? ⟨w.heap.size, 0, none⟩ = some (.int .i64 (e.o.Wedge)) ∧ w'.cell? ⟨w.heap.size, 1, none⟩ = some (.int .i64 (e.o.Metal)) ∧ w'.cell? ⟨w.heap.size, 2, none⟩ = some (.int .i64 (e.o.Skips)) ∧ w'.cell? ⟨w.heap.size, 3, none⟩ = some (.int .i64 (e.o.Thick)) ∧ w'.cell? ⟨w.heap.size, 4, none⟩ = some (.int .i64 (e.b.Wedge)) ∧ w'.cell? ⟨w.heap.size, 5, none⟩ = some (.int .i64 (e.b.Metal)) ∧ w'.cell? ⟨w.heap.size, 6, none⟩ = some (.int .i64 (e.b.Skips)) ∧ w'.cell? ⟨w.heap.size, 7, none⟩ = some (.int .i64 (e.b.Thick)) ∧ w'.cell? ⟨w.heap.size, 8, none⟩ = some (.int .i64 (e.fx)) ∧ w'.cell? ⟨w.heap.size, 9, none⟩ = some (.int .i64 (e.fz)) ∧ w'.cell? ⟨w.heap.size, 10, none⟩ = some (.int .i64 (e.ax)) ∧ w'.cell? ⟨w.heap.size, 11, none⟩ = some (.int .i64 (e.az)) ∧ w'.cell? ⟨w.heap.size, 12, none⟩ = some (.int .i64 (e.tx)) ∧ w'.cell? ⟨w.heap.size, 13, none⟩ = some (.int .i64 (e.tz))) (by kernel_rfl) ?_ (fun hH1 => ?_)
    · (first | assumption | (refine ⟨?_, ?_, ?_, ?_, ?_, ?_, ?_, ?_, ?_, ?_, ?_, ?_, ?_, ?_⟩ <;> assumption) | (go_keep; done) | (simp [*, go_sem]; done))
    refine wpAnyH_pure (i := 0) (v := ?_) rfl (by kernel_rfl) (by kernel_rfl) (by kernel_rfl) (fun _ _ _ h => h) (by rfl) (by assumption) ?_ ?_
    rotate_left
    · (intro w hSw; (try dsimp only at hSw); go_simp; (try with_reducible rfl))
    simp only [Act.put, List.getElem_toArray, List.getElem_cons_succ, List.getElem_cons_zero, List.setIfInBounds_toArray, List.set_cons_zero, List.set_cons_succ]
    refine wpAnyH_pure (i := 1) (v := ?_) rfl (by kernel_rfl) (by kernel_rfl) (by kernel_rfl) (fun _ _ _ h => h) (by rfl) (by assumption) ?_ ?_
    rotate_left
    · (intro w hSw; (try dsimp only at hSw); go_simp; (try with_reducible rfl))
    simp only [Act.put, List.getElem_toArray, List.getElem_cons_succ, List.getElem_cons_zero, List.setIfInBounds_toArray, List.set_cons_zero, List.set_cons_succ]
    refine wpAnyH_pure (i := 3) (v := ?_) rfl (by kernel_rfl) (by kernel_rfl) (by kernel_rfl) (fun _ _ _ h => h) (by rfl) (by assumption) ?_ ?_
    rotate_left
    · (intro w hSw; (try dsimp only at hSw); go_simp; (try with_reducible rfl))
    simp only [Act.put, List.getElem_toArray, List.getElem_cons_succ, List.getElem_cons_zero, List.setIfInBounds_toArray, List.set_cons_zero, List.set_cons_succ]
    refine wpAnyH_pure (i := 4) (v := ?_) rfl (by kernel_rfl) (by kernel_rfl) (by kernel_rfl) (fun _ _ _ h => h) (by rfl) (by assumption) ?_ ?_
    rotate_left
    · (intro w hSw; (try dsimp only at hSw); go_simp; (try with_reducible rfl))
    simp only [Act.put, List.getElem_toArray, List.getElem_cons_succ, List.getElem_cons_zero, List.setIfInBounds_toArray, List.set_cons_zero, List.set_cons_succ]
    refine wpAnyH_ready (rs := [2]) (by kernel_rfl) (by simp) ?_
    refine AllReadyH.cons rfl (fun Kq hKq => ?_) AllReadyH.nil
    go_simp
    refine (K1.out _).mono ?_
    (rintro e w1 ⟨rfl, hw1⟩)
    obtain ⟨hcw1, hfw1, hlw1, hmw1, hnw1⟩ := bcell3 hw1
    have hzw1 := hw1.size
    (try simp only [World.size_alloc, World.size_setCell, World.size_drew, size_drewN] at hzw1)
    have ca1_0 : w1.cell? ⟨w.heap.size, 0, none⟩ = some (.int .i64 (e.o.Wedge)) := (hcw1 (w.heap.size) 0 (by first | omega | (simp only [World.size_alloc, World.size_drew, World.size_setCell, size_drewN]; omega))).trans (by first | assumption | (simp [go_sem, *]; done)); have ca1_1 : w1.cell? ⟨w.heap.size, 1, none⟩ = some (.int .i64 (e.o.Metal)) := (hcw1 (w.heap.size) 1 (by first | omega | (simp only [World.size_alloc, World.size_drew, World.size_setCell, size_drewN]; omega))).trans (by first | assumption | (simp [go_sem, *]; done)); have ca1_2 : w1.cell? ⟨w.heap.size, 2, none⟩ = some (.int .i64 (e.o.Skips)) := (hcw1 (w.heap.size) 2 (by first | omega | (simp only [World.size_alloc, World.size_drew, World.size_setCell, size_drewN]; omega))).trans (by first | assumption | (simp [go_sem, *]; done)); have ca1_3 : w1.cell? ⟨w.heap.size, 3, none⟩ = some (.int .i64 (e.o.Thick)) := (hcw1 (w.heap.size) 3 (by first | omega | (simp only [World.size_alloc, World.size_drew, World.size_setCell, size_drewN]; omega))).trans (by first | assumption | (simp [go_sem, *]; done)); have ca1_4 : w1.cell? ⟨w.heap.size, 4, none⟩ = some (.int .i64 (e.b.Wedge)) := (hcw1 (w.heap.size) 4 (by first | omega | (simp only [World.size_alloc, World.size_drew, World.size_setCell, size_drewN]; omega))).trans (by first | assumption | (simp [go_sem, *]; done)); have ca1_5 : w1.cell? ⟨w.heap.size, 5, none⟩ = some (.int .i64 (e.b.Metal)) := (hcw1 (w.heap.size) 5 (by first | omega | (simp only [World.size_alloc, World.size_drew, World.size_setCell, size_drewN]; omega))).trans (by first | assumption | (simp [go_sem, *]; done)); have ca1_6 : w1.cell? ⟨w.heap.size, 6, none⟩ = some (.int .i64 (e.b.Skips)) := (hcw1 (w.heap.size) 6 (by first | omega | (simp only [World.size_alloc, World.size_drew, World.size_setCell, size_drewN]; omega))).trans (by first | assumption | (simp [go_sem, *]; done)); have ca1_7 : w1.cell? ⟨w.heap.size, 7, none⟩ = some (.int .i64 (e.b.Thick)) := (hcw1 (w.heap.size) 7 (by first | omega | (simp only [World.size_alloc, World.size_drew, World.size_setCell, size_drewN]; omega))).trans (by first | assumption | (simp [go_sem, *]; done)); have ca1_8 : w1.cell? ⟨w.heap.size, 8, none⟩ = some (.int .i64 (e.fx)) := (hcw1 (w.heap.size) 8 (by first | omega | (simp only [World.size_alloc, World.size_drew, World.size_setCell, size_drewN]; omega))).trans (by first | assumption | (simp [go_sem, *]; done)); have ca1_9 : w1.cell? ⟨w.heap.size, 9, none⟩ = some (.int .i64 (e.fz)) := (hcw1 (w.heap.size) 9 (by first | omega | (simp only [World.size_alloc, World.size_drew, World.size_setCell, size_drewN]; omega))).trans (by first | assumption | (simp [go_sem, *]; done)); have ca1_10 : w1.cell? ⟨w.heap.size, 10, none⟩ = some (.int .i64 (e.ax)) := (hcw1 (w.heap.size) 10 (by first | omega | (simp only [World.size_alloc, World.size_drew, World.size_setCell, size_drewN]; omega))).trans (by first | assumption | (simp [go_sem, *]; done)); have ca1_11 : w1.cell? ⟨w.heap.size, 11, none⟩ = some (.int .i64 (e.az)) := (hcw1 (w.heap.size) 11 (by first | omega | (simp only [World.size_alloc, World.size_drew, World.size_setCell, size_drewN]; omega))).trans (by first | assumption | (simp [go_sem, *]; done)); have ca1_12 : w1.cell? ⟨w.heap.size, 12, none⟩ = some (.int .i64 (e.tx)) := (hcw1 (w.heap.size) 12 (by first | omega | (simp only [World.size_alloc, World.size_drew, World.size_setCell, size_drewN]; omega))).trans (by first | assumption | (simp [go_sem, *]; done)); have ca1_13 : w1.cell? ⟨w.heap.size, 13, none⟩ = some (.int .i64 (e.tz)) := (hcw1 (w.heap.size) 13 (by first | omega | (simp only [World.size_alloc, World.size_drew, World.size_setCell, size_drewN]; omega))).trans (by first | assumption | (simp [go_sem, *]; done)); have oa1 : w.heap.size < w1.heap.size := (by omega)
    refine hKq.out _ _ ?_ (fun hH2 => ?_)
    · (first | assumption | (refine ⟨?_, ?_, ?_, ?_, ?_, ?_, ?_, ?_, ?_, ?_, ?_, ?_, ?_, ?_⟩ <;> assumption) | (go_keep; done) | (simp [*, go_sem]; done))
    clear hKq Kq
    clear hH1
    refine wpAnyH_ready (rs := [5]) (by kernel_rfl) (by simp) ?_
    refine AllReadyH.cons rfl (fun Kq hKq => ?_) AllReadyH.nil
    go_simp
    refine (K2.out _).mono ?_
    (rintro e w2 ⟨rfl, hw2⟩)
    obtain ⟨hcw2, hfw2, hlw2, hmw2, hnw2⟩ := bcell3 hw2
    have hzw2 := hw2.size
    (try simp only [World.size_alloc, World.size_setCell, World.size_drew, size_drewN] at hzw2)
    have ca2_0 : w2.cell? ⟨w.heap.size, 0, none⟩ = some (.int .i64 (e.o.Wedge)) := (hcw2 (w.heap.size) 0 (by first | omega | (simp only [World.size_alloc, World.size_drew, World.size_setCell, size_drewN]; omega))).trans (by first | assumption | (simp [go_sem, *]; done)); have ca2_1 : w2.cell? ⟨w.heap.size, 1, none⟩ = some (.int .i64 (e.o.Metal)) := (hcw2 (w.heap.size) 1 (by first | omega | (simp only [World.size_alloc, World.size_drew, World.size_setCell, size_drewN]; omega))).trans (by first | assumption | (simp [go_sem, *]; done)); have ca2_2 : w2.cell? ⟨w.heap.size, 2, none⟩ = some (.int .i64 (e.o.Skips)) := (hcw2 (w.heap.size) 2 (by first | omega | (simp only [World.size_alloc, World.size_drew, World.size_setCell, size_drewN]; omega))).trans (by first | assumption | (simp [go_sem, *]; done)); have ca2_3 : w2.cell? ⟨w.heap.size, 3, none⟩ = some (.int .i64 (e.o.Thick)) := (hcw2 (w.heap.size) 3 (by first | omega | (simp only [World.size_alloc, World.size_drew, World.size_setCell, size_drewN]; omega))).trans (by first | assumption | (simp [go_sem, *]; done)); have ca2_4 : w2.cell? ⟨w.heap.size, 4, none⟩ = some (.int .i64 (e.b.Wedge)) := (hcw2 (w.heap.size) 4 (by first | omega | (simp only [World.size_alloc, World.size_drew, World.size_setCell, size_drewN]; omega))).trans (by first | assumption | (simp [go_sem, *]; done)); have ca2_5 : w2.cell? ⟨w.heap.size, 5, none⟩ = some (.int .i64 (e.b.Metal)) := (hcw2 (w.heap.size) 5 (by first | omega | (simp only [World.size_alloc, World.size_drew, World.size_setCell, size_drewN]; omega))).trans (by first | assumption | (simp [go_sem, *]; done)); have ca2_6 : w2.cell? ⟨w.heap.size, 6, none⟩ = some (.int .i64 (e.b.Skips)) := (hcw2 (w.heap.size) 6 (by first | omega | (simp only [World.size_alloc, World.size_drew, World.size_setCell, size_drewN]; omega))).trans (by first | assumption | (simp [go_sem, *]; done)); have ca2_7 : w2.cell? ⟨w.heap.size, 7, none⟩ = some (.int .i64 (e.b.Thick)) := (hcw2 (w.heap.size) 7 (by first | omega | (simp only [World.size_alloc, World.size_drew, World.size_setCell, size_drewN]; omega))).trans (by first | assumption | (simp [go_sem, *]; done)); have ca2_8 : w2.cell? ⟨w.heap.size, 8, none⟩ = some (.int .i64 (e.fx)) := (hcw2 (w.heap.size) 8 (by first | omega | (simp only [World.size_alloc, World.size_drew, World.size_setCell, size_drewN]; omega))).trans (by first | assumption | (simp [go_sem, *]; done)); have ca2_9 : w2.cell? ⟨w.heap.size, 9, none⟩ = some (.int .i64 (e.fz)) := (hcw2 (w.heap.size) 9 (by first | omega | (simp only [World.size_alloc, World.size_drew, World.size_setCell, size_drewN]; omega))).trans (by first | assumption | (simp [go_sem, *]; done)); have ca2_10 : w2.cell? ⟨w.heap.size, 10, none⟩ = some (.int .i64 (e.ax)) := (hcw2 (w.heap.size) 10 (by first | omega | (simp only [World.size_alloc, World.size_drew, World.size_setCell, size_drewN]; omega))).trans (by first | assumption | (simp [go_sem, *]; done)); have ca2_11 : w2.cell? ⟨w.heap.size, 11, none⟩ = some (.int .i64 (e.az)) := (hcw2 (w.heap.size) 11 (by first | omega | (simp only [World.size_alloc, World.size_drew, World.size_setCell, size_drewN]; omega))).trans (by first | assumption | (simp [go_sem, *]; done)); have ca2_12 : w2.cell? ⟨w.heap.size, 12, none⟩ = some (.int .i64 (e.tx)) := (hcw2 (w.heap.size) 12 (by first | omega | (simp only [World.size_alloc, World.size_drew, World.size_setCell, size_drewN]; omega))).trans (by first | assumption | (simp [go_sem, *]; done)); have ca2_13 : w2.cell? ⟨w.heap.size, 13, none⟩ = some (.int .i64 (e.tz)) := (hcw2 (w.heap.size) 13 (by first | omega | (simp only [World.size_alloc, World.size_drew, World.size_setCell, size_drewN]; omega))).trans (by first | assumption | (simp [go_sem, *]; done)); have oa2 : w.heap.size < w2.heap.size := (by omega)
    clear ca1_0 ca1_1 ca1_2 ca1_3 ca1_4 ca1_5 ca1_6 ca1_7 ca1_8 ca1_9 ca1_10 ca1_11 ca1_12 ca1_13
    refine hKq.out _ _ ?_ (fun hH3 => ?_)
    · (first | assumption | (refine ⟨?_, ?_, ?_, ?_, ?_, ?_, ?_, ?_, ?_, ?_, ?_, ?_, ?_, ?_⟩ <;> assumption) | (go_keep; done) | (simp [*, go_sem]; done))
    clear hKq Kq
    clear hH2
    refine wpAnyH_ready (rs := [6]) (by kernel_rfl) (by simp) ?_
    refine AllReadyH.cons rfl (fun Kq hKq => ?_) AllReadyH.nil
    go_simp
    refine hKq.out _ _ ?_ (fun hH4 => ?_)
    · (first | assumption | (refine ⟨?_, ?_, ?_, ?_, ?_, ?_, ?_, ?_, ?_, ?_, ?_, ?_, ?_, ?_⟩ <;> assumption) | (go_keep; done) | (simp [*, go_sem]; done))
    clear hKq Kq
    clear hH3
    refine wpAnyH_ready (rs := [7]) (by kernel_rfl) (by simp) ?_
    refine AllReadyH.cons rfl (fun Kq hKq => ?_) AllReadyH.nil
    go_simp
    apply Calls.mono
    focus ((apply rfirst2 <;> exact cell_fresh _ _ _ _ _ _ (by first | rfl | simp) rfl); done)
    (rw [HF.out]; rintro e w' ⟨rfl, rfl⟩)
    refine hKq.out _ _ ?_ (fun hH5 => ?_)
    · (first | assumption | (refine ⟨?_, ?_, ?_, ?_, ?_, ?_, ?_, ?_, ?_, ?_, ?_, ?_, ?_, ?_⟩ <;> assumption) | (go_keep; done) | (simp [*, go_sem]; done))
    clear hKq Kq
    clear hH4
    refine wpAnyH_pure (i := 8) (v := ?_) rfl (by kernel_rfl) (by kernel_rfl) (by kernel_rfl) (fun _ _ _ h => h) (by rfl) (by assumption) ?_ ?_
    rotate_left
    · (intro w hSw; (try dsimp only at hSw); go_simp; (try with_reducible rfl))
    simp only [Act.put, List.getElem_toArray, List.getElem_cons_succ, List.getElem_cons_zero, List.setIfInBounds_toArray, List.set_cons_zero, List.set_cons_succ]
    refine wpAnyH_done (by kernel_rfl) ?_ _
    go_wp2
    refine wp_region_held_drew (S := fun w' => w'.cell? ⟨w.heap.size, 0, none⟩ = some (.int .i64 (e.o.Wedge)) ∧ w'.cell? ⟨w.heap.size, 1, none⟩ = some (.int .i64 (e.o.Metal)) ∧ w'.cell? ⟨w.heap.size, 2, none⟩ = some (.int .i64 (e.o.Skips)) ∧ w'.cell? ⟨w.heap.size, 3, none⟩ = some (.int .i64 (e.o.Thick)) ∧ w'.cell? ⟨w.heap.size, 4, none⟩ = some (.int .i64 (e.b.Wedge)) ∧ w'.cell? ⟨w.heap.size, 5, none⟩ = some (.int .i64 (e.b.Metal)) ∧ w'.cell? ⟨w.heap.size, 6, none⟩ = some (.int .i64 (e.b.Skips)) ∧ w'.cell? ⟨w.heap.size, 7, none⟩ = some (.int .i64 (e.b.Thick)) ∧ w'.cell? ⟨w.heap.size, 8, none⟩ = some (.int .i64 (e.fx)) ∧ w'.cell? ⟨w.heap.size, 9, none⟩ = some (.int .i64 (e.fz)) ∧ w'.cell? ⟨w.heap.size, 10, none⟩ = some (.int .i64 (e.ax)) ∧ w'.cell? ⟨w.heap.size, 11, none⟩ = some (.int .i64 (e.az)) ∧ w'.cell? ⟨w.heap.size, 12, none⟩ = some (.int .i64 (e.tx)) ∧ w'.cell? ⟨w.heap.size, 13, none⟩ = some (.int .i64 (e.tz))) (by kernel_rfl) ?_ (fun hH6 => ?_)
    · (first | assumption | (refine ⟨?_, ?_, ?_, ?_, ?_, ?_, ?_, ?_, ?_, ?_, ?_, ?_, ?_, ?_⟩ <;> assumption) | (go_keep; done) | (simp [*, go_sem]; done))
    refine wpAnyH_pure (i := 0) (v := ?_) rfl (by kernel_rfl) (by kernel_rfl) (by kernel_rfl) (fun _ _ _ h => h) (by rfl) (by assumption) ?_ ?_
    rotate_left
    · (intro w hSw; (try dsimp only at hSw); go_simp; (try with_reducible rfl))
    simp only [Act.put, List.getElem_toArray, List.getElem_cons_succ, List.getElem_cons_zero, List.setIfInBounds_toArray, List.set_cons_zero, List.set_cons_succ]
    refine wpAnyH_pure (i := 1) (v := ?_) rfl (by kernel_rfl) (by kernel_rfl) (by kernel_rfl) (fun _ _ _ h => h) (by rfl) (by assumption) ?_ ?_
    rotate_left
    · (intro w hSw; (try dsimp only at hSw); go_simp; (try with_reducible rfl))
    simp only [Act.put, List.getElem_toArray, List.getElem_cons_succ, List.getElem_cons_zero, List.setIfInBounds_toArray, List.set_cons_zero, List.set_cons_succ]
    refine wpAnyH_pure (i := 2) (v := ?_) rfl (by kernel_rfl) (by kernel_rfl) (by kernel_rfl) (fun _ _ _ h => h) (by rfl) (by assumption) ?_ ?_
    rotate_left
    · (intro w hSw; (try dsimp only at hSw); go_simp; (try with_reducible rfl))
    simp only [Act.put, List.getElem_toArray, List.getElem_cons_succ, List.getElem_cons_zero, List.setIfInBounds_toArray, List.set_cons_zero, List.set_cons_succ]
    refine wpAnyH_pure (i := 3) (v := ?_) rfl (by kernel_rfl) (by kernel_rfl) (by kernel_rfl) (fun _ _ _ h => h) (by rfl) (by assumption) ?_ ?_
    rotate_left
    · (intro w hSw; (try dsimp only at hSw); go_simp; (try with_reducible rfl))
    simp only [Act.put, List.getElem_toArray, List.getElem_cons_succ, List.getElem_cons_zero, List.setIfInBounds_toArray, List.set_cons_zero, List.set_cons_succ]
    refine wpAnyH_pure (i := 4) (v := ?_) rfl (by kernel_rfl) (by kernel_rfl) (by kernel_rfl) (fun _ _ _ h => h) (by rfl) (by assumption) ?_ ?_
    rotate_left
    · (intro w hSw; (try dsimp only at hSw); go_simp; (try with_reducible rfl))
    simp only [Act.put, List.getElem_toArray, List.getElem_cons_succ, List.getElem_cons_zero, List.setIfInBounds_toArray, List.set_cons_zero, List.set_cons_succ]
    refine wpAnyH_pure (i := 5) (v := ?_) rfl (by kernel_rfl) (by kernel_rfl) (by kernel_rfl) (fun _ _ _ h => h) (by rfl) (by assumption) ?_ ?_
    rotate_left
    · (intro w hSw; (try dsimp only at hSw); go_simp; (try with_reducible rfl))
    simp only [Act.put, List.getElem_toArray, List.getElem_cons_succ, List.getElem_cons_zero, List.setIfInBounds_toArray, List.set_cons_zero, List.set_cons_succ]
    refine wpAnyH_pure (i := 7) (v := ?_) rfl (by kernel_rfl) (by kernel_rfl) (by kernel_rfl) (fun _ _ _ h => h) (by rfl) (by assumption) ?_ ?_
    rotate_left
    · (intro w hSw; (try dsimp only at hSw); go_simp; (try with_reducible rfl))
    simp only [Act.put, List.getElem_toArray, List.getElem_cons_succ, List.getElem_cons_zero, List.setIfInBounds_toArray, List.set_cons_zero, List.set_cons_succ]
    refine wpAnyH_pure (i := 8) (v := ?_) rfl (by kernel_rfl) (by kernel_rfl) (by kernel_rfl) (fun _ _ _ h => h) (by rfl) (by assumption) ?_ ?_
    rotate_left
    · (intro w hSw; (try dsimp only at hSw); go_simp; (try with_reducible rfl))
    simp only [Act.put, List.getElem_toArray, List.getElem_cons_succ, List.getElem_cons_zero, List.setIfInBounds_toArray, List.set_cons_zero, List.set_cons_succ]
    refine wpAnyH_pure (i := 9) (v := ?_) rfl (by kernel_rfl) (by kernel_rfl) (by kernel_rfl) (fun _ _ _ h => h) (by rfl) (by assumption) ?_ ?_
    rotate_left
    · (intro w hSw; (try dsimp only at hSw); go_simp; (try with_reducible rfl))
    simp only [Act.put, List.getElem_toArray, List.getElem_cons_succ, List.getElem_cons_zero, List.setIfInBounds_toArray, List.set_cons_zero, List.set_cons_succ]
    refine wpAnyH_pure (i := 10) (v := ?_) rfl (by kernel_rfl) (by kernel_rfl) (by kernel_rfl) (fun _ _ _ h => h) (by rfl) (by assumption) ?_ ?_
    rotate_left
    · (intro w hSw; (try dsimp only at hSw); go_simp; (try with_reducible rfl))
    simp only [Act.put, List.getElem_toArray, List.getElem_cons_succ, List.getElem_cons_zero, List.setIfInBounds_toArray, List.set_cons_zero, List.set_cons_succ]
    refine wpAnyH_pure (i := 11) (v := ?_) rfl (by kernel_rfl) (by kernel_rfl) (by kernel_rfl) (fun _ _ _ h => h) (by rfl) (by assumption) ?_ ?_
    rotate_left
    · (intro w hSw; (try dsimp only at hSw); go_simp; (try with_reducible rfl))
    simp only [Act.put, List.getElem_toArray, List.getElem_cons_succ, List.getElem_cons_zero, List.setIfInBounds_toArray, List.set_cons_zero, List.set_cons_succ]
    refine wpAnyH_pure (i := 12) (v := ?_) rfl (by kernel_rfl) (by kernel_rfl) (by kernel_rfl) (fun _ _ _ h => h) (by rfl) (by assumption) ?_ ?_
    rotate_left
    · (intro w hSw; (try dsimp only at hSw); go_simp; (try with_reducible rfl))
    simp only [Act.put, List.getElem_toArray, List.getElem_cons_succ, List.getElem_cons_zero, List.setIfInBounds_toArray, List.set_cons_zero, List.set_cons_succ]
    refine wpAnyH_ready (rs := [6]) (by kernel_rfl) (by simp) ?_
    refine AllReadyH.cons rfl (fun Kq hKq => ?_) AllReadyH.nil
    go_simp
    refine (K3.out _).mono ?_
    (rintro e w3 ⟨rfl, hw3⟩)
    obtain ⟨hcw3, hfw3, hlw3, hmw3, hnw3⟩ := bcell3 hw3
    have hzw3 := hw3.size
    (try simp only [World.size_alloc, World.size_setCell, World.size_drew, size_drewN] at hzw3)
    have ca3_0 : w3.cell? ⟨w.heap.size, 0, none⟩ = some (.int .i64 (e.o.Wedge)) := (hcw3 (w.heap.size) 0 (by first | omega | (simp only [World.size_alloc, World.size_drew, World.size_setCell, size_drewN]; omega))).trans (by first | assumption | (simp [go_sem, *]; done)); have ca3_1 : w3.cell? ⟨w.heap.size, 1, none⟩ = some (.int .i64 (e.o.Metal)) := (hcw3 (w.heap.size) 1 (by first | omega | (simp only [World.size_alloc, World.size_drew, World.size_setCell, size_drewN]; omega))).trans (by first | assumption | (simp [go_sem, *]; done)); have ca3_2 : w3.cell? ⟨w.heap.size, 2, none⟩ = some (.int .i64 (e.o.Skips)) := (hcw3 (w.heap.size) 2 (by first | omega | (simp only [World.size_alloc, World.size_drew, World.size_setCell, size_drewN]; omega))).trans (by first | assumption | (simp [go_sem, *]; done)); have ca3_3 : w3.cell? ⟨w.heap.size, 3, none⟩ = some (.int .i64 (e.o.Thick)) := (hcw3 (w.heap.size) 3 (by first | omega | (simp only [World.size_alloc, World.size_drew, World.size_setCell, size_drewN]; omega))).trans (by first | assumption | (simp [go_sem, *]; done)); have ca3_4 : w3.cell? ⟨w.heap.size, 4, none⟩ = some (.int .i64 (e.b.Wedge)) := (hcw3 (w.heap.size) 4 (by first | omega | (simp only [World.size_alloc, World.size_drew, World.size_setCell, size_drewN]; omega))).trans (by first | assumption | (simp [go_sem, *]; done)); have ca3_5 : w3.cell? ⟨w.heap.size, 5, none⟩ = some (.int .i64 (e.b.Metal)) := (hcw3 (w.heap.size) 5 (by first | omega | (simp only [World.size_alloc, World.size_drew, World.size_setCell, size_drewN]; omega))).trans (by first | assumption | (simp [go_sem, *]; done)); have ca3_6 : w3.cell? ⟨w.heap.size, 6, none⟩ = some (.int .i64 (e.b.Skips)) := (hcw3 (w.heap.size) 6 (by first | omega | (simp only [World.size_alloc, World.size_drew, World.size_setCell, size_drewN]; omega))).trans (by first | assumption | (simp [go_sem, *]; done)); have ca3_7 : w3.cell? ⟨w.heap.size, 7, none⟩ = some (.int .i64 (e.b.Thick)) := (hcw3 (w.heap.size) 7 (by first | omega | (simp only [World.size_alloc, World.size_drew, World.size_setCell, size_drewN]; omega))).trans (by first | assumption | (simp [go_sem, *]; done)); have ca3_8 : w3.cell? ⟨w.heap.size, 8, none⟩ = some (.int .i64 (e.fx)) := (hcw3 (w.heap.size) 8 (by first | omega | (simp only [World.size_alloc, World.size_drew, World.size_setCell, size_drewN]; omega))).trans (by first | assumption | (simp [go_sem, *]; done)); have ca3_9 : w3.cell? ⟨w.heap.size, 9, none⟩ = some (.int .i64 (e.fz)) := (hcw3 (w.heap.size) 9 (by first | omega | (simp only [World.size_alloc, World.size_drew, World.size_setCell, size_drewN]; omega))).trans (by first | assumption | (simp [go_sem, *]; done)); have ca3_10 : w3.cell? ⟨w.heap.size, 10, none⟩ = some (.int .i64 (e.ax)) := (hcw3 (w.heap.size) 10 (by first | omega | (simp only [World.size_alloc, World.size_drew, World.size_setCell, size_drewN]; omega))).trans (by first | assumption | (simp [go_sem, *]; done)); have ca3_11 : w3.cell? ⟨w.heap.size, 11, none⟩ = some (.int .i64 (e.az)) := (hcw3 (w.heap.size) 11 (by first | omega | (simp only [World.size_alloc, World.size_drew, World.size_setCell, size_drewN]; omega))).trans (by first | assumption | (simp [go_sem, *]; done)); have ca3_12 : w3.cell? ⟨w.heap.size, 12, none⟩ = some (.int .i64 (e.tx)) := (hcw3 (w.heap.size) 12 (by first | omega | (simp only [World.size_alloc, World.size_drew, World.size_setCell, size_drewN]; omega))).trans (by first | assumption | (simp [go_sem, *]; done)); have ca3_13 : w3.cell? ⟨w.heap.size, 13, none⟩ = some (.int .i64 (e.tz)) := (hcw3 (w.heap.size) 13 (by first | omega | (simp only [World.size_alloc, World.size_drew, World.size_setCell, size_drewN]; omega))).trans (by first | assumption | (simp [go_sem, *]; done)); have oa3 : w.heap.size < w3.heap.size := (by omega)
    clear ca2_0 ca2_1 ca2_2 ca2_3 ca2_4 ca2_5 ca2_6 ca2_7 ca2_8 ca2_9 ca2_10 ca2_11 ca2_12 ca2_13
    refine hKq.out _ _ ?_ (fun hH7 => ?_)
    · (first | assumption | (refine ⟨?_, ?_, ?_, ?_, ?_, ?_, ?_, ?_, ?_, ?_, ?_, ?_, ?_, ?_⟩ <;> assumption) | (go_keep; done) | (simp [*, go_sem]; done))
    clear hKq Kq
    clear hH6
    refine wpAnyH_ready (rs := [13]) (by kernel_rfl) (by simp) ?_
    refine AllReadyH.cons rfl (fun Kq hKq => ?_) AllReadyH.nil
    go_simp
    refine (K4.out _).mono ?_
    (rintro e w4 ⟨rfl, hw4⟩)
    obtain ⟨hcw4, hfw4, hlw4, hmw4, hnw4⟩ := bcell3 hw4
    have hzw4 := hw4.size
    (try simp only [World.size_alloc, World.size_setCell, World.size_drew, size_drewN] at hzw4)
    have ca4_0 : w4.cell? ⟨w.heap.size, 0, none⟩ = some (.int .i64 (e.o.Wedge)) := (hcw4 (w.heap.size) 0 (by first | omega | (simp only [World.size_alloc, World.size_drew, World.size_setCell, size_drewN]; omega))).trans (by first | assumption | (simp [go_sem, *]; done)); have ca4_1 : w4.cell? ⟨w.heap.size, 1, none⟩ = some (.int .i64 (e.o.Metal)) := (hcw4 (w.heap.size) 1 (by first | omega | (simp only [World.size_alloc, World.size_drew, World.size_setCell, size_drewN]; omega))).trans (by first | assumption | (simp [go_sem, *]; done)); have ca4_2 : w4.cell? ⟨w.heap.size, 2, none⟩ = some (.int .i64 (e.o.Skips)) := (hcw4 (w.heap.size) 2 (by first | omega | (simp only [World.size_alloc, World.size_drew, World.size_setCell, size_drewN]; omega))).trans (by first | assumption | (simp [go_sem, *]; done)); have ca4_3 : w4.cell? ⟨w.heap.size, 3, none⟩ = some (.int .i64 (e.o.Thick)) := (hcw4 (w.heap.size) 3 (by first | omega | (simp only [World.size_alloc, World.size_drew, World.size_setCell, size_drewN]; omega))).trans (by first | assumption | (simp [go_sem, *]; done)); have ca4_4 : w4.cell? ⟨w.heap.size, 4, none⟩ = some (.int .i64 (e.b.Wedge)) := (hcw4 (w.heap.size) 4 (by first | omega | (simp only [World.size_alloc, World.size_drew, World.size_setCell, size_drewN]; omega))).trans (by first | assumption | (simp [go_sem, *]; done)); have ca4_5 : w4.cell? ⟨w.heap.size, 5, none⟩ = some (.int .i64 (e.b.Metal)) := (hcw4 (w.heap.size) 5 (by first | omega | (simp only [World.size_alloc, World.size_drew, World.size_setCell, size_drewN]; omega))).trans (by first | assumption | (simp [go_sem, *]; done)); have ca4_6 : w4.cell? ⟨w.heap.size, 6, none⟩ = some (.int .i64 (e.b.Skips)) := (hcw4 (w.heap.size) 6 (by first | omega | (simp only [World.size_alloc, World.size_drew, World.size_setCell, size_drewN]; omega))).trans (by first | assumption | (simp [go_sem, *]; done)); have ca4_7 : w4.cell? ⟨w.heap.size, 7, none⟩ = some (.int .i64 (e.b.Thick)) := (hcw4 (w.heap.size) 7 (by first | omega | (simp only [World.size_alloc, World.size_drew, World.size_setCell, size_drewN]; omega))).trans (by first | assumption | (simp [go_sem, *]; done)); have ca4_8 : w4.cell? ⟨w.heap.size, 8, none⟩ = some (.int .i64 (e.fx)) := (hcw4 (w.heap.size) 8 (by first | omega | (simp only [World.size_alloc, World.size_drew, World.size_setCell, size_drewN]; omega))).trans (by first | assumption | (simp [go_sem, *]; done)); have ca4_9 : w4.cell? ⟨w.heap.size, 9, none⟩ = some (.int .i64 (e.fz)) := (hcw4 (w.heap.size) 9 (by first | omega | (simp only [World.size_alloc, World.size_drew, World.size_setCell, size_drewN]; omega))).trans (by first | assumption | (simp [go_sem, *]; done)); have ca4_10 : w4.cell? ⟨w.heap.size, 10, none⟩ = some (.int .i64 (e.ax)) := (hcw4 (w.heap.size) 10 (by first | omega | (simp only [World.size_alloc, World.size_drew, World.size_setCell, size_drewN]; omega))).trans (by first | assumption | (simp [go_sem, *]; done)); have ca4_11 : w4.cell? ⟨w.heap.size, 11, none⟩ = some (.int .i64 (e.az)) := (hcw4 (w.heap.size) 11 (by first | omega | (simp only [World.size_alloc, World.size_drew, World.size_setCell, size_drewN]; omega))).trans (by first | assumption | (simp [go_sem, *]; done)); have ca4_12 : w4.cell? ⟨w.heap.size, 12, none⟩ = some (.int .i64 (e.tx)) := (hcw4 (w.heap.size) 12 (by first | omega | (simp only [World.size_alloc, World.size_drew, World.size_setCell, size_drewN]; omega))).trans (by first | assumption | (simp [go_sem, *]; done)); have ca4_13 : w4.cell? ⟨w.heap.size, 13, none⟩ = some (.int .i64 (e.tz)) := (hcw4 (w.heap.size) 13 (by first | omega | (simp only [World.size_alloc, World.size_drew, World.size_setCell, size_drewN]; omega))).trans (by first | assumption | (simp [go_sem, *]; done)); have oa4 : w.heap.size < w4.heap.size := (by omega)
    clear ca3_0 ca3_1 ca3_2 ca3_3 ca3_4 ca3_5 ca3_6 ca3_7 ca3_8 ca3_9 ca3_10 ca3_11 ca3_12 ca3_13
    refine hKq.out _ _ ?_ (fun hH8 => ?_)
    · (first | assumption | (refine ⟨?_, ?_, ?_, ?_, ?_, ?_, ?_, ?_, ?_, ?_, ?_, ?_, ?_, ?_⟩ <;> assumption) | (go_keep; done) | (simp [*, go_sem]; done))
    clear hKq Kq
    clear hH7
    refine wpAnyH_ready (rs := [14]) (by kernel_rfl) (by simp) ?_
    refine AllReadyH.cons rfl (fun Kq hKq => ?_) AllReadyH.nil
    go_simp
    refine hKq.out _ _ ?_ (fun hH9 => ?_)
    · (first | assumption | (refine ⟨?_, ?_, ?_, ?_, ?_, ?_, ?_, ?_, ?_, ?_, ?_, ?_, ?_, ?_⟩ <;> assumption) | (go_keep; done) | (simp [*, go_sem]; done))
    clear hKq Kq
    clear hH8
    refine wpAnyH_ready (rs := [15]) (by kernel_rfl) (by simp) ?_
    refine AllReadyH.cons rfl (fun Kq hKq => ?_) AllReadyH.nil
    go_simp
    apply Calls.mono
    focus ((apply rfirst2 <;> exact cell_fresh _ _ _ _ _ _ (by first | rfl | simp) rfl); done)
    (rintro e w' ⟨rfl, rfl⟩)
    refine hKq.out _ _ ?_ (fun hH10 => ?_)
    · (first | assumption | (refine ⟨?_, ?_, ?_, ?_, ?_, ?_, ?_, ?_, ?_, ?_, ?_, ?_, ?_, ?_⟩ <;> assumption) | (go_keep; done) | (simp [*, go_sem]; done))
    clear hKq Kq
    clear hH9
    refine wpAnyH_pure (i := 16) (v := ?_) rfl (by kernel_rfl) (by kernel_rfl) (by kernel_rfl) (fun _ _ _ h => h) (by rfl) (by assumption) ?_ ?_
    rotate_left
    · (intro w hSw; (try dsimp only at hSw); go_simp; (try with_reducible rfl))
    simp only [Act.put, List.getElem_toArray, List.getElem_cons_succ, List.getElem_cons_zero, List.setIfInBounds_toArray, List.set_cons_zero, List.set_cons_succ]
    refine wpAnyH_done (by kernel_rfl) ?_ _
    go_wp2
    go_ret
    exact ⟨ri HE2.out.symm, by (repeat' (first | (with_reducible exact Below.refl _ _) | (with_reducible assumption) | (with_reducible refine Below.alloc ?_ ?_ _) | (with_reducible refine Below.drew ?_) | (with_reducible refine below_drewN ?_ _) | (with_reducible refine Below.setCell ?_ ?_ _) | (with_reducible refine below_step (by with_reducible assumption) ?_ ?_) | (with_reducible exact Below.size (by with_reducible assumption)) | go_size))⟩
  · rw [if_neg h] at HE
    have HE2 := Lib.hid HE
    clear HE
    unfold Ec.v
    generalize mE e.o = e1 at *
    generalize mE e.b = e2 at *
    generalize hh : frst [e1, e2] = v at *
    have HF := Lib.hid hh
    clear hh
    go_enter Try.func59, Try.ntmps59
    go_wp2
    refine wp_region_held_drew (S := fun w' => w'.cell? ⟨w.heap.size, 0, none⟩ = some (.int .i64 (e.o.Wedge)) ∧ w'.cell? ⟨w.heap.size, 1, none⟩ = some (.int .i64 (e.o.Metal)) ∧ w'.cell? ⟨w.heap.size, 2, none⟩ = some (.int .i64 (e.o.Skips)) ∧ w'.cell? ⟨w.heap.size, 3, none⟩ = some (.int .i64 (e.o.Thick)) ∧ w'.cell? ⟨w.heap.size, 4, none⟩ = some (.int .i64 (e.b.Wedge)) ∧ w'.cell? ⟨w.heap.size, 5, none⟩ = some (.int .i64 (e.b.Metal)) ∧ w'.cell? ⟨w.heap.size, 6, none⟩ = some (.int .i64 (e.b.Skips)) ∧ w'.cell? ⟨w.heap.size, 7, none⟩ = some (.int .i64 (e.b.Thick)) ∧ w'.cell? ⟨w.heap.size, 8, none⟩ = some (.int .i64 (e.fx)) ∧ w'.cell? ⟨w.heap.size, 9, none⟩ = some (.int .i64 (e.fz)) ∧ w'.cell? ⟨w.heap.size, 10, none⟩ = some (.int .i64 (e.ax)) ∧ w'.cell? ⟨w.heap.size, 11, none⟩ = some (.int .i64 (e.az)) ∧ w'.cell? ⟨w.heap.size, 12, none⟩ = some (.int .i64 (e.tx)) ∧ w'.cell? ⟨w.heap.size, 13, none⟩ = some (.int .i64 (e.tz))) (by kernel_rfl) ?_ (fun hH11 => ?_)
    · (first | assumption | (refine ⟨?_, ?_, ?_, ?_, ?_, ?_, ?_, ?_, ?_, ?_, ?_, ?_, ?_, ?_⟩ <;> assumption) | (go_keep; done) | (simp [*, go_sem]; done))
    refine wpAnyH_pure (i := 0) (v := ?_) rfl (by kernel_rfl) (by kernel_rfl) (by kernel_rfl) (fun _ _ _ h => h) (by rfl) (by assumption) ?_ ?_
    rotate_left
    · (intro w hSw; (try dsimp only at hSw); go_simp; (try with_reducible rfl))
    simp only [Act.put, List.getElem_toArray, List.getElem_cons_succ, List.getElem_cons_zero, List.setIfInBounds_toArray, List.set_cons_zero, List.set_cons_succ]
    refine wpAnyH_pure (i := 1) (v := ?_) rfl (by kernel_rfl) (by kernel_rfl) (by kernel_rfl) (fun _ _ _ h => h) (by rfl) (by assumption) ?_ ?_
    rotate_left
    · (intro w hSw; (try dsimp only at hSw); go_simp; (try with_reducible rfl))
    simp only [Act.put, List.getElem_toArray, List.getElem_cons_succ, List.getElem_cons_zero, List.setIfInBounds_toArray, List.set_cons_zero, List.set_cons_succ]
    refine wpAnyH_pure (i := 3) (v := ?_) rfl (by kernel_rfl) (by kernel_rfl) (by kernel_rfl) (fun _ _ _ h => h) (by rfl) (by assumption) ?_ ?_
    rotate_left
    · (intro w hSw; (try dsimp only at hSw); go_simp; (try with_reducible rfl))
    simp only [Act.put, List.getElem_toArray, List.getElem_cons_succ, List.getElem_cons_zero, List.setIfInBounds_toArray, List.set_cons_zero, List.set_cons_succ]
    refine wpAnyH_pure (i := 4) (v := ?_) rfl (by kernel_rfl) (by kernel_rfl) (by kernel_rfl) (fun _ _ _ h => h) (by rfl) (by assumption) ?_ ?_
    rotate_left
    · (intro w hSw; (try dsimp only at hSw); go_simp; (try with_reducible rfl))
    simp only [Act.put, List.getElem_toArray, List.getElem_cons_succ, List.getElem_cons_zero, List.setIfInBounds_toArray, List.set_cons_zero, List.set_cons_succ]
    refine wpAnyH_ready (rs := [2]) (by kernel_rfl) (by simp) ?_
    refine AllReadyH.cons rfl (fun Kq hKq => ?_) AllReadyH.nil
    go_simp
    refine (K1.out _).mono ?_
    (rintro e w1 ⟨rfl, hw1⟩)
    obtain ⟨hcw1, hfw1, hlw1, hmw1, hnw1⟩ := bcell3 hw1
    have hzw1 := hw1.size
    (try simp only [World.size_alloc, World.size_setCell, World.size_drew, size_drewN] at hzw1)
    have ca1_0 : w1.cell? ⟨w.heap.size, 0, none⟩ = some (.int .i64 (e.o.Wedge)) := (hcw1 (w.heap.size) 0 (by first | omega | (simp only [World.size_alloc, World.size_drew, World.size_setCell, size_drewN]; omega))).trans (by first | assumption | (simp [go_sem, *]; done)); have ca1_1 : w1.cell? ⟨w.heap.size, 1, none⟩ = some (.int .i64 (e.o.Metal)) := (hcw1 (w.heap.size) 1 (by first | omega | (simp only [World.size_alloc, World.size_drew, World.size_setCell, size_drewN]; omega))).trans (by first | assumption | (simp [go_sem, *]; done)); have ca1_2 : w1.cell? ⟨w.heap.size, 2, none⟩ = some (.int .i64 (e.o.Skips)) := (hcw1 (w.heap.size) 2 (by first | omega | (simp only [World.size_alloc, World.size_drew, World.size_setCell, size_drewN]; omega))).trans (by first | assumption | (simp [go_sem, *]; done)); have ca1_3 : w1.cell? ⟨w.heap.size, 3, none⟩ = some (.int .i64 (e.o.Thick)) := (hcw1 (w.heap.size) 3 (by first | omega | (simp only [World.size_alloc, World.size_drew, World.size_setCell, size_drewN]; omega))).trans (by first | assumption | (simp [go_sem, *]; done)); have ca1_4 : w1.cell? ⟨w.heap.size, 4, none⟩ = some (.int .i64 (e.b.Wedge)) := (hcw1 (w.heap.size) 4 (by first | omega | (simp only [World.size_alloc, World.size_drew, World.size_setCell, size_drewN]; omega))).trans (by first | assumption | (simp [go_sem, *]; done)); have ca1_5 : w1.cell? ⟨w.heap.size, 5, none⟩ = some (.int .i64 (e.b.Metal)) := (hcw1 (w.heap.size) 5 (by first | omega | (simp only [World.size_alloc, World.size_drew, World.size_setCell, size_drewN]; omega))).trans (by first | assumption | (simp [go_sem, *]; done)); have ca1_6 : w1.cell? ⟨w.heap.size, 6, none⟩ = some (.int .i64 (e.b.Skips)) := (hcw1 (w.heap.size) 6 (by first | omega | (simp only [World.size_alloc, World.size_drew, World.size_setCell, size_drewN]; omega))).trans (by first | assumption | (simp [go_sem, *]; done)); have ca1_7 : w1.cell? ⟨w.heap.size, 7, none⟩ = some (.int .i64 (e.b.Thick)) := (hcw1 (w.heap.size) 7 (by first | omega | (simp only [World.size_alloc, World.size_drew, World.size_setCell, size_drewN]; omega))).trans (by first | assumption | (simp [go_sem, *]; done)); have ca1_8 : w1.cell? ⟨w.heap.size, 8, none⟩ = some (.int .i64 (e.fx)) := (hcw1 (w.heap.size) 8 (by first | omega | (simp only [World.size_alloc, World.size_drew, World.size_setCell, size_drewN]; omega))).trans (by first | assumption | (simp [go_sem, *]; done)); have ca1_9 : w1.cell? ⟨w.heap.size, 9, none⟩ = some (.int .i64 (e.fz)) := (hcw1 (w.heap.size) 9 (by first | omega | (simp only [World.size_alloc, World.size_drew, World.size_setCell, size_drewN]; omega))).trans (by first | assumption | (simp [go_sem, *]; done)); have ca1_10 : w1.cell? ⟨w.heap.size, 10, none⟩ = some (.int .i64 (e.ax)) := (hcw1 (w.heap.size) 10 (by first | omega | (simp only [World.size_alloc, World.size_drew, World.size_setCell, size_drewN]; omega))).trans (by first | assumption | (simp [go_sem, *]; done)); have ca1_11 : w1.cell? ⟨w.heap.size, 11, none⟩ = some (.int .i64 (e.az)) := (hcw1 (w.heap.size) 11 (by first | omega | (simp only [World.size_alloc, World.size_drew, World.size_setCell, size_drewN]; omega))).trans (by first | assumption | (simp [go_sem, *]; done)); have ca1_12 : w1.cell? ⟨w.heap.size, 12, none⟩ = some (.int .i64 (e.tx)) := (hcw1 (w.heap.size) 12 (by first | omega | (simp only [World.size_alloc, World.size_drew, World.size_setCell, size_drewN]; omega))).trans (by first | assumption | (simp [go_sem, *]; done)); have ca1_13 : w1.cell? ⟨w.heap.size, 13, none⟩ = some (.int .i64 (e.tz)) := (hcw1 (w.heap.size) 13 (by first | omega | (simp only [World.size_alloc, World.size_drew, World.size_setCell, size_drewN]; omega))).trans (by first | assumption | (simp [go_sem, *]; done)); have oa1 : w.heap.size < w1.heap.size := (by omega)
    refine hKq.out _ _ ?_ (fun hH12 => ?_)
    · (first | assumption | (refine ⟨?_, ?_, ?_, ?_, ?_, ?_, ?_, ?_, ?_, ?_, ?_, ?_, ?_, ?_⟩ <;> assumption) | (go_keep; done) | (simp [*, go_sem]; done))
    clear hKq Kq
    clear hH11
    refine wpAnyH_ready (rs := [5]) (by kernel_rfl) (by simp) ?_
    refine AllReadyH.cons rfl (fun Kq hKq => ?_) AllReadyH.nil
    go_simp
    refine (K2.out _).mono ?_
    (rintro e w2 ⟨rfl, hw2⟩)
    obtain ⟨hcw2, hfw2, hlw2, hmw2, hnw2⟩ := bcell3 hw2
    have hzw2 := hw2.size
    (try simp only [World.size_alloc, World.size_setCell, World.size_drew, size_drewN] at hzw2)
    have ca2_0 : w2.cell? ⟨w.heap.size, 0, none⟩ = some (.int .i64 (e.o.Wedge)) := (hcw2 (w.heap.size) 0 (by first | omega | (simp only [World.size_alloc, World.size_drew, World.size_setCell, size_drewN]; omega))).trans (by first | assumption | (simp [go_sem, *]; done)); have ca2_1 : w2.cell? ⟨w.heap.size, 1, none⟩ = some (.int .i64 (e.o.Metal)) := (hcw2 (w.heap.size) 1 (by first | omega | (simp only [World.size_alloc, World.size_drew, World.size_setCell, size_drewN]; omega))).trans (by first | assumption | (simp [go_sem, *]; done)); have ca2_2 : w2.cell? ⟨w.heap.size, 2, none⟩ = some (.int .i64 (e.o.Skips)) := (hcw2 (w.heap.size) 2 (by first | omega | (simp only [World.size_alloc, World.size_drew, World.size_setCell, size_drewN]; omega))).trans (by first | assumption | (simp [go_sem, *]; done)); have ca2_3 : w2.cell? ⟨w.heap.size, 3, none⟩ = some (.int .i64 (e.o.Thick)) := (hcw2 (w.heap.size) 3 (by first | omega | (simp only [World.size_alloc, World.size_drew, World.size_setCell, size_drewN]; omega))).trans (by first | assumption | (simp [go_sem, *]; done)); have ca2_4 : w2.cell? ⟨w.heap.size, 4, none⟩ = some (.int .i64 (e.b.Wedge)) := (hcw2 (w.heap.size) 4 (by first | omega | (simp only [World.size_alloc, World.size_drew, World.size_setCell, size_drewN]; omega))).trans (by first | assumption | (simp [go_sem, *]; done)); have ca2_5 : w2.cell? ⟨w.heap.size, 5, none⟩ = some (.int .i64 (e.b.Metal)) := (hcw2 (w.heap.size) 5 (by first | omega | (simp only [World.size_alloc, World.size_drew, World.size_setCell, size_drewN]; omega))).trans (by first | assumption | (simp [go_sem, *]; done)); have ca2_6 : w2.cell? ⟨w.heap.size, 6, none⟩ = some (.int .i64 (e.b.Skips)) := (hcw2 (w.heap.size) 6 (by first | omega | (simp only [World.size_alloc, World.size_drew, World.size_setCell, size_drewN]; omega))).trans (by first | assumption | (simp [go_sem, *]; done)); have ca2_7 : w2.cell? ⟨w.heap.size, 7, none⟩ = some (.int .i64 (e.b.Thick)) := (hcw2 (w.heap.size) 7 (by first | omega | (simp only [World.size_alloc, World.size_drew, World.size_setCell, size_drewN]; omega))).trans (by first | assumption | (simp [go_sem, *]; done)); have ca2_8 : w2.cell? ⟨w.heap.size, 8, none⟩ = some (.int .i64 (e.fx)) := (hcw2 (w.heap.size) 8 (by first | omega | (simp only [World.size_alloc, World.size_drew, World.size_setCell, size_drewN]; omega))).trans (by first | assumption | (simp [go_sem, *]; done)); have ca2_9 : w2.cell? ⟨w.heap.size, 9, none⟩ = some (.int .i64 (e.fz)) := (hcw2 (w.heap.size) 9 (by first | omega | (simp only [World.size_alloc, World.size_drew, World.size_setCell, size_drewN]; omega))).trans (by first | assumption | (simp [go_sem, *]; done)); have ca2_10 : w2.cell? ⟨w.heap.size, 10, none⟩ = some (.int .i64 (e.ax)) := (hcw2 (w.heap.size) 10 (by first | omega | (simp only [World.size_alloc, World.size_drew, World.size_setCell, size_drewN]; omega))).trans (by first | assumption | (simp [go_sem, *]; done)); have ca2_11 : w2.cell? ⟨w.heap.size, 11, none⟩ = some (.int .i64 (e.az)) := (hcw2 (w.heap.size) 11 (by first | omega | (simp only [World.size_alloc, World.size_drew, World.size_setCell, size_drewN]; omega))).trans (by first | assumption | (simp [go_sem, *]; done)); have ca2_12 : w2.cell? ⟨w.heap.size, 12, none⟩ = some (.int .i64 (e.tx)) := (hcw2 (w.heap.size) 12 (by first | omega | (simp only [World.size_alloc, World.size_drew, World.size_setCell, size_drewN]; omega))).trans (by first | assumption | (simp [go_sem, *]; done)); have ca2_13 : w2.cell? ⟨w.heap.size, 13, none⟩ = some (.int .i64 (e.tz)) := (hcw2 (w.heap.size) 13 (by first | omega | (simp only [World.size_alloc, World.size_drew, World.size_setCell, size_drewN]; omega))).trans (by first | assumption | (simp [go_sem, *]; done)); have oa2 : w.heap.size < w2.heap.size := (by omega)
    clear ca1_0 ca1_1 ca1_2 ca1_3 ca1_4 ca1_5 ca1_6 ca1_7 ca1_8 ca1_9 ca1_10 ca1_11 ca1_12 ca1_13
    refine hKq.out _ _ ?_ (fun hH13 => ?_)
    · (first | assumption | (refine ⟨?_, ?_, ?_, ?_, ?_, ?_, ?_, ?_, ?_, ?_, ?_, ?_, ?_, ?_⟩ <;> assumption) | (go_keep; done) | (simp [*, go_sem]; done))
    clear hKq Kq
    clear hH12
    refine wpAnyH_ready (rs := [6]) (by kernel_rfl) (by simp) ?_
    refine AllReadyH.cons rfl (fun Kq hKq => ?_) AllReadyH.nil
    go_simp
    refine hKq.out _ _ ?_ (fun hH14 => ?_)
    · (first | assumption | (refine ⟨?_, ?_, ?_, ?_, ?_, ?_, ?_, ?_, ?_, ?_, ?_, ?_, ?_, ?_⟩ <;> assumption) | (go_keep; done) | (simp [*, go_sem]; done))
    clear hKq Kq
    clear hH13
    refine wpAnyH_ready (rs := [7]) (by kernel_rfl) (by simp) ?_
    refine AllReadyH.cons rfl (fun Kq hKq => ?_) AllReadyH.nil
    go_simp
    apply Calls.mono
    focus ((apply rfirst2 <;> exact cell_fresh _ _ _ _ _ _ (by first | rfl | simp) rfl); done)
    (rw [HF.out]; rintro e w' ⟨rfl, rfl⟩)
    refine hKq.out _ _ ?_ (fun hH15 => ?_)
    · (first | assumption | (refine ⟨?_, ?_, ?_, ?_, ?_, ?_, ?_, ?_, ?_, ?_, ?_, ?_, ?_, ?_⟩ <;> assumption) | (go_keep; done) | (simp [*, go_sem]; done))
    clear hKq Kq
    clear hH14
    refine wpAnyH_pure (i := 8) (v := ?_) rfl (by kernel_rfl) (by kernel_rfl) (by kernel_rfl) (fun _ _ _ h => h) (by rfl) (by assumption) ?_ ?_
    rotate_left
    · (intro w hSw; (try dsimp only at hSw); go_simp; (try with_reducible rfl))
    simp only [Act.put, List.getElem_toArray, List.getElem_cons_succ, List.getElem_cons_zero, List.setIfInBounds_toArray, List.set_cons_zero, List.set_cons_succ]
    refine wpAnyH_done (by kernel_rfl) ?_ _
    go_wp2
    go_ret
    exact ⟨ri HE2.out.symm, by (repeat' (first | (with_reducible exact Below.refl _ _) | (with_reducible assumption) | (with_reducible refine Below.alloc ?_ ?_ _) | (with_reducible refine Below.drew ?_) | (with_reducible refine below_drewN ?_ _) | (with_reducible refine Below.setCell ?_ ?_ _) | (with_reducible refine below_step (by with_reducible assumption) ?_ ?_) | (with_reducible exact Below.size (by with_reducible assumption)) | go_size))⟩
set_option maxRecDepth 100000 in
set_option maxHeartbeats 4000000 in
theorem rechoTime_any (e : Ec) (w : World) (h : ecE e = 0) :
    Calls Try.prog 60 #[e.v] w fun r w' => r = .returned (.agg #[.int .i64 (lsL (crM e.o e.fx e.fz e.ax e.az) + lsL (crM e.b e.tx e.tz e.ax e.az)), .int .i64 (lsH (crM e.o e.fx e.fz e.ax e.az) + lsH (crM e.b e.tx e.tz e.ax e.az))]) ∧ Below w.heap.size w w' := by
  obtain ⟨⟨m1, w1⟩, m2, w2⟩ := ecE_zero.1 h
  have d1 := ls_bd2 (okC_of m1 w1)
  have d2 := ls_bd2 (okC_of m2 w2)
  have K1 := Lib.hid (fun W => rleastTime_any e.o e.fx e.fz e.ax e.az W m1 w1)
  have K2 := Lib.hid (fun W => rleastTime_any e.b e.tx e.tz e.ax e.az W m2 w2)
  unfold Ec.v
  clear h m1 m2 w1 w2
  generalize lsL (crM e.o e.fx e.fz e.ax e.az) = a1 at *
  generalize lsH (crM e.o e.fx e.fz e.ax e.az) = a2 at *
  generalize lsL (crM e.b e.tx e.tz e.ax e.az) = b1 at *
  generalize lsH (crM e.b e.tx e.tz e.ax e.az) = b2 at *
  go_enter Try.func60, Try.ntmps60
  go_wp2
  refine wp_region_held_drew (S := fun w' => w'.cell? ⟨w.heap.size, 0, none⟩ = some (.int .i64 (e.o.Wedge)) ∧ w'.cell? ⟨w.heap.size, 1, none⟩ = some (.int .i64 (e.o.Metal)) ∧ w'.cell? ⟨w.heap.size, 2, none⟩ = some (.int .i64 (e.o.Skips)) ∧ w'.cell? ⟨w.heap.size, 3, none⟩ = some (.int .i64 (e.o.Thick)) ∧ w'.cell? ⟨w.heap.size, 4, none⟩ = some (.int .i64 (e.b.Wedge)) ∧ w'.cell? ⟨w.heap.size, 5, none⟩ = some (.int .i64 (e.b.Metal)) ∧ w'.cell? ⟨w.heap.size, 6, none⟩ = some (.int .i64 (e.b.Skips)) ∧ w'.cell? ⟨w.heap.size, 7, none⟩ = some (.int .i64 (e.b.Thick)) ∧ w'.cell? ⟨w.heap.size, 8, none⟩ = some (.int .i64 (e.fx)) ∧ w'.cell? ⟨w.heap.size, 9, none⟩ = some (.int .i64 (e.fz)) ∧ w'.cell? ⟨w.heap.size, 10, none⟩ = some (.int .i64 (e.ax)) ∧ w'.cell? ⟨w.heap.size, 11, none⟩ = some (.int .i64 (e.az)) ∧ w'.cell? ⟨w.heap.size, 12, none⟩ = some (.int .i64 (e.tx)) ∧ w'.cell? ⟨w.heap.size, 13, none⟩ = some (.int .i64 (e.tz)) ∧ w'.cell? ⟨w.heap.size + 1, 0, none⟩ = some (.int .i64 (0)) ∧ w'.cell? ⟨w.heap.size + 1, 1, none⟩ = some (.int .i64 (0)) ∧ w'.frozen? ⟨w.heap.size + 1, 0, none⟩ = false ∧ w'.frozen? ⟨w.heap.size + 1, 1, none⟩ = false) (by kernel_rfl) ?_ (fun hH1 => ?_)
  · (first | (go_keep; done) | (simp [*, go_sem]; done))
  refine wpAnyH_pure (i := 0) (v := ?_) rfl (by kernel_rfl) (by kernel_rfl) (by kernel_rfl) (fun _ _ _ h => h) (by rfl) (by assumption) ?_ ?_
  rotate_left
  · (intro w hSw; (try dsimp only at hSw); go_simp; (try with_reducible rfl))
  simp only [Act.put, List.getElem_toArray, List.getElem_cons_succ, List.getElem_cons_zero, List.setIfInBounds_toArray, List.set_cons_zero, List.set_cons_succ]
  refine wpAnyH_pure (i := 1) (v := ?_) rfl (by kernel_rfl) (by kernel_rfl) (by kernel_rfl) (fun _ _ _ h => h) (by rfl) (by assumption) ?_ ?_
  rotate_left
  · (intro w hSw; (try dsimp only at hSw); go_simp; (try with_reducible rfl))
  simp only [Act.put, List.getElem_toArray, List.getElem_cons_succ, List.getElem_cons_zero, List.setIfInBounds_toArray, List.set_cons_zero, List.set_cons_succ]
  refine wpAnyH_pure (i := 2) (v := ?_) rfl (by kernel_rfl) (by kernel_rfl) (by kernel_rfl) (fun _ _ _ h => h) (by rfl) (by assumption) ?_ ?_
  rotate_left
  · (intro w hSw; (try dsimp only at hSw); go_simp; (try with_reducible rfl))
  simp only [Act.put, List.getElem_toArray, List.getElem_cons_succ, List.getElem_cons_zero, List.setIfInBounds_toArray, List.set_cons_zero, List.set_cons_succ]
  refine wpAnyH_pure (i := 3) (v := ?_) rfl (by kernel_rfl) (by kernel_rfl) (by kernel_rfl) (fun _ _ _ h => h) (by rfl) (by assumption) ?_ ?_
  rotate_left
  · (intro w hSw; (try dsimp only at hSw); go_simp; (try with_reducible rfl))
  simp only [Act.put, List.getElem_toArray, List.getElem_cons_succ, List.getElem_cons_zero, List.setIfInBounds_toArray, List.set_cons_zero, List.set_cons_succ]
  refine wpAnyH_pure (i := 4) (v := ?_) rfl (by kernel_rfl) (by kernel_rfl) (by kernel_rfl) (fun _ _ _ h => h) (by rfl) (by assumption) ?_ ?_
  rotate_left
  · (intro w hSw; (try dsimp only at hSw); go_simp; (try with_reducible rfl))
  simp only [Act.put, List.getElem_toArray, List.getElem_cons_succ, List.getElem_cons_zero, List.setIfInBounds_toArray, List.set_cons_zero, List.set_cons_succ]
  refine wpAnyH_pure (i := 5) (v := ?_) rfl (by kernel_rfl) (by kernel_rfl) (by kernel_rfl) (fun _ _ _ h => h) (by rfl) (by assumption) ?_ ?_
  rotate_left
  · (intro w hSw; (try dsimp only at hSw); go_simp; (try with_reducible rfl))
  simp only [Act.put, List.getElem_toArray, List.getElem_cons_succ, List.getElem_cons_zero, List.setIfInBounds_toArray, List.set_cons_zero, List.set_cons_succ]
  refine wpAnyH_pure (i := 7) (v := ?_) rfl (by kernel_rfl) (by kernel_rfl) (by kernel_rfl) (fun _ _ _ h => h) (by rfl) (by assumption) ?_ ?_
  rotate_left
  · (intro w hSw; (try dsimp only at hSw); go_simp; (try with_reducible rfl))
  simp only [Act.put, List.getElem_toArray, List.getElem_cons_succ, List.getElem_cons_zero, List.setIfInBounds_toArray, List.set_cons_zero, List.set_cons_succ]
  refine wpAnyH_pure (i := 8) (v := ?_) rfl (by kernel_rfl) (by kernel_rfl) (by kernel_rfl) (fun _ _ _ h => h) (by rfl) (by assumption) ?_ ?_
  rotate_left
  · (intro w hSw; (try dsimp only at hSw); go_simp; (try with_reducible rfl))
  simp only [Act.put, List.getElem_toArray, List.getElem_cons_succ, List.getElem_cons_zero, List.setIfInBounds_toArray, List.set_cons_zero, List.set_cons_succ]
  refine wpAnyH_pure (i := 9) (v := ?_) rfl (by kernel_rfl) (by kernel_rfl) (by kernel_rfl) (fun _ _ _ h => h) (by rfl) (by assumption) ?_ ?_
  rotate_left
  · (intro w hSw; (try dsimp only at hSw); go_simp; (try with_reducible rfl))
  simp only [Act.put, List.getElem_toArray, List.getElem_cons_succ, List.getElem_cons_zero, List.setIfInBounds_toArray, List.set_cons_zero, List.set_cons_succ]
  refine wpAnyH_pure (i := 10) (v := ?_) rfl (by kernel_rfl) (by kernel_rfl) (by kernel_rfl) (fun _ _ _ h => h) (by rfl) (by assumption) ?_ ?_
  rotate_left
  · (intro w hSw; (try dsimp only at hSw); go_simp; (try with_reducible rfl))
  simp only [Act.put, List.getElem_toArray, List.getElem_cons_succ, List.getElem_cons_zero, List.setIfInBounds_toArray, List.set_cons_zero, List.set_cons_succ]
  refine wpAnyH_pure (i := 11) (v := ?_) rfl (by kernel_rfl) (by kernel_rfl) (by kernel_rfl) (fun _ _ _ h => h) (by rfl) (by assumption) ?_ ?_
  rotate_left
  · (intro w hSw; (try dsimp only at hSw); go_simp; (try with_reducible rfl))
  simp only [Act.put, List.getElem_toArray, List.getElem_cons_succ, List.getElem_cons_zero, List.setIfInBounds_toArray, List.set_cons_zero, List.set_cons_succ]
  refine wpAnyH_pure (i := 12) (v := ?_) rfl (by kernel_rfl) (by kernel_rfl) (by kernel_rfl) (fun _ _ _ h => h) (by rfl) (by assumption) ?_ ?_
  rotate_left
  · (intro w hSw; (try dsimp only at hSw); go_simp; (try with_reducible rfl))
  simp only [Act.put, List.getElem_toArray, List.getElem_cons_succ, List.getElem_cons_zero, List.setIfInBounds_toArray, List.set_cons_zero, List.set_cons_succ]
  refine wpAnyH_dag0 (fun a0 l0 l a W => ((W.cell? ⟨w.heap.size, 0, none⟩ = some (.int .i64 (e.o.Wedge)) ∧ W.cell? ⟨w.heap.size, 1, none⟩ = some (.int .i64 (e.o.Metal)) ∧ W.cell? ⟨w.heap.size, 2, none⟩ = some (.int .i64 (e.o.Skips)) ∧ W.cell? ⟨w.heap.size, 3, none⟩ = some (.int .i64 (e.o.Thick)) ∧ W.cell? ⟨w.heap.size, 4, none⟩ = some (.int .i64 (e.b.Wedge)) ∧ W.cell? ⟨w.heap.size, 5, none⟩ = some (.int .i64 (e.b.Metal)) ∧ W.cell? ⟨w.heap.size, 6, none⟩ = some (.int .i64 (e.b.Skips)) ∧ W.cell? ⟨w.heap.size, 7, none⟩ = some (.int .i64 (e.b.Thick)) ∧ W.cell? ⟨w.heap.size, 8, none⟩ = some (.int .i64 (e.fx)) ∧ W.cell? ⟨w.heap.size, 9, none⟩ = some (.int .i64 (e.fz)) ∧ W.cell? ⟨w.heap.size, 10, none⟩ = some (.int .i64 (e.ax)) ∧ W.cell? ⟨w.heap.size, 11, none⟩ = some (.int .i64 (e.az)) ∧ W.cell? ⟨w.heap.size, 12, none⟩ = some (.int .i64 (e.tx)) ∧ W.cell? ⟨w.heap.size, 13, none⟩ = some (.int .i64 (e.tz)) ∧ W.cell? ⟨w.heap.size + 1, 0, none⟩ = some (.int .i64 (0)) ∧ W.cell? ⟨w.heap.size + 1, 1, none⟩ = some (.int .i64 (0)) ∧ W.frozen? ⟨w.heap.size + 1, 0, none⟩ = false ∧ W.frozen? ⟨w.heap.size + 1, 1, none⟩ = false) ∧ Below w.heap.size w W ∧ (w.heap.size + 1 + 1) ≤ W.heap.size) ∧ (((l = l0) ∧ (a = a0)) ∨ ((l = (l0.setIfInBounds 6 true)) ∧ (a = (a0.put (some 11) (.agg #[.int .i64 a1, .int .i64 a2])))) ∨ (∃ n3 : Nat, (l = (l0.setIfInBounds 14 true)) ∧ (a = (a0.put (some 3) (.pointer (some ⟨n3, 0, none⟩)))) ∧ (((w.heap.size + 1 + 1) ≤ n3 ∧ n3 < W.heap.size) ∧ W.cell? ⟨n3, 0, none⟩ = some (.int .i64 0) ∧ W.frozen? ⟨n3, 0, none⟩ = false ∧ W.cell? ⟨n3, 1, none⟩ = some (.int .i64 0) ∧ W.frozen? ⟨n3, 1, none⟩ = false)) ∨ (∃ n4 : Nat, (l = (l0.setIfInBounds 15 true)) ∧ (a = (a0.put (some 4) (.pointer (some ⟨n4, 0, none⟩)))) ∧ (((w.heap.size + 1 + 1) ≤ n4 ∧ n4 < W.heap.size) ∧ W.cell? ⟨n4, 0, none⟩ = some (.int .i64 0) ∧ W.frozen? ⟨n4, 0, none⟩ = false ∧ W.cell? ⟨n4, 1, none⟩ = some (.int .i64 0) ∧ W.frozen? ⟨n4, 1, none⟩ = false)) ∨ ((l = ((l0.setIfInBounds 6 true).setIfInBounds 13 true)) ∧ (a = ((a0.put (some 11) (.agg #[.int .i64 a1, .int .i64 a2])).put (some 18) (.agg #[.int .i64 b1, .int .i64 b2])))) ∨ (∃ n3 : Nat, (l = ((l0.setIfInBounds 6 true).setIfInBounds 14 true)) ∧ (a = ((a0.put (some 11) (.agg #[.int .i64 a1, .int .i64 a2])).put (some 3) (.pointer (some ⟨n3, 0, none⟩)))) ∧ (((w.heap.size + 1 + 1) ≤ n3 ∧ n3 < W.heap.size) ∧ W.cell? ⟨n3, 0, none⟩ = some (.int .i64 0) ∧ W.frozen? ⟨n3, 0, none⟩ = false ∧ W.cell? ⟨n3, 1, none⟩ = some (.int .i64 0) ∧ W.frozen? ⟨n3, 1, none⟩ = false)) ∨ (∃ n4 : Nat, (l = ((l0.setIfInBounds 6 true).setIfInBounds 15 true)) ∧ (a = ((a0.put (some 11) (.agg #[.int .i64 a1, .int .i64 a2])).put (some 4) (.pointer (some ⟨n4, 0, none⟩)))) ∧ (((w.heap.size + 1 + 1) ≤ n4 ∧ n4 < W.heap.size) ∧ W.cell? ⟨n4, 0, none⟩ = some (.int .i64 0) ∧ W.frozen? ⟨n4, 0, none⟩ = false ∧ W.cell? ⟨n4, 1, none⟩ = some (.int .i64 0) ∧ W.frozen? ⟨n4, 1, none⟩ = false)) ∨ (∃ n3 n4 : Nat, (l = ((l0.setIfInBounds 14 true).setIfInBounds 15 true)) ∧ (a = ((a0.put (some 3) (.pointer (some ⟨n3, 0, none⟩))).put (some 4) (.pointer (some ⟨n4, 0, none⟩)))) ∧ (((w.heap.size + 1 + 1) ≤ n3 ∧ n3 < W.heap.size) ∧ W.cell? ⟨n3, 0, none⟩ = some (.int .i64 0) ∧ W.frozen? ⟨n3, 0, none⟩ = false ∧ W.cell? ⟨n3, 1, none⟩ = some (.int .i64 0) ∧ W.frozen? ⟨n3, 1, none⟩ = false) ∧ (((w.heap.size + 1 + 1) ≤ n4 ∧ n4 < W.heap.size) ∧ W.cell? ⟨n4, 0, none⟩ = some (.int .i64 0) ∧ W.frozen? ⟨n4, 0, none⟩ = false ∧ W.cell? ⟨n4, 1, none⟩ = some (.int .i64 0) ∧ W.frozen? ⟨n4, 1, none⟩ = false) ∧ (n3 ≠ n4)) ∨ (∃ n3 : Nat, (l = (((l0.setIfInBounds 6 true).setIfInBounds 13 true).setIfInBounds 14 true)) ∧ (a = (((a0.put (some 11) (.agg #[.int .i64 a1, .int .i64 a2])).put (some 18) (.agg #[.int .i64 b1, .int .i64 b2])).put (some 3) (.pointer (some ⟨n3, 0, none⟩)))) ∧ (((w.heap.size + 1 + 1) ≤ n3 ∧ n3 < W.heap.size) ∧ W.cell? ⟨n3, 0, none⟩ = some (.int .i64 0) ∧ W.frozen? ⟨n3, 0, none⟩ = false ∧ W.cell? ⟨n3, 1, none⟩ = some (.int .i64 0) ∧ W.frozen? ⟨n3, 1, none⟩ = false)) ∨ (∃ n4 : Nat, (l = (((l0.setIfInBounds 6 true).setIfInBounds 13 true).setIfInBounds 15 true)) ∧ (a = (((a0.put (some 11) (.agg #[.int .i64 a1, .int .i64 a2])).put (some 18) (.agg #[.int .i64 b1, .int .i64 b2])).put (some 4) (.pointer (some ⟨n4, 0, none⟩)))) ∧ (((w.heap.size + 1 + 1) ≤ n4 ∧ n4 < W.heap.size) ∧ W.cell? ⟨n4, 0, none⟩ = some (.int .i64 0) ∧ W.frozen? ⟨n4, 0, none⟩ = false ∧ W.cell? ⟨n4, 1, none⟩ = some (.int .i64 0) ∧ W.frozen? ⟨n4, 1, none⟩ = false)) ∨ (∃ n3 n4 : Nat, (l = (((l0.setIfInBounds 6 true).setIfInBounds 14 true).setIfInBounds 15 true)) ∧ (a = (((a0.put (some 11) (.agg #[.int .i64 a1, .int .i64 a2])).put (some 3) (.pointer (some ⟨n3, 0, none⟩))).put (some 4) (.pointer (some ⟨n4, 0, none⟩)))) ∧ (((w.heap.size + 1 + 1) ≤ n3 ∧ n3 < W.heap.size) ∧ W.cell? ⟨n3, 0, none⟩ = some (.int .i64 0) ∧ W.frozen? ⟨n3, 0, none⟩ = false ∧ W.cell? ⟨n3, 1, none⟩ = some (.int .i64 0) ∧ W.frozen? ⟨n3, 1, none⟩ = false) ∧ (((w.heap.size + 1 + 1) ≤ n4 ∧ n4 < W.heap.size) ∧ W.cell? ⟨n4, 0, none⟩ = some (.int .i64 0) ∧ W.frozen? ⟨n4, 0, none⟩ = false ∧ W.cell? ⟨n4, 1, none⟩ = some (.int .i64 0) ∧ W.frozen? ⟨n4, 1, none⟩ = false) ∧ (n3 ≠ n4)) ∨ (∃ n3 n4 : Nat, (l = ((((l0.setIfInBounds 6 true).setIfInBounds 13 true).setIfInBounds 14 true).setIfInBounds 15 true)) ∧ (a = ((((a0.put (some 11) (.agg #[.int .i64 a1, .int .i64 a2])).put (some 18) (.agg #[.int .i64 b1, .int .i64 b2])).put (some 3) (.pointer (some ⟨n3, 0, none⟩))).put (some 4) (.pointer (some ⟨n4, 0, none⟩)))) ∧ (((w.heap.size + 1 + 1) ≤ n3 ∧ n3 < W.heap.size) ∧ W.cell? ⟨n3, 0, none⟩ = some (.int .i64 0) ∧ W.frozen? ⟨n3, 0, none⟩ = false ∧ W.cell? ⟨n3, 1, none⟩ = some (.int .i64 0) ∧ W.frozen? ⟨n3, 1, none⟩ = false) ∧ (((w.heap.size + 1 + 1) ≤ n4 ∧ n4 < W.heap.size) ∧ W.cell? ⟨n4, 0, none⟩ = some (.int .i64 0) ∧ W.frozen? ⟨n4, 0, none⟩ = false ∧ W.cell? ⟨n4, 1, none⟩ = some (.int .i64 0) ∧ W.frozen? ⟨n4, 1, none⟩ = false) ∧ (n3 ≠ n4)))) (by rfl) ?_ ?_ ?_
  · exact ⟨⟨hH1, by (repeat' (first | (with_reducible exact Below.refl _ _) | (with_reducible assumption) | (with_reducible refine Below.alloc ?_ ?_ _) | (with_reducible refine Below.drew ?_) | (with_reducible refine below_drewN ?_ _) | (with_reducible refine Below.setCell ?_ ?_ _) | (with_reducible refine below_step (by with_reducible assumption) ?_ ?_) | (with_reducible exact Below.size (by with_reducible assumption)) | go_size)), by first | omega | (simp only [World.size_alloc, World.size_setCell, World.size_drew, size_drewN]; omega)⟩, (Or.inl ⟨rfl, rfl⟩)⟩
  · intro l a W hI; exact hI.1.1
  intro l a W hI
  obtain ⟨⟨hSW, hB, hZ⟩, hI⟩ := hI
  have hSW' := hSW
  obtain ⟨cS0, cS1, cS2, cS3, cS4, cS5, cS6, cS7, cS8, cS9, cS10, cS11, cS12, cS13, cS14, cS15, cS16, cS17⟩ := hSW
  rcases hI with ⟨rfl, rfl⟩ | ⟨rfl, rfl⟩ | ⟨n3, rfl, rfl, ⟨⟨zn3, yn3⟩, dn3_0, fn3_0, dn3_1, fn3_1⟩⟩ | ⟨n4, rfl, rfl, ⟨⟨zn4, yn4⟩, dn4_0, fn4_0, dn4_1, fn4_1⟩⟩ | ⟨rfl, rfl⟩ | ⟨n3, rfl, rfl, ⟨⟨zn3, yn3⟩, dn3_0, fn3_0, dn3_1, fn3_1⟩⟩ | ⟨n4, rfl, rfl, ⟨⟨zn4, yn4⟩, dn4_0, fn4_0, dn4_1, fn4_1⟩⟩ | ⟨n3, n4, rfl, rfl, ⟨⟨zn3, yn3⟩, dn3_0, fn3_0, dn3_1, fn3_1⟩, ⟨⟨zn4, yn4⟩, dn4_0, fn4_0, dn4_1, fn4_1⟩, hne0⟩ | ⟨n3, rfl, rfl, ⟨⟨zn3, yn3⟩, dn3_0, fn3_0, dn3_1, fn3_1⟩⟩ | ⟨n4, rfl, rfl, ⟨⟨zn4, yn4⟩, dn4_0, fn4_0, dn4_1, fn4_1⟩⟩ | ⟨n3, n4, rfl, rfl, ⟨⟨zn3, yn3⟩, dn3_0, fn3_0, dn3_1, fn3_1⟩, ⟨⟨zn4, yn4⟩, dn4_0, fn4_0, dn4_1, fn4_1⟩, hne0⟩ | ⟨n3, n4, rfl, rfl, ⟨⟨zn3, yn3⟩, dn3_0, fn3_0, dn3_1, fn3_1⟩, ⟨⟨zn4, yn4⟩, dn4_0, fn4_0, dn4_1, fn4_1⟩, hne0⟩
  · left
    refine ⟨[6, 14, 15], by kernel_rfl, by simp, ?_⟩
    simp only [Act.put, List.getElem_toArray, List.getElem_cons_succ, List.getElem_cons_zero, List.setIfInBounds_toArray, List.set_cons_zero, List.set_cons_succ]
    refine all_cons ?_ (all_cons ?_ (all_cons ?_ (all_nil)))
    · refine wpOp_step rfl (fun Kq hKq => ?_)
      go_simp
      refine (K1.out _).mono ?_
      rintro e W1 ⟨rfl, hw1⟩
      have hz1 := hw1.size
      have hc1 := (bcell hw1).1
      have hf1 := (bcell hw1).2
      refine hKq _ _ ?_
      exact ⟨⟨⟨(hc1 _ _ (by omega)).trans cS0, (hc1 _ _ (by omega)).trans cS1, (hc1 _ _ (by omega)).trans cS2, (hc1 _ _ (by omega)).trans cS3, (hc1 _ _ (by omega)).trans cS4, (hc1 _ _ (by omega)).trans cS5, (hc1 _ _ (by omega)).trans cS6, (hc1 _ _ (by omega)).trans cS7, (hc1 _ _ (by omega)).trans cS8, (hc1 _ _ (by omega)).trans cS9, (hc1 _ _ (by omega)).trans cS10, (hc1 _ _ (by omega)).trans cS11, (hc1 _ _ (by omega)).trans cS12, (hc1 _ _ (by omega)).trans cS13, (hc1 _ _ (by omega)).trans cS14, (hc1 _ _ (by omega)).trans cS15, (hf1 _ _ (by omega)).trans cS16, (hf1 _ _ (by omega)).trans cS17⟩, below_step hw1 hB (by have := hB.size; omega), by omega⟩, (Or.inr (Or.inl ⟨by rfl, by rfl⟩))⟩
    · refine wpOp_step rfl (fun Kq hKq => ?_)
      go_simp
      have hw1 : Below W.heap.size W (W.alloc (.cells #[.int .i64 0, .int .i64 0] 26)) := by (repeat' (first | (with_reducible exact Below.refl _ _) | (with_reducible assumption) | (with_reducible refine Below.alloc ?_ ?_ _) | (with_reducible refine Below.drew ?_) | (with_reducible refine below_drewN ?_ _) | (with_reducible refine Below.setCell ?_ ?_ _) | (with_reducible refine below_step (by with_reducible assumption) ?_ ?_) | (with_reducible exact Below.size (by with_reducible assumption)) | go_size))
      have hz1 : (W.alloc (.cells #[.int .i64 0, .int .i64 0] 26)).heap.size = W.heap.size + 1 := by simp
      have hc1 := (bcell hw1).1
      have hf1 := (bcell hw1).2
      refine hKq _ _ ?_
      exact ⟨⟨⟨(hc1 _ _ (by omega)).trans cS0, (hc1 _ _ (by omega)).trans cS1, (hc1 _ _ (by omega)).trans cS2, (hc1 _ _ (by omega)).trans cS3, (hc1 _ _ (by omega)).trans cS4, (hc1 _ _ (by omega)).trans cS5, (hc1 _ _ (by omega)).trans cS6, (hc1 _ _ (by omega)).trans cS7, (hc1 _ _ (by omega)).trans cS8, (hc1 _ _ (by omega)).trans cS9, (hc1 _ _ (by omega)).trans cS10, (hc1 _ _ (by omega)).trans cS11, (hc1 _ _ (by omega)).trans cS12, (hc1 _ _ (by omega)).trans cS13, (hc1 _ _ (by omega)).trans cS14, (hc1 _ _ (by omega)).trans cS15, (hf1 _ _ (by omega)).trans cS16, (hf1 _ _ (by omega)).trans cS17⟩, below_step hw1 hB (by have := hB.size; omega), by omega⟩, (Or.inr (Or.inr (Or.inl ⟨W.heap.size, by rfl, by rfl, ⟨⟨by omega, by omega⟩, by simp [go_sem], by simp [go_sem], by simp [go_sem], by simp [go_sem]⟩⟩)))⟩
    · refine wpOp_step rfl (fun Kq hKq => ?_)
      go_simp
      have hw1 : Below W.heap.size W (W.alloc (.cells #[.int .i64 0, .int .i64 0] 26)) := by (repeat' (first | (with_reducible exact Below.refl _ _) | (with_reducible assumption) | (with_reducible refine Below.alloc ?_ ?_ _) | (with_reducible refine Below.drew ?_) | (with_reducible refine below_drewN ?_ _) | (with_reducible refine Below.setCell ?_ ?_ _) | (with_reducible refine below_step (by with_reducible assumption) ?_ ?_) | (with_reducible exact Below.size (by with_reducible assumption)) | go_size))
      have hz1 : (W.alloc (.cells #[.int .i64 0, .int .i64 0] 26)).heap.size = W.heap.size + 1 := by simp
      have hc1 := (bcell hw1).1
      have hf1 := (bcell hw1).2
      refine hKq _ _ ?_
      exact ⟨⟨⟨(hc1 _ _ (by omega)).trans cS0, (hc1 _ _ (by omega)).trans cS1, (hc1 _ _ (by omega)).trans cS2, (hc1 _ _ (by omega)).trans cS3, (hc1 _ _ (by omega)).trans cS4, (hc1 _ _ (by omega)).trans cS5, (hc1 _ _ (by omega)).trans cS6, (hc1 _ _ (by omega)).trans cS7, (hc1 _ _ (by omega)).trans cS8, (hc1 _ _ (by omega)).trans cS9, (hc1 _ _ (by omega)).trans cS10, (hc1 _ _ (by omega)).trans cS11, (hc1 _ _ (by omega)).trans cS12, (hc1 _ _ (by omega)).trans cS13, (hc1 _ _ (by omega)).trans cS14, (hc1 _ _ (by omega)).trans cS15, (hf1 _ _ (by omega)).trans cS16, (hf1 _ _ (by omega)).trans cS17⟩, below_step hw1 hB (by have := hB.size; omega), by omega⟩, (Or.inr (Or.inr (Or.inr (Or.inl ⟨W.heap.size, by rfl, by rfl, ⟨⟨by omega, by omega⟩, by simp [go_sem], by simp [go_sem], by simp [go_sem], by simp [go_sem]⟩⟩))))⟩
  · left
    refine ⟨[13, 14, 15], by kernel_rfl, by simp, ?_⟩
    simp only [Act.put, List.getElem_toArray, List.getElem_cons_succ, List.getElem_cons_zero, List.setIfInBounds_toArray, List.set_cons_zero, List.set_cons_succ]
    refine all_cons ?_ (all_cons ?_ (all_cons ?_ (all_nil)))
    · refine wpOp_step rfl (fun Kq hKq => ?_)
      go_simp
      refine (K2.out _).mono ?_
      rintro e W1 ⟨rfl, hw1⟩
      have hz1 := hw1.size
      have hc1 := (bcell hw1).1
      have hf1 := (bcell hw1).2
      refine hKq _ _ ?_
      exact ⟨⟨⟨(hc1 _ _ (by omega)).trans cS0, (hc1 _ _ (by omega)).trans cS1, (hc1 _ _ (by omega)).trans cS2, (hc1 _ _ (by omega)).trans cS3, (hc1 _ _ (by omega)).trans cS4, (hc1 _ _ (by omega)).trans cS5, (hc1 _ _ (by omega)).trans cS6, (hc1 _ _ (by omega)).trans cS7, (hc1 _ _ (by omega)).trans cS8, (hc1 _ _ (by omega)).trans cS9, (hc1 _ _ (by omega)).trans cS10, (hc1 _ _ (by omega)).trans cS11, (hc1 _ _ (by omega)).trans cS12, (hc1 _ _ (by omega)).trans cS13, (hc1 _ _ (by omega)).trans cS14, (hc1 _ _ (by omega)).trans cS15, (hf1 _ _ (by omega)).trans cS16, (hf1 _ _ (by omega)).trans cS17⟩, below_step hw1 hB (by have := hB.size; omega), by omega⟩, (Or.inr (Or.inr (Or.inr (Or.inr (Or.inl ⟨by rfl, by rfl⟩)))))⟩
    · refine wpOp_step rfl (fun Kq hKq => ?_)
      go_simp
      have hw1 : Below W.heap.size W (W.alloc (.cells #[.int .i64 0, .int .i64 0] 26)) := by (repeat' (first | (with_reducible exact Below.refl _ _) | (with_reducible assumption) | (with_reducible refine Below.alloc ?_ ?_ _) | (with_reducible refine Below.drew ?_) | (with_reducible refine below_drewN ?_ _) | (with_reducible refine Below.setCell ?_ ?_ _) | (with_reducible refine below_step (by with_reducible assumption) ?_ ?_) | (with_reducible exact Below.size (by with_reducible assumption)) | go_size))
      have hz1 : (W.alloc (.cells #[.int .i64 0, .int .i64 0] 26)).heap.size = W.heap.size + 1 := by simp
      have hc1 := (bcell hw1).1
      have hf1 := (bcell hw1).2
      refine hKq _ _ ?_
      exact ⟨⟨⟨(hc1 _ _ (by omega)).trans cS0, (hc1 _ _ (by omega)).trans cS1, (hc1 _ _ (by omega)).trans cS2, (hc1 _ _ (by omega)).trans cS3, (hc1 _ _ (by omega)).trans cS4, (hc1 _ _ (by omega)).trans cS5, (hc1 _ _ (by omega)).trans cS6, (hc1 _ _ (by omega)).trans cS7, (hc1 _ _ (by omega)).trans cS8, (hc1 _ _ (by omega)).trans cS9, (hc1 _ _ (by omega)).trans cS10, (hc1 _ _ (by omega)).trans cS11, (hc1 _ _ (by omega)).trans cS12, (hc1 _ _ (by omega)).trans cS13, (hc1 _ _ (by omega)).trans cS14, (hc1 _ _ (by omega)).trans cS15, (hf1 _ _ (by omega)).trans cS16, (hf1 _ _ (by omega)).trans cS17⟩, below_step hw1 hB (by have := hB.size; omega), by omega⟩, (Or.inr (Or.inr (Or.inr (Or.inr (Or.inr (Or.inl ⟨W.heap.size, by rfl, by rfl, ⟨⟨by omega, by omega⟩, by simp [go_sem], by simp [go_sem], by simp [go_sem], by simp [go_sem]⟩⟩))))))⟩
    · refine wpOp_step rfl (fun Kq hKq => ?_)
      go_simp
      have hw1 : Below W.heap.size W (W.alloc (.cells #[.int .i64 0, .int .i64 0] 26)) := by (repeat' (first | (with_reducible exact Below.refl _ _) | (with_reducible assumption) | (with_reducible refine Below.alloc ?_ ?_ _) | (with_reducible refine Below.drew ?_) | (with_reducible refine below_drewN ?_ _) | (with_reducible refine Below.setCell ?_ ?_ _) | (with_reducible refine below_step (by with_reducible assumption) ?_ ?_) | (with_reducible exact Below.size (by with_reducible assumption)) | go_size))
      have hz1 : (W.alloc (.cells #[.int .i64 0, .int .i64 0] 26)).heap.size = W.heap.size + 1 := by simp
      have hc1 := (bcell hw1).1
      have hf1 := (bcell hw1).2
      refine hKq _ _ ?_
      exact ⟨⟨⟨(hc1 _ _ (by omega)).trans cS0, (hc1 _ _ (by omega)).trans cS1, (hc1 _ _ (by omega)).trans cS2, (hc1 _ _ (by omega)).trans cS3, (hc1 _ _ (by omega)).trans cS4, (hc1 _ _ (by omega)).trans cS5, (hc1 _ _ (by omega)).trans cS6, (hc1 _ _ (by omega)).trans cS7, (hc1 _ _ (by omega)).trans cS8, (hc1 _ _ (by omega)).trans cS9, (hc1 _ _ (by omega)).trans cS10, (hc1 _ _ (by omega)).trans cS11, (hc1 _ _ (by omega)).trans cS12, (hc1 _ _ (by omega)).trans cS13, (hc1 _ _ (by omega)).trans cS14, (hc1 _ _ (by omega)).trans cS15, (hf1 _ _ (by omega)).trans cS16, (hf1 _ _ (by omega)).trans cS17⟩, below_step hw1 hB (by have := hB.size; omega), by omega⟩, (Or.inr (Or.inr (Or.inr (Or.inr (Or.inr (Or.inr (Or.inl ⟨W.heap.size, by rfl, by rfl, ⟨⟨by omega, by omega⟩, by simp [go_sem], by simp [go_sem], by simp [go_sem], by simp [go_sem]⟩⟩)))))))⟩
  · left
    refine ⟨[6, 15], by kernel_rfl, by simp, ?_⟩
    simp only [Act.put, List.getElem_toArray, List.getElem_cons_succ, List.getElem_cons_zero, List.setIfInBounds_toArray, List.set_cons_zero, List.set_cons_succ]
    refine all_cons ?_ (all_cons ?_ (all_nil))
    · refine wpOp_step rfl (fun Kq hKq => ?_)
      go_simp
      refine (K1.out _).mono ?_
      rintro e W1 ⟨rfl, hw1⟩
      have hz1 := hw1.size
      have hc1 := (bcell hw1).1
      have hf1 := (bcell hw1).2
      refine hKq _ _ ?_
      exact ⟨⟨⟨(hc1 _ _ (by omega)).trans cS0, (hc1 _ _ (by omega)).trans cS1, (hc1 _ _ (by omega)).trans cS2, (hc1 _ _ (by omega)).trans cS3, (hc1 _ _ (by omega)).trans cS4, (hc1 _ _ (by omega)).trans cS5, (hc1 _ _ (by omega)).trans cS6, (hc1 _ _ (by omega)).trans cS7, (hc1 _ _ (by omega)).trans cS8, (hc1 _ _ (by omega)).trans cS9, (hc1 _ _ (by omega)).trans cS10, (hc1 _ _ (by omega)).trans cS11, (hc1 _ _ (by omega)).trans cS12, (hc1 _ _ (by omega)).trans cS13, (hc1 _ _ (by omega)).trans cS14, (hc1 _ _ (by omega)).trans cS15, (hf1 _ _ (by omega)).trans cS16, (hf1 _ _ (by omega)).trans cS17⟩, below_step hw1 hB (by have := hB.size; omega), by omega⟩, (Or.inr (Or.inr (Or.inr (Or.inr (Or.inr (Or.inl ⟨n3, by rfl, by rfl, ⟨⟨zn3, by omega⟩, (hc1 _ _ (by omega)).trans dn3_0, (hf1 _ _ (by omega)).trans fn3_0, (hc1 _ _ (by omega)).trans dn3_1, (hf1 _ _ (by omega)).trans fn3_1⟩⟩))))))⟩
    · refine wpOp_step rfl (fun Kq hKq => ?_)
      go_simp
      have hw1 : Below W.heap.size W (W.alloc (.cells #[.int .i64 0, .int .i64 0] 26)) := by (repeat' (first | (with_reducible exact Below.refl _ _) | (with_reducible assumption) | (with_reducible refine Below.alloc ?_ ?_ _) | (with_reducible refine Below.drew ?_) | (with_reducible refine below_drewN ?_ _) | (with_reducible refine Below.setCell ?_ ?_ _) | (with_reducible refine below_step (by with_reducible assumption) ?_ ?_) | (with_reducible exact Below.size (by with_reducible assumption)) | go_size))
      have hz1 : (W.alloc (.cells #[.int .i64 0, .int .i64 0] 26)).heap.size = W.heap.size + 1 := by simp
      have hc1 := (bcell hw1).1
      have hf1 := (bcell hw1).2
      refine hKq _ _ ?_
      exact ⟨⟨⟨(hc1 _ _ (by omega)).trans cS0, (hc1 _ _ (by omega)).trans cS1, (hc1 _ _ (by omega)).trans cS2, (hc1 _ _ (by omega)).trans cS3, (hc1 _ _ (by omega)).trans cS4, (hc1 _ _ (by omega)).trans cS5, (hc1 _ _ (by omega)).trans cS6, (hc1 _ _ (by omega)).trans cS7, (hc1 _ _ (by omega)).trans cS8, (hc1 _ _ (by omega)).trans cS9, (hc1 _ _ (by omega)).trans cS10, (hc1 _ _ (by omega)).trans cS11, (hc1 _ _ (by omega)).trans cS12, (hc1 _ _ (by omega)).trans cS13, (hc1 _ _ (by omega)).trans cS14, (hc1 _ _ (by omega)).trans cS15, (hf1 _ _ (by omega)).trans cS16, (hf1 _ _ (by omega)).trans cS17⟩, below_step hw1 hB (by have := hB.size; omega), by omega⟩, (Or.inr (Or.inr (Or.inr (Or.inr (Or.inr (Or.inr (Or.inr (Or.inl ⟨n3, W.heap.size, by rfl, by rfl, ⟨⟨zn3, by omega⟩, (hc1 _ _ (by omega)).trans dn3_0, (hf1 _ _ (by omega)).trans fn3_0, (hc1 _ _ (by omega)).trans dn3_1, (hf1 _ _ (by omega)).trans fn3_1⟩, ⟨⟨by omega, by omega⟩, by simp [go_sem], by simp [go_sem], by simp [go_sem], by simp [go_sem]⟩, by omega⟩))))))))⟩
  · left
    refine ⟨[6, 14], by kernel_rfl, by simp, ?_⟩
    simp only [Act.put, List.getElem_toArray, List.getElem_cons_succ, List.getElem_cons_zero, List.setIfInBounds_toArray, List.set_cons_zero, List.set_cons_succ]
    refine all_cons ?_ (all_cons ?_ (all_nil))
    · refine wpOp_step rfl (fun Kq hKq => ?_)
      go_simp
      refine (K1.out _).mono ?_
      rintro e W1 ⟨rfl, hw1⟩
      have hz1 := hw1.size
      have hc1 := (bcell hw1).1
      have hf1 := (bcell hw1).2
      refine hKq _ _ ?_
      exact ⟨⟨⟨(hc1 _ _ (by omega)).trans cS0, (hc1 _ _ (by omega)).trans cS1, (hc1 _ _ (by omega)).trans cS2, (hc1 _ _ (by omega)).trans cS3, (hc1 _ _ (by omega)).trans cS4, (hc1 _ _ (by omega)).trans cS5, (hc1 _ _ (by omega)).trans cS6, (hc1 _ _ (by omega)).trans cS7, (hc1 _ _ (by omega)).trans cS8, (hc1 _ _ (by omega)).trans cS9, (hc1 _ _ (by omega)).trans cS10, (hc1 _ _ (by omega)).trans cS11, (hc1 _ _ (by omega)).trans cS12, (hc1 _ _ (by omega)).trans cS13, (hc1 _ _ (by omega)).trans cS14, (hc1 _ _ (by omega)).trans cS15, (hf1 _ _ (by omega)).trans cS16, (hf1 _ _ (by omega)).trans cS17⟩, below_step hw1 hB (by have := hB.size; omega), by omega⟩, (Or.inr (Or.inr (Or.inr (Or.inr (Or.inr (Or.inr (Or.inl ⟨n4, by rfl, by rfl, ⟨⟨zn4, by omega⟩, (hc1 _ _ (by omega)).trans dn4_0, (hf1 _ _ (by omega)).trans fn4_0, (hc1 _ _ (by omega)).trans dn4_1, (hf1 _ _ (by omega)).trans fn4_1⟩⟩)))))))⟩
    · refine wpOp_step rfl (fun Kq hKq => ?_)
      go_simp
      have hw1 : Below W.heap.size W (W.alloc (.cells #[.int .i64 0, .int .i64 0] 26)) := by (repeat' (first | (with_reducible exact Below.refl _ _) | (with_reducible assumption) | (with_reducible refine Below.alloc ?_ ?_ _) | (with_reducible refine Below.drew ?_) | (with_reducible refine below_drewN ?_ _) | (with_reducible refine Below.setCell ?_ ?_ _) | (with_reducible refine below_step (by with_reducible assumption) ?_ ?_) | (with_reducible exact Below.size (by with_reducible assumption)) | go_size))
      have hz1 : (W.alloc (.cells #[.int .i64 0, .int .i64 0] 26)).heap.size = W.heap.size + 1 := by simp
      have hc1 := (bcell hw1).1
      have hf1 := (bcell hw1).2
      refine hKq _ _ ?_
      exact ⟨⟨⟨(hc1 _ _ (by omega)).trans cS0, (hc1 _ _ (by omega)).trans cS1, (hc1 _ _ (by omega)).trans cS2, (hc1 _ _ (by omega)).trans cS3, (hc1 _ _ (by omega)).trans cS4, (hc1 _ _ (by omega)).trans cS5, (hc1 _ _ (by omega)).trans cS6, (hc1 _ _ (by omega)).trans cS7, (hc1 _ _ (by omega)).trans cS8, (hc1 _ _ (by omega)).trans cS9, (hc1 _ _ (by omega)).trans cS10, (hc1 _ _ (by omega)).trans cS11, (hc1 _ _ (by omega)).trans cS12, (hc1 _ _ (by omega)).trans cS13, (hc1 _ _ (by omega)).trans cS14, (hc1 _ _ (by omega)).trans cS15, (hf1 _ _ (by omega)).trans cS16, (hf1 _ _ (by omega)).trans cS17⟩, below_step hw1 hB (by have := hB.size; omega), by omega⟩, (Or.inr (Or.inr (Or.inr (Or.inr (Or.inr (Or.inr (Or.inr (Or.inl ⟨W.heap.size, n4, by rfl, by rfl, ⟨⟨by omega, by omega⟩, by simp [go_sem], by simp [go_sem], by simp [go_sem], by simp [go_sem]⟩, ⟨⟨zn4, by omega⟩, (hc1 _ _ (by omega)).trans dn4_0, (hf1 _ _ (by omega)).trans fn4_0, (hc1 _ _ (by omega)).trans dn4_1, (hf1 _ _ (by omega)).trans fn4_1⟩, by omega⟩))))))))⟩
  · left
    refine ⟨[14, 15], by kernel_rfl, by simp, ?_⟩
    simp only [Act.put, List.getElem_toArray, List.getElem_cons_succ, List.getElem_cons_zero, List.setIfInBounds_toArray, List.set_cons_zero, List.set_cons_succ]
    refine all_cons ?_ (all_cons ?_ (all_nil))
    · refine wpOp_step rfl (fun Kq hKq => ?_)
      go_simp
      have hw1 : Below W.heap.size W (W.alloc (.cells #[.int .i64 0, .int .i64 0] 26)) := by (repeat' (first | (with_reducible exact Below.refl _ _) | (with_reducible assumption) | (with_reducible refine Below.alloc ?_ ?_ _) | (with_reducible refine Below.drew ?_) | (with_reducible refine below_drewN ?_ _) | (with_reducible refine Below.setCell ?_ ?_ _) | (with_reducible refine below_step (by with_reducible assumption) ?_ ?_) | (with_reducible exact Below.size (by with_reducible assumption)) | go_size))
      have hz1 : (W.alloc (.cells #[.int .i64 0, .int .i64 0] 26)).heap.size = W.heap.size + 1 := by simp
      have hc1 := (bcell hw1).1
      have hf1 := (bcell hw1).2
      refine hKq _ _ ?_
      exact ⟨⟨⟨(hc1 _ _ (by omega)).trans cS0, (hc1 _ _ (by omega)).trans cS1, (hc1 _ _ (by omega)).trans cS2, (hc1 _ _ (by omega)).trans cS3, (hc1 _ _ (by omega)).trans cS4, (hc1 _ _ (by omega)).trans cS5, (hc1 _ _ (by omega)).trans cS6, (hc1 _ _ (by omega)).trans cS7, (hc1 _ _ (by omega)).trans cS8, (hc1 _ _ (by omega)).trans cS9, (hc1 _ _ (by omega)).trans cS10, (hc1 _ _ (by omega)).trans cS11, (hc1 _ _ (by omega)).trans cS12, (hc1 _ _ (by omega)).trans cS13, (hc1 _ _ (by omega)).trans cS14, (hc1 _ _ (by omega)).trans cS15, (hf1 _ _ (by omega)).trans cS16, (hf1 _ _ (by omega)).trans cS17⟩, below_step hw1 hB (by have := hB.size; omega), by omega⟩, (Or.inr (Or.inr (Or.inr (Or.inr (Or.inr (Or.inr (Or.inr (Or.inr (Or.inl ⟨W.heap.size, by rfl, by rfl, ⟨⟨by omega, by omega⟩, by simp [go_sem], by simp [go_sem], by simp [go_sem], by simp [go_sem]⟩⟩)))))))))⟩
    · refine wpOp_step rfl (fun Kq hKq => ?_)
      go_simp
      have hw1 : Below W.heap.size W (W.alloc (.cells #[.int .i64 0, .int .i64 0] 26)) := by (repeat' (first | (with_reducible exact Below.refl _ _) | (with_reducible assumption) | (with_reducible refine Below.alloc ?_ ?_ _) | (with_reducible refine Below.drew ?_) | (with_reducible refine below_drewN ?_ _) | (with_reducible refine Below.setCell ?_ ?_ _) | (with_reducible refine below_step (by with_reducible assumption) ?_ ?_) | (with_reducible exact Below.size (by with_reducible assumption)) | go_size))
      have hz1 : (W.alloc (.cells #[.int .i64 0, .int .i64 0] 26)).heap.size = W.heap.size + 1 := by simp
      have hc1 := (bcell hw1).1
      have hf1 := (bcell hw1).2
      refine hKq _ _ ?_
      exact ⟨⟨⟨(hc1 _ _ (by omega)).trans cS0, (hc1 _ _ (by omega)).trans cS1, (hc1 _ _ (by omega)).trans cS2, (hc1 _ _ (by omega)).trans cS3, (hc1 _ _ (by omega)).trans cS4, (hc1 _ _ (by omega)).trans cS5, (hc1 _ _ (by omega)).trans cS6, (hc1 _ _ (by omega)).trans cS7, (hc1 _ _ (by omega)).trans cS8, (hc1 _ _ (by omega)).trans cS9, (hc1 _ _ (by omega)).trans cS10, (hc1 _ _ (by omega)).trans cS11, (hc1 _ _ (by omega)).trans cS12, (hc1 _ _ (by omega)).trans cS13, (hc1 _ _ (by omega)).trans cS14, (hc1 _ _ (by omega)).trans cS15, (hf1 _ _ (by omega)).trans cS16, (hf1 _ _ (by omega)).trans cS17⟩, below_step hw1 hB (by have := hB.size; omega), by omega⟩, (Or.inr (Or.inr (Or.inr (Or.inr (Or.inr (Or.inr (Or.inr (Or.inr (Or.inr (Or.inl ⟨W.heap.size, by rfl, by rfl, ⟨⟨by omega, by omega⟩, by simp [go_sem], by simp [go_sem], by simp [go_sem], by simp [go_sem]⟩⟩))))))))))⟩
  · left
    refine ⟨[13, 15], by kernel_rfl, by simp, ?_⟩
    simp only [Act.put, List.getElem_toArray, List.getElem_cons_succ, List.getElem_cons_zero, List.setIfInBounds_toArray, List.set_cons_zero, List.set_cons_succ]
    refine all_cons ?_ (all_cons ?_ (all_nil))
    · refine wpOp_step rfl (fun Kq hKq => ?_)
      go_simp
      refine (K2.out _).mono ?_
      rintro e W1 ⟨rfl, hw1⟩
      have hz1 := hw1.size
      have hc1 := (bcell hw1).1
      have hf1 := (bcell hw1).2
      refine hKq _ _ ?_
      exact ⟨⟨⟨(hc1 _ _ (by omega)).trans cS0, (hc1 _ _ (by omega)).trans cS1, (hc1 _ _ (by omega)).trans cS2, (hc1 _ _ (by omega)).trans cS3, (hc1 _ _ (by omega)).trans cS4, (hc1 _ _ (by omega)).trans cS5, (hc1 _ _ (by omega)).trans cS6, (hc1 _ _ (by omega)).trans cS7, (hc1 _ _ (by omega)).trans cS8, (hc1 _ _ (by omega)).trans cS9, (hc1 _ _ (by omega)).trans cS10, (hc1 _ _ (by omega)).trans cS11, (hc1 _ _ (by omega)).trans cS12, (hc1 _ _ (by omega)).trans cS13, (hc1 _ _ (by omega)).trans cS14, (hc1 _ _ (by omega)).trans cS15, (hf1 _ _ (by omega)).trans cS16, (hf1 _ _ (by omega)).trans cS17⟩, below_step hw1 hB (by have := hB.size; omega), by omega⟩, (Or.inr (Or.inr (Or.inr (Or.inr (Or.inr (Or.inr (Or.inr (Or.inr (Or.inl ⟨n3, by rfl, by rfl, ⟨⟨zn3, by omega⟩, (hc1 _ _ (by omega)).trans dn3_0, (hf1 _ _ (by omega)).trans fn3_0, (hc1 _ _ (by omega)).trans dn3_1, (hf1 _ _ (by omega)).trans fn3_1⟩⟩)))))))))⟩
    · refine wpOp_step rfl (fun Kq hKq => ?_)
      go_simp
      have hw1 : Below W.heap.size W (W.alloc (.cells #[.int .i64 0, .int .i64 0] 26)) := by (repeat' (first | (with_reducible exact Below.refl _ _) | (with_reducible assumption) | (with_reducible refine Below.alloc ?_ ?_ _) | (with_reducible refine Below.drew ?_) | (with_reducible refine below_drewN ?_ _) | (with_reducible refine Below.setCell ?_ ?_ _) | (with_reducible refine below_step (by with_reducible assumption) ?_ ?_) | (with_reducible exact Below.size (by with_reducible assumption)) | go_size))
      have hz1 : (W.alloc (.cells #[.int .i64 0, .int .i64 0] 26)).heap.size = W.heap.size + 1 := by simp
      have hc1 := (bcell hw1).1
      have hf1 := (bcell hw1).2
      refine hKq _ _ ?_
      exact ⟨⟨⟨(hc1 _ _ (by omega)).trans cS0, (hc1 _ _ (by omega)).trans cS1, (hc1 _ _ (by omega)).trans cS2, (hc1 _ _ (by omega)).trans cS3, (hc1 _ _ (by omega)).trans cS4, (hc1 _ _ (by omega)).trans cS5, (hc1 _ _ (by omega)).trans cS6, (hc1 _ _ (by omega)).trans cS7, (hc1 _ _ (by omega)).trans cS8, (hc1 _ _ (by omega)).trans cS9, (hc1 _ _ (by omega)).trans cS10, (hc1 _ _ (by omega)).trans cS11, (hc1 _ _ (by omega)).trans cS12, (hc1 _ _ (by omega)).trans cS13, (hc1 _ _ (by omega)).trans cS14, (hc1 _ _ (by omega)).trans cS15, (hf1 _ _ (by omega)).trans cS16, (hf1 _ _ (by omega)).trans cS17⟩, below_step hw1 hB (by have := hB.size; omega), by omega⟩, (Or.inr (Or.inr (Or.inr (Or.inr (Or.inr (Or.inr (Or.inr (Or.inr (Or.inr (Or.inr (Or.inl ⟨n3, W.heap.size, by rfl, by rfl, ⟨⟨zn3, by omega⟩, (hc1 _ _ (by omega)).trans dn3_0, (hf1 _ _ (by omega)).trans fn3_0, (hc1 _ _ (by omega)).trans dn3_1, (hf1 _ _ (by omega)).trans fn3_1⟩, ⟨⟨by omega, by omega⟩, by simp [go_sem], by simp [go_sem], by simp [go_sem], by simp [go_sem]⟩, by omega⟩)))))))))))⟩
  · left
    refine ⟨[13, 14], by kernel_rfl, by simp, ?_⟩
    simp only [Act.put, List.getElem_toArray, List.getElem_cons_succ, List.getElem_cons_zero, List.setIfInBounds_toArray, List.set_cons_zero, List.set_cons_succ]
    refine all_cons ?_ (all_cons ?_ (all_nil))
    · refine wpOp_step rfl (fun Kq hKq => ?_)
      go_simp
      refine (K2.out _).mono ?_
      rintro e W1 ⟨rfl, hw1⟩
      have hz1 := hw1.size
      have hc1 := (bcell hw1).1
      have hf1 := (bcell hw1).2
      refine hKq _ _ ?_
      exact ⟨⟨⟨(hc1 _ _ (by omega)).trans cS0, (hc1 _ _ (by omega)).trans cS1, (hc1 _ _ (by omega)).trans cS2, (hc1 _ _ (by omega)).trans cS3, (hc1 _ _ (by omega)).trans cS4, (hc1 _ _ (by omega)).trans cS5, (hc1 _ _ (by omega)).trans cS6, (hc1 _ _ (by omega)).trans cS7, (hc1 _ _ (by omega)).trans cS8, (hc1 _ _ (by omega)).trans cS9, (hc1 _ _ (by omega)).trans cS10, (hc1 _ _ (by omega)).trans cS11, (hc1 _ _ (by omega)).trans cS12, (hc1 _ _ (by omega)).trans cS13, (hc1 _ _ (by omega)).trans cS14, (hc1 _ _ (by omega)).trans cS15, (hf1 _ _ (by omega)).trans cS16, (hf1 _ _ (by omega)).trans cS17⟩, below_step hw1 hB (by have := hB.size; omega), by omega⟩, (Or.inr (Or.inr (Or.inr (Or.inr (Or.inr (Or.inr (Or.inr (Or.inr (Or.inr (Or.inl ⟨n4, by rfl, by rfl, ⟨⟨zn4, by omega⟩, (hc1 _ _ (by omega)).trans dn4_0, (hf1 _ _ (by omega)).trans fn4_0, (hc1 _ _ (by omega)).trans dn4_1, (hf1 _ _ (by omega)).trans fn4_1⟩⟩))))))))))⟩
    · refine wpOp_step rfl (fun Kq hKq => ?_)
      go_simp
      have hw1 : Below W.heap.size W (W.alloc (.cells #[.int .i64 0, .int .i64 0] 26)) := by (repeat' (first | (with_reducible exact Below.refl _ _) | (with_reducible assumption) | (with_reducible refine Below.alloc ?_ ?_ _) | (with_reducible refine Below.drew ?_) | (with_reducible refine below_drewN ?_ _) | (with_reducible refine Below.setCell ?_ ?_ _) | (with_reducible refine below_step (by with_reducible assumption) ?_ ?_) | (with_reducible exact Below.size (by with_reducible assumption)) | go_size))
      have hz1 : (W.alloc (.cells #[.int .i64 0, .int .i64 0] 26)).heap.size = W.heap.size + 1 := by simp
      have hc1 := (bcell hw1).1
      have hf1 := (bcell hw1).2
      refine hKq _ _ ?_
      exact ⟨⟨⟨(hc1 _ _ (by omega)).trans cS0, (hc1 _ _ (by omega)).trans cS1, (hc1 _ _ (by omega)).trans cS2, (hc1 _ _ (by omega)).trans cS3, (hc1 _ _ (by omega)).trans cS4, (hc1 _ _ (by omega)).trans cS5, (hc1 _ _ (by omega)).trans cS6, (hc1 _ _ (by omega)).trans cS7, (hc1 _ _ (by omega)).trans cS8, (hc1 _ _ (by omega)).trans cS9, (hc1 _ _ (by omega)).trans cS10, (hc1 _ _ (by omega)).trans cS11, (hc1 _ _ (by omega)).trans cS12, (hc1 _ _ (by omega)).trans cS13, (hc1 _ _ (by omega)).trans cS14, (hc1 _ _ (by omega)).trans cS15, (hf1 _ _ (by omega)).trans cS16, (hf1 _ _ (by omega)).trans cS17⟩, below_step hw1 hB (by have := hB.size; omega), by omega⟩, (Or.inr (Or.inr (Or.inr (Or.inr (Or.inr (Or.inr (Or.inr (Or.inr (Or.inr (Or.inr (Or.inl ⟨W.heap.size, n4, by rfl, by rfl, ⟨⟨by omega, by omega⟩, by simp [go_sem], by simp [go_sem], by simp [go_sem], by simp [go_sem]⟩, ⟨⟨zn4, by omega⟩, (hc1 _ _ (by omega)).trans dn4_0, (hf1 _ _ (by omega)).trans fn4_0, (hc1 _ _ (by omega)).trans dn4_1, (hf1 _ _ (by omega)).trans fn4_1⟩, by omega⟩)))))))))))⟩
  · left
    refine ⟨[6], by kernel_rfl, by simp, ?_⟩
    simp only [Act.put, List.getElem_toArray, List.getElem_cons_succ, List.getElem_cons_zero, List.setIfInBounds_toArray, List.set_cons_zero, List.set_cons_succ]
    refine all_cons ?_ (all_nil)
    · refine wpOp_step rfl (fun Kq hKq => ?_)
      go_simp
      refine (K1.out _).mono ?_
      rintro e W1 ⟨rfl, hw1⟩
      have hz1 := hw1.size
      have hc1 := (bcell hw1).1
      have hf1 := (bcell hw1).2
      refine hKq _ _ ?_
      exact ⟨⟨⟨(hc1 _ _ (by omega)).trans cS0, (hc1 _ _ (by omega)).trans cS1, (hc1 _ _ (by omega)).trans cS2, (hc1 _ _ (by omega)).trans cS3, (hc1 _ _ (by omega)).trans cS4, (hc1 _ _ (by omega)).trans cS5, (hc1 _ _ (by omega)).trans cS6, (hc1 _ _ (by omega)).trans cS7, (hc1 _ _ (by omega)).trans cS8, (hc1 _ _ (by omega)).trans cS9, (hc1 _ _ (by omega)).trans cS10, (hc1 _ _ (by omega)).trans cS11, (hc1 _ _ (by omega)).trans cS12, (hc1 _ _ (by omega)).trans cS13, (hc1 _ _ (by omega)).trans cS14, (hc1 _ _ (by omega)).trans cS15, (hf1 _ _ (by omega)).trans cS16, (hf1 _ _ (by omega)).trans cS17⟩, below_step hw1 hB (by have := hB.size; omega), by omega⟩, (Or.inr (Or.inr (Or.inr (Or.inr (Or.inr (Or.inr (Or.inr (Or.inr (Or.inr (Or.inr (Or.inl ⟨n3, n4, by rfl, by rfl, ⟨⟨zn3, by omega⟩, (hc1 _ _ (by omega)).trans dn3_0, (hf1 _ _ (by omega)).trans fn3_0, (hc1 _ _ (by omega)).trans dn3_1, (hf1 _ _ (by omega)).trans fn3_1⟩, ⟨⟨zn4, by omega⟩, (hc1 _ _ (by omega)).trans dn4_0, (hf1 _ _ (by omega)).trans fn4_0, (hc1 _ _ (by omega)).trans dn4_1, (hf1 _ _ (by omega)).trans fn4_1⟩, by omega⟩)))))))))))⟩
  · left
    refine ⟨[15], by kernel_rfl, by simp, ?_⟩
    simp only [Act.put, List.getElem_toArray, List.getElem_cons_succ, List.getElem_cons_zero, List.setIfInBounds_toArray, List.set_cons_zero, List.set_cons_succ]
    refine all_cons ?_ (all_nil)
    · refine wpOp_step rfl (fun Kq hKq => ?_)
      go_simp
      have hw1 : Below W.heap.size W (W.alloc (.cells #[.int .i64 0, .int .i64 0] 26)) := by (repeat' (first | (with_reducible exact Below.refl _ _) | (with_reducible assumption) | (with_reducible refine Below.alloc ?_ ?_ _) | (with_reducible refine Below.drew ?_) | (with_reducible refine below_drewN ?_ _) | (with_reducible refine Below.setCell ?_ ?_ _) | (with_reducible refine below_step (by with_reducible assumption) ?_ ?_) | (with_reducible exact Below.size (by with_reducible assumption)) | go_size))
      have hz1 : (W.alloc (.cells #[.int .i64 0, .int .i64 0] 26)).heap.size = W.heap.size + 1 := by simp
      have hc1 := (bcell hw1).1
      have hf1 := (bcell hw1).2
      refine hKq _ _ ?_
      exact ⟨⟨⟨(hc1 _ _ (by omega)).trans cS0, (hc1 _ _ (by omega)).trans cS1, (hc1 _ _ (by omega)).trans cS2, (hc1 _ _ (by omega)).trans cS3, (hc1 _ _ (by omega)).trans cS4, (hc1 _ _ (by omega)).trans cS5, (hc1 _ _ (by omega)).trans cS6, (hc1 _ _ (by omega)).trans cS7, (hc1 _ _ (by omega)).trans cS8, (hc1 _ _ (by omega)).trans cS9, (hc1 _ _ (by omega)).trans cS10, (hc1 _ _ (by omega)).trans cS11, (hc1 _ _ (by omega)).trans cS12, (hc1 _ _ (by omega)).trans cS13, (hc1 _ _ (by omega)).trans cS14, (hc1 _ _ (by omega)).trans cS15, (hf1 _ _ (by omega)).trans cS16, (hf1 _ _ (by omega)).trans cS17⟩, below_step hw1 hB (by have := hB.size; omega), by omega⟩, (Or.inr (Or.inr (Or.inr (Or.inr (Or.inr (Or.inr (Or.inr (Or.inr (Or.inr (Or.inr (Or.inr ⟨n3, W.heap.size, by rfl, by rfl, ⟨⟨zn3, by omega⟩, (hc1 _ _ (by omega)).trans dn3_0, (hf1 _ _ (by omega)).trans fn3_0, (hc1 _ _ (by omega)).trans dn3_1, (hf1 _ _ (by omega)).trans fn3_1⟩, ⟨⟨by omega, by omega⟩, by simp [go_sem], by simp [go_sem], by simp [go_sem], by simp [go_sem]⟩, by omega⟩)))))))))))⟩
  · left
    refine ⟨[14], by kernel_rfl, by simp, ?_⟩
    simp only [Act.put, List.getElem_toArray, List.getElem_cons_succ, List.getElem_cons_zero, List.setIfInBounds_toArray, List.set_cons_zero, List.set_cons_succ]
    refine all_cons ?_ (all_nil)
    · refine wpOp_step rfl (fun Kq hKq => ?_)
      go_simp
      have hw1 : Below W.heap.size W (W.alloc (.cells #[.int .i64 0, .int .i64 0] 26)) := by (repeat' (first | (with_reducible exact Below.refl _ _) | (with_reducible assumption) | (with_reducible refine Below.alloc ?_ ?_ _) | (with_reducible refine Below.drew ?_) | (with_reducible refine below_drewN ?_ _) | (with_reducible refine Below.setCell ?_ ?_ _) | (with_reducible refine below_step (by with_reducible assumption) ?_ ?_) | (with_reducible exact Below.size (by with_reducible assumption)) | go_size))
      have hz1 : (W.alloc (.cells #[.int .i64 0, .int .i64 0] 26)).heap.size = W.heap.size + 1 := by simp
      have hc1 := (bcell hw1).1
      have hf1 := (bcell hw1).2
      refine hKq _ _ ?_
      exact ⟨⟨⟨(hc1 _ _ (by omega)).trans cS0, (hc1 _ _ (by omega)).trans cS1, (hc1 _ _ (by omega)).trans cS2, (hc1 _ _ (by omega)).trans cS3, (hc1 _ _ (by omega)).trans cS4, (hc1 _ _ (by omega)).trans cS5, (hc1 _ _ (by omega)).trans cS6, (hc1 _ _ (by omega)).trans cS7, (hc1 _ _ (by omega)).trans cS8, (hc1 _ _ (by omega)).trans cS9, (hc1 _ _ (by omega)).trans cS10, (hc1 _ _ (by omega)).trans cS11, (hc1 _ _ (by omega)).trans cS12, (hc1 _ _ (by omega)).trans cS13, (hc1 _ _ (by omega)).trans cS14, (hc1 _ _ (by omega)).trans cS15, (hf1 _ _ (by omega)).trans cS16, (hf1 _ _ (by omega)).trans cS17⟩, below_step hw1 hB (by have := hB.size; omega), by omega⟩, (Or.inr (Or.inr (Or.inr (Or.inr (Or.inr (Or.inr (Or.inr (Or.inr (Or.inr (Or.inr (Or.inr ⟨W.heap.size, n4, by rfl, by rfl, ⟨⟨by omega, by omega⟩, by simp [go_sem], by simp [go_sem], by simp [go_sem], by simp [go_sem]⟩, ⟨⟨zn4, by omega⟩, (hc1 _ _ (by omega)).trans dn4_0, (hf1 _ _ (by omega)).trans fn4_0, (hc1 _ _ (by omega)).trans dn4_1, (hf1 _ _ (by omega)).trans fn4_1⟩, by omega⟩)))))))))))⟩
  · left
    refine ⟨[13], by kernel_rfl, by simp, ?_⟩
    simp only [Act.put, List.getElem_toArray, List.getElem_cons_succ, List.getElem_cons_zero, List.setIfInBounds_toArray, List.set_cons_zero, List.set_cons_succ]
    refine all_cons ?_ (all_nil)
    · refine wpOp_step rfl (fun Kq hKq => ?_)
      go_simp
      refine (K2.out _).mono ?_
      rintro e W1 ⟨rfl, hw1⟩
      have hz1 := hw1.size
      have hc1 := (bcell hw1).1
      have hf1 := (bcell hw1).2
      refine hKq _ _ ?_
      exact ⟨⟨⟨(hc1 _ _ (by omega)).trans cS0, (hc1 _ _ (by omega)).trans cS1, (hc1 _ _ (by omega)).trans cS2, (hc1 _ _ (by omega)).trans cS3, (hc1 _ _ (by omega)).trans cS4, (hc1 _ _ (by omega)).trans cS5, (hc1 _ _ (by omega)).trans cS6, (hc1 _ _ (by omega)).trans cS7, (hc1 _ _ (by omega)).trans cS8, (hc1 _ _ (by omega)).trans cS9, (hc1 _ _ (by omega)).trans cS10, (hc1 _ _ (by omega)).trans cS11, (hc1 _ _ (by omega)).trans cS12, (hc1 _ _ (by omega)).trans cS13, (hc1 _ _ (by omega)).trans cS14, (hc1 _ _ (by omega)).trans cS15, (hf1 _ _ (by omega)).trans cS16, (hf1 _ _ (by omega)).trans cS17⟩, below_step hw1 hB (by have := hB.size; omega), by omega⟩, (Or.inr (Or.inr (Or.inr (Or.inr (Or.inr (Or.inr (Or.inr (Or.inr (Or.inr (Or.inr (Or.inr ⟨n3, n4, by rfl, by rfl, ⟨⟨zn3, by omega⟩, (hc1 _ _ (by omega)).trans dn3_0, (hf1 _ _ (by omega)).trans fn3_0, (hc1 _ _ (by omega)).trans dn3_1, (hf1 _ _ (by omega)).trans fn3_1⟩, ⟨⟨zn4, by omega⟩, (hc1 _ _ (by omega)).trans dn4_0, (hf1 _ _ (by omega)).trans fn4_0, (hc1 _ _ (by omega)).trans dn4_1, (hf1 _ _ (by omega)).trans fn4_1⟩, by omega⟩)))))))))))⟩
  right
  refine wpAnyH_fuel 2 (by rfl) ?_
  simp only [Act.put, List.getElem_toArray, List.getElem_cons_succ, List.getElem_cons_zero, List.setIfInBounds_toArray, List.set_cons_zero, List.set_cons_succ]
  have : ¬ n3 = w.heap.size := by omega
  have : ¬ w.heap.size = n3 := by omega
  have : ¬ n3 = w.heap.size + 1 := by omega
  have : ¬ w.heap.size + 1 = n3 := by omega
  have : ¬ n4 = w.heap.size := by omega
  have : ¬ w.heap.size = n4 := by omega
  have : ¬ n4 = w.heap.size + 1 := by omega
  have : ¬ w.heap.size + 1 = n4 := by omega
  have : ¬ n3 = n4 := by omega
  have : ¬ n4 = n3 := by omega
  clear hH1
  refine wpAnyH_ready (rs := [16]) (by kernel_rfl) (by simp) ?_
  refine AllReadyH.cons rfl (fun Kq hKq => ?_) AllReadyH.nil
  go_simp
  refine hKq.out _ _ ?_ (fun hH2 => ?_)
  · (first | (refine ⟨?_, ?_, ?_, ?_, ?_, ?_, ?_, ?_, ?_, ?_, ?_, ?_, ?_, ?_, ?_, ?_, ?_, ?_⟩ <;> (simp only [World.cell?_setCell_far, World.frozen?_setCell, *, ne_eq, not_false_eq_true]); done) | (go_keep; done) | (simp [*, go_sem]; done))
  clear hKq Kq
  refine wpAnyH_ready (rs := [17]) (by kernel_rfl) (by simp) ?_
  refine AllReadyH.cons rfl (fun Kq hKq => ?_) AllReadyH.nil
  go_simp
  refine hKq.out _ _ ?_ (fun hH3 => ?_)
  · (first | (refine ⟨?_, ?_, ?_, ?_, ?_, ?_, ?_, ?_, ?_, ?_, ?_, ?_, ?_, ?_, ?_, ?_, ?_, ?_⟩ <;> (simp only [World.cell?_setCell_far, World.frozen?_setCell, *, ne_eq, not_false_eq_true]); done) | (go_keep; done) | (simp [*, go_sem]; done))
  clear hKq Kq
  have hZ1 := hZ
  refine wpAnyH_fin (T := fun W => (W.cell? ⟨w.heap.size, 0, none⟩ = some (.int .i64 (e.o.Wedge)) ∧ W.cell? ⟨w.heap.size, 1, none⟩ = some (.int .i64 (e.o.Metal)) ∧ W.cell? ⟨w.heap.size, 2, none⟩ = some (.int .i64 (e.o.Skips)) ∧ W.cell? ⟨w.heap.size, 3, none⟩ = some (.int .i64 (e.o.Thick)) ∧ W.cell? ⟨w.heap.size, 4, none⟩ = some (.int .i64 (e.b.Wedge)) ∧ W.cell? ⟨w.heap.size, 5, none⟩ = some (.int .i64 (e.b.Metal)) ∧ W.cell? ⟨w.heap.size, 6, none⟩ = some (.int .i64 (e.b.Skips)) ∧ W.cell? ⟨w.heap.size, 7, none⟩ = some (.int .i64 (e.b.Thick)) ∧ W.cell? ⟨w.heap.size, 8, none⟩ = some (.int .i64 (e.fx)) ∧ W.cell? ⟨w.heap.size, 9, none⟩ = some (.int .i64 (e.fz)) ∧ W.cell? ⟨w.heap.size, 10, none⟩ = some (.int .i64 (e.ax)) ∧ W.cell? ⟨w.heap.size, 11, none⟩ = some (.int .i64 (e.az)) ∧ W.cell? ⟨w.heap.size, 12, none⟩ = some (.int .i64 (e.tx)) ∧ W.cell? ⟨w.heap.size, 13, none⟩ = some (.int .i64 (e.tz)) ∧ W.cell? ⟨w.heap.size + 1, 0, none⟩ = some (.int .i64 (0)) ∧ W.cell? ⟨w.heap.size + 1, 1, none⟩ = some (.int .i64 (0)) ∧ W.frozen? ⟨w.heap.size + 1, 0, none⟩ = false ∧ W.frozen? ⟨w.heap.size + 1, 1, none⟩ = false) ∧ (W.cell? ⟨n3, 0, none⟩ = some (.int .i64 a1) ∧ W.cell? ⟨n3, 1, none⟩ = some (.int .i64 a2) ∧ W.cell? ⟨n4, 0, none⟩ = some (.int .i64 b1) ∧ W.cell? ⟨n4, 1, none⟩ = some (.int .i64 b2)) ∧ (n3 < W.heap.size ∧ n4 < W.heap.size ∧ (w.heap.size + 1 + 1) ≤ W.heap.size) ∧ Below w.heap.size w W) (by kernel_rfl) ⟨hH3, ?_, ?_, ?_⟩ (fun W1 hT => ?_)
  · first | (refine ⟨?_, ?_, ?_, ?_⟩ <;> (simp only [World.cell?_setCell_far, *, ne_eq, not_false_eq_true]); done) | (clear hH3; simp [*, go_sem]; done) | (simp [go_sem, *]; done)
  · refine ⟨?_, ?_, ?_⟩ <;> (simp only [World.size_setCell]; omega)
  · (repeat' (first | (with_reducible exact Below.refl _ _) | (with_reducible assumption) | (with_reducible refine Below.alloc ?_ ?_ _) | (with_reducible refine Below.drew ?_) | (with_reducible refine below_drewN ?_ _) | (with_reducible refine Below.setCell ?_ ?_ _) | (with_reducible refine below_step (by with_reducible assumption) ?_ ?_) | (with_reducible exact Below.size (by with_reducible assumption)) | go_size))
  obtain ⟨⟨gS0, gS1, gS2, gS3, gS4, gS5, gS6, gS7, gS8, gS9, gS10, gS11, gS12, gS13, gS14, gS15, gS16, gS17⟩, ⟨gF0, gF1, gF2, gF3⟩, ⟨gZ0, gZ1, gZ2⟩, hB1⟩ := hT
  clear hSW' hH3 hB hZ hZ1 cS0 cS1 cS2 cS3 cS4 cS5 cS6 cS7 cS8 cS9 cS10 cS11 cS12 cS13 cS14 cS15 cS16 cS17 zn3 yn3 dn3_0 fn3_0 dn3_1 fn3_1 zn4 yn4 dn4_0 fn4_0 dn4_1 fn4_1
  go_wp2
  refine bodyPost_ret (by simp [results, Try.results60, go_sem, *]; rfl) rfl ?_
  exact ⟨rfl, by (repeat' (first | (with_reducible exact Below.refl _ _) | (with_reducible assumption) | (with_reducible refine Below.alloc ?_ ?_ _) | (with_reducible refine Below.drew ?_) | (with_reducible refine below_drewN ?_ _) | (with_reducible refine Below.setCell ?_ ?_ _) | (with_reducible refine below_step (by with_reducible assumption) ?_ ?_) | (with_reducible exact Below.size (by with_reducible assumption)) | go_size))⟩
end Go.Proofs.Ytegdokmgplancaa
