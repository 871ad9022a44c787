/-
  CROSSINGS of the reference: CheckCross, CheckCrossing, Least.
-/
import Derived.Test.YtegdokmgplancaaRefTime
import Derived.Test.YtegdokmgplancaaRayLeastT
import Derived.Test.YtegdokmgplancaaRefDir
set_option linter.unusedVariables false
set_option linter.unusedSimpArgs false
namespace Go.Proofs.Ytegdokmgplancaa
open Go.RowKit

set_option maxRecDepth 100000 in
set_option maxHeartbeats 2000000 in
theorem rcheckCross_any (x : Cr) (w : World) :
    Calls Try.prog 29 #[.agg #[.int .i64 x.X1, .int .i64 x.H1, .int .i64 x.V1, .int .i64 x.X2, .int .i64 x.H2, .int .i64 x.V2]] w fun e w' => e = .returned (.int .i64 (cE x)) ∧ Below w.heap.size w w' := by
  have HE : cE x = frst [unl (inB x.X1 (-100000) 100000 && inB x.X2 (-100000) 100000) 2, unl (inB x.H1 1 100000 && inB x.H2 1 100000) 2, unl (inB x.V1 500 10000) 2, unl (inB x.V2 500 10000) 2] := rfl
  have B1 : ∀ W, _ := fun W => bwithin_any x.X1 (-100000) 100000 W
  have B2 : ∀ W, _ := fun W => bwithin_any x.X2 (-100000) 100000 W
  have B3 : ∀ W, _ := fun W => bwithin_any x.H1 1 100000 W
  have B4 : ∀ W, _ := fun W => bwithin_any x.H2 1 100000 W
  cases c1 : inB x.X1 (-100000) 100000
  · rw [c1] at HE B1
    have HE2 := Lib.hid (HE.trans (show _ = 2 from rfl))
    have D1 := Lib.hid B1
    clear HE B1 B2 B3 B4 c1
    go_enter Try.func29, Try.ntmps29
    go_wp2_with fail
    refine (D1.out _).mono ?_
    rintro e w' ⟨rfl, rfl⟩
    go_wp2
    go_ret
    exact ⟨ri HE2.out.symm, by (repeat' (first | (with_reducible exact Below.refl _ _) | (with_reducible assumption) | (with_reducible refine Below.alloc ?_ ?_ _) | (with_reducible refine Below.drew ?_) | (with_reducible refine below_drewN ?_ _) | (with_reducible refine Below.setCell ?_ ?_ _) | (with_reducible refine below_step (by with_reducible assumption) ?_ ?_) | (with_reducible exact Below.size (by with_reducible assumption)) | go_size))⟩
  · rw [c1] at HE B1
    have D1 := Lib.hid B1
    clear B1 c1
    cases c2 : inB x.X2 (-100000) 100000
    · rw [c2] at HE B2
      have HE2 := Lib.hid (HE.trans (show _ = 2 from rfl))
      have D2 := Lib.hid B2
      clear HE B2 B3 B4 c2
      go_enter Try.func29, Try.ntmps29
      go_wp2_with fail
      refine (D1.out _).mono ?_
      rintro e w' ⟨rfl, rfl⟩
      go_wp2_with fail
      refine (D2.out _).mono ?_
      rintro e w' ⟨rfl, rfl⟩
      go_wp2
      go_ret
      exact ⟨ri HE2.out.symm, by (repeat' (first | (with_reducible exact Below.refl _ _) | (with_reducible assumption) | (with_reducible refine Below.alloc ?_ ?_ _) | (with_reducible refine Below.drew ?_) | (with_reducible refine below_drewN ?_ _) | (with_reducible refine Below.setCell ?_ ?_ _) | (with_reducible refine below_step (by with_reducible assumption) ?_ ?_) | (with_reducible exact Below.size (by with_reducible assumption)) | go_size))⟩
    · rw [c2] at HE B2
      have D2 := Lib.hid B2
      clear B2 c2
      cases c3 : inB x.H1 1 100000
      · rw [c3] at HE B3
        have HE2 := Lib.hid (HE.trans (show _ = 2 from rfl))
        have D3 := Lib.hid B3
        clear HE B3 B4 c3
        go_enter Try.func29, Try.ntmps29
        go_wp2_with fail
        refine (D1.out _).mono ?_
        rintro e w' ⟨rfl, rfl⟩
        go_wp2_with fail
        refine (D2.out _).mono ?_
        rintro e w' ⟨rfl, rfl⟩
        go_wp2_with fail
        refine (D3.out _).mono ?_
        rintro e w' ⟨rfl, rfl⟩
        go_wp2
        go_ret
        exact ⟨ri HE2.out.symm, by (repeat' (first | (with_reducible exact Below.refl _ _) | (with_reducible assumption) | (with_reducible refine Below.alloc ?_ ?_ _) | (with_reducible refine Below.drew ?_) | (with_reducible refine below_drewN ?_ _) | (with_reducible refine Below.setCell ?_ ?_ _) | (with_reducible refine below_step (by with_reducible assumption) ?_ ?_) | (with_reducible exact Below.size (by with_reducible assumption)) | go_size))⟩
      · rw [c3] at HE B3
        have D3 := Lib.hid B3
        clear B3 c3
        cases c4 : inB x.H2 1 100000
        · rw [c4] at HE B4
          have HE2 := Lib.hid (HE.trans (show _ = 2 from rfl))
          have D4 := Lib.hid B4
          clear HE B4 c4
          go_enter Try.func29, Try.ntmps29
          go_wp2_with fail
          refine (D1.out _).mono ?_
          rintro e w' ⟨rfl, rfl⟩
          go_wp2_with fail
          refine (D2.out _).mono ?_
          rintro e w' ⟨rfl, rfl⟩
          go_wp2_with fail
          refine (D3.out _).mono ?_
          rintro e w' ⟨rfl, rfl⟩
          go_wp2_with fail
          refine (D4.out _).mono ?_
          rintro e w' ⟨rfl, rfl⟩
          go_wp2
          go_ret
          exact ⟨ri HE2.out.symm, by (repeat' (first | (with_reducible exact Below.refl _ _) | (with_reducible assumption) | (with_reducible refine Below.alloc ?_ ?_ _) | (with_reducible refine Below.drew ?_) | (with_reducible refine below_drewN ?_ _) | (with_reducible refine Below.setCell ?_ ?_ _) | (with_reducible refine below_step (by with_reducible assumption) ?_ ?_) | (with_reducible exact Below.size (by with_reducible assumption)) | go_size))⟩
        · rw [c4] at HE B4
          have HE2 := Lib.hid (HE.trans (show _ = frst [unl (inB x.V1 500 10000) 2, unl (inB x.V2 500 10000) 2] from rfl))
          have D4 := Lib.hid B4
          clear HE B4 c4
          go_enter Try.func29, Try.ntmps29
          go_wp2_with fail
          refine (D1.out _).mono ?_
          rintro e w' ⟨rfl, rfl⟩
          go_wp2_with fail
          refine (D2.out _).mono ?_
          rintro e w' ⟨rfl, rfl⟩
          go_wp2_with fail
          refine (D3.out _).mono ?_
          rintro e w' ⟨rfl, rfl⟩
          go_wp2_with fail
          refine (D4.out _).mono ?_
          rintro e w' ⟨rfl, rfl⟩
          go_wp2
          refine wp_region_held_drew (S := fun w' => w'.cell? ⟨w.heap.size, 0, none⟩ = some (.int .i64 (x.X1)) ∧ w'.cell? ⟨w.heap.size, 1, none⟩ = some (.int .i64 (x.H1)) ∧ w'.cell? ⟨w.heap.size, 2, none⟩ = some (.int .i64 (x.V1)) ∧ w'.cell? ⟨w.heap.size, 3, none⟩ = some (.int .i64 (x.X2)) ∧ w'.cell? ⟨w.heap.size, 4, none⟩ = some (.int .i64 (x.H2)) ∧ w'.cell? ⟨w.heap.size, 5, none⟩ = some (.int .i64 (x.V2))) (by kernel_rfl) ?_ (fun hH1 => ?_)
          · (first | assumption | (refine ⟨?_, ?_, ?_, ?_, ?_, ?_⟩ <;> assumption) | (go_keep; done) | (simp [*, go_sem]; done))
          refine wpAnyH_pure (i := 0) (v := ?_) rfl (by kernel_rfl) (by kernel_rfl) (by kernel_rfl) (fun _ _ _ h => h) (by rfl) (by assumption) ?_ ?_
          rotate_left
          · (intro w hSw; (try dsimp only at hSw); go_simp; (try with_reducible rfl))
          simp only [Act.put, List.getElem_toArray, List.getElem_cons_succ, List.getElem_cons_zero, List.setIfInBounds_toArray, List.set_cons_zero, List.set_cons_succ]
          refine wpAnyH_pure (i := 1) (v := ?_) rfl (by kernel_rfl) (by kernel_rfl) (by kernel_rfl) (fun _ _ _ h => h) (by rfl) (by assumption) ?_ ?_
          rotate_left
          · (intro w hSw; (try dsimp only at hSw); go_simp; (try with_reducible rfl))
          simp only [Act.put, List.getElem_toArray, List.getElem_cons_succ, List.getElem_cons_zero, List.setIfInBounds_toArray, List.set_cons_zero, List.set_cons_succ]
          refine wpAnyH_pure (i := 3) (v := ?_) rfl (by kernel_rfl) (by kernel_rfl) (by kernel_rfl) (fun _ _ _ h => h) (by rfl) (by assumption) ?_ ?_
          rotate_left
          · (intro w hSw; (try dsimp only at hSw); go_simp; (try with_reducible rfl))
          simp only [Act.put, List.getElem_toArray, List.getElem_cons_succ, List.getElem_cons_zero, List.setIfInBounds_toArray, List.set_cons_zero, List.set_cons_succ]
          refine wpAnyH_pure (i := 4) (v := ?_) rfl (by kernel_rfl) (by kernel_rfl) (by kernel_rfl) (fun _ _ _ h => h) (by rfl) (by assumption) ?_ ?_
          rotate_left
          · (intro w hSw; (try dsimp only at hSw); go_simp; (try with_reducible rfl))
          simp only [Act.put, List.getElem_toArray, List.getElem_cons_succ, List.getElem_cons_zero, List.setIfInBounds_toArray, List.set_cons_zero, List.set_cons_succ]
          refine wpAnyH_ready (rs := [2]) (by kernel_rfl) (by simp) ?_
          refine AllReadyH.cons rfl (fun Kq hKq => ?_) AllReadyH.nil
          go_simp
          refine (refSpeed_any _ _).mono ?_
          (rintro e w' ⟨rfl, rfl⟩)
          refine hKq.out _ _ ?_ (fun hH2 => ?_)
          · (first | assumption | (refine ⟨?_, ?_, ?_, ?_, ?_, ?_⟩ <;> assumption) | (go_keep; done) | (simp [*, go_sem]; done))
          clear hKq Kq
          clear hH1
          refine wpAnyH_ready (rs := [5]) (by kernel_rfl) (by simp) ?_
          refine AllReadyH.cons rfl (fun Kq hKq => ?_) AllReadyH.nil
          go_simp
          refine (refSpeed_any _ _).mono ?_
          (rintro e w' ⟨rfl, rfl⟩)
          refine hKq.out _ _ ?_ (fun hH3 => ?_)
          · (first | assumption | (refine ⟨?_, ?_, ?_, ?_, ?_, ?_⟩ <;> assumption) | (go_keep; done) | (simp [*, go_sem]; done))
          clear hKq Kq
          clear hH2
          refine wpAnyH_ready (rs := [6]) (by kernel_rfl) (by simp) ?_
          refine AllReadyH.cons rfl (fun Kq hKq => ?_) AllReadyH.nil
          go_simp
          refine hKq.out _ _ ?_ (fun hH4 => ?_)
          · (first | assumption | (refine ⟨?_, ?_, ?_, ?_, ?_, ?_⟩ <;> assumption) | (go_keep; done) | (simp [*, go_sem]; done))
          clear hKq Kq
          clear hH3
          refine wpAnyH_ready (rs := [7]) (by kernel_rfl) (by simp) ?_
          refine AllReadyH.cons rfl (fun Kq hKq => ?_) AllReadyH.nil
          go_simp
          apply Calls.mono
          focus ((apply rfirst2 <;> exact cell_fresh _ _ _ _ _ _ (by first | rfl | simp) rfl); done)
          (rintro e w' ⟨rfl, rfl⟩)
          refine hKq.out _ _ ?_ (fun hH5 => ?_)
          · (first | assumption | (refine ⟨?_, ?_, ?_, ?_, ?_, ?_⟩ <;> assumption) | (go_keep; done) | (simp [*, go_sem]; done))
          clear hKq Kq
          clear hH4
          refine wpAnyH_pure (i := 8) (v := ?_) rfl (by kernel_rfl) (by kernel_rfl) (by kernel_rfl) (fun _ _ _ h => h) (by rfl) (by assumption) ?_ ?_
          rotate_left
          · (intro w hSw; (try dsimp only at hSw); go_simp; (try with_reducible rfl))
          simp only [Act.put, List.getElem_toArray, List.getElem_cons_succ, List.getElem_cons_zero, List.setIfInBounds_toArray, List.set_cons_zero, List.set_cons_succ]
          refine wpAnyH_done (by kernel_rfl) ?_ _
          go_wp2
          go_ret
          exact ⟨ri HE2.out.symm, by (repeat' (first | (with_reducible exact Below.refl _ _) | (with_reducible assumption) | (with_reducible refine Below.alloc ?_ ?_ _) | (with_reducible refine Below.drew ?_) | (with_reducible refine below_drewN ?_ _) | (with_reducible refine Below.setCell ?_ ?_ _) | (with_reducible refine below_step (by with_reducible assumption) ?_ ?_) | (with_reducible exact Below.size (by with_reducible assumption)) | go_size))⟩

set_option maxRecDepth 100000 in
set_option maxHeartbeats 2000000 in
theorem rcheckCrossing_any (x : Cr) (t : Int) (w : World) (h : okC x) (ht : inC x t) :
    Calls Try.prog 34 #[.agg #[.int .i64 x.X1, .int .i64 x.H1, .int .i64 x.V1, .int .i64 x.X2, .int .i64 x.H2, .int .i64 x.V2], .int .i64 t] w fun e w' => e = .returned (.int .i64 (kX x t)) ∧ Below w.heap.size w w' := by
  have I1 : ∀ W, _ := fun W => is_any x t W
  rw [inB_iff.2 (show min x.X1 x.X2 ≤ t ∧ t ≤ max x.X1 x.X2 from ht)] at I1
  have S1 := Lib.hid (fun W => rslope_any x t W h ht)
  have I2 : ∀ W, _ := fun W => is_any x (t + 1) W
  have g1 := h.1
  have g2 := h.2.1
  have h2 := ht
  unfold inC at h2
  have wr : IntKind.i64.wrap (t + 1) = t + 1 := IntWalk.i64_in _ (by omega)
  have J1 := Lib.hid I1
  clear I1
  have HK : kX x t = if slp x t ≤ 0 ∧ (t = max x.X1 x.X2 ∨ 0 < slp x (t + 1)) then 0 else 18 := rfl
  by_cases c1 : slp x t ≤ 0
  · by_cases c2 : t = max x.X1 x.X2
    · rw [if_pos ⟨c1, .inl c2⟩] at HK
      have f : inB (t + 1) (min x.X1 x.X2) (max x.X1 x.X2) = false := by
        cases e : inB (t + 1) (min x.X1 x.X2) (max x.X1 x.X2)
        · rfl
        · have := inB_iff.1 e; omega
      rw [f] at I2
      have J2 := Lib.hid I2
      have HK2 := Lib.hid HK
      clear I2 HK f c2 h ht h2
      generalize slp x t = s at *
      go_enter Try.func34, Try.ntmps34
      go_wp2_with fail; (refine (J1.out _).mono ?_; rintro e w1 ⟨rfl, hw1⟩; obtain ⟨hcw1, hfw1, hlw1, hmw1, hnw1⟩ := bcell3 hw1; have hzw1 := hw1.size; (try simp only [World.size_alloc, World.size_setCell, World.size_drew, size_drewN] at hzw1))
      have ca1_0 : w1.cell? ⟨w.heap.size, 0, none⟩ = some (.int .i64 (x.X1)) := (hcw1 (w.heap.size) 0 (by first | omega | (simp only [World.size_alloc, World.size_drew, World.size_setCell, size_drewN]; omega))).trans (by first | assumption | (simp [go_sem, *]; done)); have ca1_1 : w1.cell? ⟨w.heap.size, 1, none⟩ = some (.int .i64 (x.H1)) := (hcw1 (w.heap.size) 1 (by first | omega | (simp only [World.size_alloc, World.size_drew, World.size_setCell, size_drewN]; omega))).trans (by first | assumption | (simp [go_sem, *]; done)); have ca1_2 : w1.cell? ⟨w.heap.size, 2, none⟩ = some (.int .i64 (x.V1)) := (hcw1 (w.heap.size) 2 (by first | omega | (simp only [World.size_alloc, World.size_drew, World.size_setCell, size_drewN]; omega))).trans (by first | assumption | (simp [go_sem, *]; done)); have ca1_3 : w1.cell? ⟨w.heap.size, 3, none⟩ = some (.int .i64 (x.X2)) := (hcw1 (w.heap.size) 3 (by first | omega | (simp only [World.size_alloc, World.size_drew, World.size_setCell, size_drewN]; omega))).trans (by first | assumption | (simp [go_sem, *]; done)); have ca1_4 : w1.cell? ⟨w.heap.size, 4, none⟩ = some (.int .i64 (x.H2)) := (hcw1 (w.heap.size) 4 (by first | omega | (simp only [World.size_alloc, World.size_drew, World.size_setCell, size_drewN]; omega))).trans (by first | assumption | (simp [go_sem, *]; done)); have ca1_5 : w1.cell? ⟨w.heap.size, 5, none⟩ = some (.int .i64 (x.V2)) := (hcw1 (w.heap.size) 5 (by first | omega | (simp only [World.size_alloc, World.size_drew, World.size_setCell, size_drewN]; omega))).trans (by first | assumption | (simp [go_sem, *]; done)); have oa1 : w.heap.size < w1.heap.size := (by omega)
      go_wp2_with fail; (refine (S1.out _).mono ?_; rintro e w2 ⟨rfl, hw2⟩; obtain ⟨hcw2, hfw2, hlw2, hmw2, hnw2⟩ := bcell3 hw2; have hzw2 := hw2.size; (try simp only [World.size_alloc, World.size_setCell, World.size_drew, size_drewN] at hzw2))
      have ca2_0 : w2.cell? ⟨w.heap.size, 0, none⟩ = some (.int .i64 (x.X1)) := (hcw2 (w.heap.size) 0 (by first | omega | (simp only [World.size_alloc, World.size_drew, World.size_setCell, size_drewN]; omega))).trans (by first | assumption | (simp [go_sem, *]; done)); have ca2_1 : w2.cell? ⟨w.heap.size, 1, none⟩ = some (.int .i64 (x.H1)) := (hcw2 (w.heap.size) 1 (by first | omega | (simp only [World.size_alloc, World.size_drew, World.size_setCell, size_drewN]; omega))).trans (by first | assumption | (simp [go_sem, *]; done)); have ca2_2 : w2.cell? ⟨w.heap.size, 2, none⟩ = some (.int .i64 (x.V1)) := (hcw2 (w.heap.size) 2 (by first | omega | (simp only [World.size_alloc, World.size_drew, World.size_setCell, size_drewN]; omega))).trans (by first | assumption | (simp [go_sem, *]; done)); have ca2_3 : w2.cell? ⟨w.heap.size, 3, none⟩ = some (.int .i64 (x.X2)) := (hcw2 (w.heap.size) 3 (by first | omega | (simp only [World.size_alloc, World.size_drew, World.size_setCell, size_drewN]; omega))).trans (by first | assumption | (simp [go_sem, *]; done)); have ca2_4 : w2.cell? ⟨w.heap.size, 4, none⟩ = some (.int .i64 (x.H2)) := (hcw2 (w.heap.size) 4 (by first | omega | (simp only [World.size_alloc, World.size_drew, World.size_setCell, size_drewN]; omega))).trans (by first | assumption | (simp [go_sem, *]; done)); have ca2_5 : w2.cell? ⟨w.heap.size, 5, none⟩ = some (.int .i64 (x.V2)) := (hcw2 (w.heap.size) 5 (by first | omega | (simp only [World.size_alloc, World.size_drew, World.size_setCell, size_drewN]; omega))).trans (by first | assumption | (simp [go_sem, *]; done)); have oa2 : w.heap.size < w2.heap.size := (by omega)
      clear ca1_0 ca1_1 ca1_2 ca1_3 ca1_4 ca1_5
      go_wp2_with fail; (refine (J2.out _).mono ?_; rintro e w3 ⟨rfl, hw3⟩; obtain ⟨hcw3, hfw3, hlw3, hmw3, hnw3⟩ := bcell3 hw3; have hzw3 := hw3.size; (try simp only [World.size_alloc, World.size_setCell, World.size_drew, size_drewN] at hzw3))
      have ca3_0 : w3.cell? ⟨w.heap.size, 0, none⟩ = some (.int .i64 (x.X1)) := (hcw3 (w.heap.size) 0 (by first | omega | (simp only [World.size_alloc, World.size_drew, World.size_setCell, size_drewN]; omega))).trans (by first | assumption | (simp [go_sem, *]; done)); have ca3_1 : w3.cell? ⟨w.heap.size, 1, none⟩ = some (.int .i64 (x.H1)) := (hcw3 (w.heap.size) 1 (by first | omega | (simp only [World.size_alloc, World.size_drew, World.size_setCell, size_drewN]; omega))).trans (by first | assumption | (simp [go_sem, *]; done)); have ca3_2 : w3.cell? ⟨w.heap.size, 2, none⟩ = some (.int .i64 (x.V1)) := (hcw3 (w.heap.size) 2 (by first | omega | (simp only [World.size_alloc, World.size_drew, World.size_setCell, size_drewN]; omega))).trans (by first | assumption | (simp [go_sem, *]; done)); have ca3_3 : w3.cell? ⟨w.heap.size, 3, none⟩ = some (.int .i64 (x.X2)) := (hcw3 (w.heap.size) 3 (by first | omega | (simp only [World.size_alloc, World.size_drew, World.size_setCell, size_drewN]; omega))).trans (by first | assumption | (simp [go_sem, *]; done)); have ca3_4 : w3.cell? ⟨w.heap.size, 4, none⟩ = some (.int .i64 (x.H2)) := (hcw3 (w.heap.size) 4 (by first | omega | (simp only [World.size_alloc, World.size_drew, World.size_setCell, size_drewN]; omega))).trans (by first | assumption | (simp [go_sem, *]; done)); have ca3_5 : w3.cell? ⟨w.heap.size, 5, none⟩ = some (.int .i64 (x.V2)) := (hcw3 (w.heap.size) 5 (by first | omega | (simp only [World.size_alloc, World.size_drew, World.size_setCell, size_drewN]; omega))).trans (by first | assumption | (simp [go_sem, *]; done)); have oa3 : w.heap.size < w3.heap.size := (by omega)
      clear ca2_0 ca2_1 ca2_2 ca2_3 ca2_4 ca2_5
      go_wp2
      go_ret
      exact ⟨ri HK2.out.symm, by (repeat' (first | (with_reducible exact Below.refl _ _) | (with_reducible assumption) | (with_reducible refine Below.alloc ?_ ?_ _) | (with_reducible refine Below.drew ?_) | (with_reducible refine below_drewN ?_ _) | (with_reducible refine Below.setCell ?_ ?_ _) | (with_reducible refine below_step (by with_reducible assumption) ?_ ?_) | (with_reducible exact Below.size (by with_reducible assumption)) | go_size))⟩
    · have hn : inC x (t + 1) := by unfold inC; omega
      rw [inB_iff.2 (show min x.X1 x.X2 ≤ t + 1 ∧ t + 1 ≤ max x.X1 x.X2 from hn)] at I2
      have S2 := Lib.hid (fun W => rslope_any x (t + 1) W h hn)
      have J2 := Lib.hid I2
      by_cases c3 : 0 < slp x (t + 1)
      · rw [if_pos ⟨c1, .inr c3⟩] at HK
        have HK2 := Lib.hid HK
        clear I2 HK c2 h ht h2 hn
        generalize slp x t = s at *
        generalize slp x (t + 1) = s2 at *
        go_enter Try.func34, Try.ntmps34
        go_wp2_with fail; (refine (J1.out _).mono ?_; rintro e w1 ⟨rfl, hw1⟩; obtain ⟨hcw1, hfw1, hlw1, hmw1, hnw1⟩ := bcell3 hw1; have hzw1 := hw1.size; (try simp only [World.size_alloc, World.size_setCell, World.size_drew, size_drewN] at hzw1))
        have ca1_0 : w1.cell? ⟨w.heap.size, 0, none⟩ = some (.int .i64 (x.X1)) := (hcw1 (w.heap.size) 0 (by first | omega | (simp only [World.size_alloc, World.size_drew, World.size_setCell, size_drewN]; omega))).trans (by first | assumption | (simp [go_sem, *]; done)); have ca1_1 : w1.cell? ⟨w.heap.size, 1, none⟩ = some (.int .i64 (x.H1)) := (hcw1 (w.heap.size) 1 (by first | omega | (simp only [World.size_alloc, World.size_drew, World.size_setCell, size_drewN]; omega))).trans (by first | assumption | (simp [go_sem, *]; done)); have ca1_2 : w1.cell? ⟨w.heap.size, 2, none⟩ = some (.int .i64 (x.V1)) := (hcw1 (w.heap.size) 2 (by first | omega | (simp only [World.size_alloc, World.size_drew, World.size_setCell, size_drewN]; omega))).trans (by first | assumption | (simp [go_sem, *]; done)); have ca1_3 : w1.cell? ⟨w.heap.size, 3, none⟩ = some (.int .i64 (x.X2)) := (hcw1 (w.heap.size) 3 (by first | omega | (simp only [World.size_alloc, World.size_drew, World.size_setCell, size_drewN]; omega))).trans (by first | assumption | (simp [go_sem, *]; done)); have ca1_4 : w1.cell? ⟨w.heap.size, 4, none⟩ = some (.int .i64 (x.H2)) := (hcw1 (w.heap.size) 4 (by first | omega | (simp only [World.size_alloc, World.size_drew, World.size_setCell, size_drewN]; omega))).trans (by first | assumption | (simp [go_sem, *]; done)); have ca1_5 : w1.cell? ⟨w.heap.size, 5, none⟩ = some (.int .i64 (x.V2)) := (hcw1 (w.heap.size) 5 (by first | omega | (simp only [World.size_alloc, World.size_drew, World.size_setCell, size_drewN]; omega))).trans (by first | assumption | (simp [go_sem, *]; done)); have oa1 : w.heap.size < w1.heap.size := (by omega)
        go_wp2_with fail; (refine (S1.out _).mono ?_; rintro e w2 ⟨rfl, hw2⟩; obtain ⟨hcw2, hfw2, hlw2, hmw2, hnw2⟩ := bcell3 hw2; have hzw2 := hw2.size; (try simp only [World.size_alloc, World.size_setCell, World.size_drew, size_drewN] at hzw2))
        have ca2_0 : w2.cell? ⟨w.heap.size, 0, none⟩ = some (.int .i64 (x.X1)) := (hcw2 (w.heap.size) 0 (by first | omega | (simp only [World.size_alloc, World.size_drew, World.size_setCell, size_drewN]; omega))).trans (by first | assumption | (simp [go_sem, *]; done)); have ca2_1 : w2.cell? ⟨w.heap.size, 1, none⟩ = some (.int .i64 (x.H1)) := (hcw2 (w.heap.size) 1 (by first | omega | (simp only [World.size_alloc, World.size_drew, World.size_setCell, size_drewN]; omega))).trans (by first | assumption | (simp [go_sem, *]; done)); have ca2_2 : w2.cell? ⟨w.heap.size, 2, none⟩ = some (.int .i64 (x.V1)) := (hcw2 (w.heap.size) 2 (by first | omega | (simp only [World.size_alloc, World.size_drew, World.size_setCell, size_drewN]; omega))).trans (by first | assumption | (simp [go_sem, *]; done)); have ca2_3 : w2.cell? ⟨w.heap.size, 3, none⟩ = some (.int .i64 (x.X2)) := (hcw2 (w.heap.size) 3 (by first | omega | (simp only [World.size_alloc, World.size_drew, World.size_setCell, size_drewN]; omega))).trans (by first | assumption | (simp [go_sem, *]; done)); have ca2_4 : w2.cell? ⟨w.heap.size, 4, none⟩ = some (.int .i64 (x.H2)) := (hcw2 (w.heap.size) 4 (by first | omega | (simp only [World.size_alloc, World.size_drew, World.size_setCell, size_drewN]; omega))).trans (by first | assumption | (simp [go_sem, *]; done)); have ca2_5 : w2.cell? ⟨w.heap.size, 5, none⟩ = some (.int .i64 (x.V2)) := (hcw2 (w.heap.size) 5 (by first | omega | (simp only [World.size_alloc, World.size_drew, World.size_setCell, size_drewN]; omega))).trans (by first | assumption | (simp [go_sem, *]; done)); have oa2 : w.heap.size < w2.heap.size := (by omega)
        clear ca1_0 ca1_1 ca1_2 ca1_3 ca1_4 ca1_5
        go_wp2_with fail; (refine (J2.out _).mono ?_; rintro e w3 ⟨rfl, hw3⟩; obtain ⟨hcw3, hfw3, hlw3, hmw3, hnw3⟩ := bcell3 hw3; have hzw3 := hw3.size; (try simp only [World.size_alloc, World.size_setCell, World.size_drew, size_drewN] at hzw3))
        have ca3_0 : w3.cell? ⟨w.heap.size, 0, none⟩ = some (.int .i64 (x.X1)) := (hcw3 (w.heap.size) 0 (by first | omega | (simp only [World.size_alloc, World.size_drew, World.size_setCell, size_drewN]; omega))).trans (by first | assumption | (simp [go_sem, *]; done)); have ca3_1 : w3.cell? ⟨w.heap.size, 1, none⟩ = some (.int .i64 (x.H1)) := (hcw3 (w.heap.size) 1 (by first | omega | (simp only [World.size_alloc, World.size_drew, World.size_setCell, size_drewN]; omega))).trans (by first | assumption | (simp [go_sem, *]; done)); have ca3_2 : w3.cell? ⟨w.heap.size, 2, none⟩ = some (.int .i64 (x.V1)) := (hcw3 (w.heap.size) 2 (by first | omega | (simp only [World.size_alloc, World.size_drew, World.size_setCell, size_drewN]; omega))).trans (by first | assumption | (simp [go_sem, *]; done)); have ca3_3 : w3.cell? ⟨w.heap.size, 3, none⟩ = some (.int .i64 (x.X2)) := (hcw3 (w.heap.size) 3 (by first | omega | (simp only [World.size_alloc, World.size_drew, World.size_setCell, size_drewN]; omega))).trans (by first | assumption | (simp [go_sem, *]; done)); have ca3_4 : w3.cell? ⟨w.heap.size, 4, none⟩ = some (.int .i64 (x.H2)) := (hcw3 (w.heap.size) 4 (by first | omega | (simp only [World.size_alloc, World.size_drew, World.size_setCell, size_drewN]; omega))).trans (by first | assumption | (simp [go_sem, *]; done)); have ca3_5 : w3.cell? ⟨w.heap.size, 5, none⟩ = some (.int .i64 (x.V2)) := (hcw3 (w.heap.size) 5 (by first | omega | (simp only [World.size_alloc, World.size_drew, World.size_setCell, size_drewN]; omega))).trans (by first | assumption | (simp [go_sem, *]; done)); have oa3 : w.heap.size < w3.heap.size := (by omega)
        clear ca2_0 ca2_1 ca2_2 ca2_3 ca2_4 ca2_5
        go_wp2_with fail; (refine (S2.out _).mono ?_; rintro e w4 ⟨rfl, hw4⟩; obtain ⟨hcw4, hfw4, hlw4, hmw4, hnw4⟩ := bcell3 hw4; have hzw4 := hw4.size; (try simp only [World.size_alloc, World.size_setCell, World.size_drew, size_drewN] at hzw4))
        have ca4_0 : w4.cell? ⟨w.heap.size, 0, none⟩ = some (.int .i64 (x.X1)) := (hcw4 (w.heap.size) 0 (by first | omega | (simp only [World.size_alloc, World.size_drew, World.size_setCell, size_drewN]; omega))).trans (by first | assumption | (simp [go_sem, *]; done)); have ca4_1 : w4.cell? ⟨w.heap.size, 1, none⟩ = some (.int .i64 (x.H1)) := (hcw4 (w.heap.size) 1 (by first | omega | (simp only [World.size_alloc, World.size_drew, World.size_setCell, size_drewN]; omega))).trans (by first | assumption | (simp [go_sem, *]; done)); have ca4_2 : w4.cell? ⟨w.heap.size, 2, none⟩ = some (.int .i64 (x.V1)) := (hcw4 (w.heap.size) 2 (by first | omega | (simp only [World.size_alloc, World.size_drew, World.size_setCell, size_drewN]; omega))).trans (by first | assumption | (simp [go_sem, *]; done)); have ca4_3 : w4.cell? ⟨w.heap.size, 3, none⟩ = some (.int .i64 (x.X2)) := (hcw4 (w.heap.size) 3 (by first | omega | (simp only [World.size_alloc, World.size_drew, World.size_setCell, size_drewN]; omega))).trans (by first | assumption | (simp [go_sem, *]; done)); have ca4_4 : w4.cell? ⟨w.heap.size, 4, none⟩ = some (.int .i64 (x.H2)) := (hcw4 (w.heap.size) 4 (by first | omega | (simp only [World.size_alloc, World.size_drew, World.size_setCell, size_drewN]; omega))).trans (by first | assumption | (simp [go_sem, *]; done)); have ca4_5 : w4.cell? ⟨w.heap.size, 5, none⟩ = some (.int .i64 (x.V2)) := (hcw4 (w.heap.size) 5 (by first | omega | (simp only [World.size_alloc, World.size_drew, World.size_setCell, size_drewN]; omega))).trans (by first | assumption | (simp [go_sem, *]; done)); have oa4 : w.heap.size < w4.heap.size := (by omega)
        clear ca3_0 ca3_1 ca3_2 ca3_3 ca3_4 ca3_5
        go_wp2
        go_ret
        exact ⟨ri HK2.out.symm, by (repeat' (first | (with_reducible exact Below.refl _ _) | (with_reducible assumption) | (with_reducible refine Below.alloc ?_ ?_ _) | (with_reducible refine Below.drew ?_) | (with_reducible refine below_drewN ?_ _) | (with_reducible refine Below.setCell ?_ ?_ _) | (with_reducible refine below_step (by with_reducible assumption) ?_ ?_) | (with_reducible exact Below.size (by with_reducible assumption)) | go_size))⟩
      · rw [if_neg (by omega)] at HK
        have c4 : slp x (t + 1) ≤ 0 := by omega
        have HK2 := Lib.hid HK
        clear I2 HK c2 c3 h ht h2 hn
        generalize slp x t = s at *
        generalize slp x (t + 1) = s2 at *
        go_enter Try.func34, Try.ntmps34
        go_wp2_with fail; (refine (J1.out _).mono ?_; rintro e w1 ⟨rfl, hw1⟩; obtain ⟨hcw1, hfw1, hlw1, hmw1, hnw1⟩ := bcell3 hw1; have hzw1 := hw1.size; (try simp only [World.size_alloc, World.size_setCell, World.size_drew, size_drewN] at hzw1))
        have ca1_0 : w1.cell? ⟨w.heap.size, 0, none⟩ = some (.int .i64 (x.X1)) := (hcw1 (w.heap.size) 0 (by first | omega | (simp only [World.size_alloc, World.size_drew, World.size_setCell, size_drewN]; omega))).trans (by first | assumption | (simp [go_sem, *]; done)); have ca1_1 : w1.cell? ⟨w.heap.size, 1, none⟩ = some (.int .i64 (x.H1)) := (hcw1 (w.heap.size) 1 (by first | omega | (simp only [World.size_alloc, World.size_drew, World.size_setCell, size_drewN]; omega))).trans (by first | assumption | (simp [go_sem, *]; done)); have ca1_2 : w1.cell? ⟨w.heap.size, 2, none⟩ = some (.int .i64 (x.V1)) := (hcw1 (w.heap.size) 2 (by first | omega | (simp only [World.size_alloc, World.size_drew, World.size_setCell, size_drewN]; omega))).trans (by first | assumption | (simp [go_sem, *]; done)); have ca1_3 : w1.cell? ⟨w.heap.size, 3, none⟩ = some (.int .i64 (x.X2)) := (hcw1 (w.heap.size) 3 (by first | omega | (simp only [World.size_alloc, World.size_drew, World.size_setCell, size_drewN]; omega))).trans (by first | assumption | (simp [go_sem, *]; done)); have ca1_4 : w1.cell? ⟨w.heap.size, 4, none⟩ = some (.int .i64 (x.H2)) := (hcw1 (w.heap.size) 4 (by first | omega | (simp only [World.size_alloc, World.size_drew, World.size_setCell, size_drewN]; omega))).trans (by first | assumption | (simp [go_sem, *]; done)); have ca1_5 : w1.cell? ⟨w.heap.size, 5, none⟩ = some (.int .i64 (x.V2)) := (hcw1 (w.heap.size) 5 (by first | omega | (simp only [World.size_alloc, World.size_drew, World.size_setCell, size_drewN]; omega))).trans (by first | assumption | (simp [go_sem, *]; done)); have oa1 : w.heap.size < w1.heap.size := (by omega)
        go_wp2_with fail; (refine (S1.out _).mono ?_; rintro e w2 ⟨rfl, hw2⟩; obtain ⟨hcw2, hfw2, hlw2, hmw2, hnw2⟩ := bcell3 hw2; have hzw2 := hw2.size; (try simp only [World.size_alloc, World.size_setCell, World.size_drew, size_drewN] at hzw2))
        have ca2_0 : w2.cell? ⟨w.heap.size, 0, none⟩ = some (.int .i64 (x.X1)) := (hcw2 (w.heap.size) 0 (by first | omega | (simp only [World.size_alloc, World.size_drew, World.size_setCell, size_drewN]; omega))).trans (by first | assumption | (simp [go_sem, *]; done)); have ca2_1 : w2.cell? ⟨w.heap.size, 1, none⟩ = some (.int .i64 (x.H1)) := (hcw2 (w.heap.size) 1 (by first | omega | (simp only [World.size_alloc, World.size_drew, World.size_setCell, size_drewN]; omega))).trans (by first | assumption | (simp [go_sem, *]; done)); have ca2_2 : w2.cell? ⟨w.heap.size, 2, none⟩ = some (.int .i64 (x.V1)) := (hcw2 (w.heap.size) 2 (by first | omega | (simp only [World.size_alloc, World.size_drew, World.size_setCell, size_drewN]; omega))).trans (by first | assumption | (simp [go_sem, *]; done)); have ca2_3 : w2.cell? ⟨w.heap.size, 3, none⟩ = some (.int .i64 (x.X2)) := (hcw2 (w.heap.size) 3 (by first | omega | (simp only [World.size_alloc, World.size_drew, World.size_setCell, size_drewN]; omega))).trans (by first | assumption | (simp [go_sem, *]; done)); have ca2_4 : w2.cell? ⟨w.heap.size, 4, none⟩ = some (.int .i64 (x.H2)) := (hcw2 (w.heap.size) 4 (by first | omega | (simp only [World.size_alloc, World.size_drew, World.size_setCell, size_drewN]; omega))).trans (by first | assumption | (simp [go_sem, *]; done)); have ca2_5 : w2.cell? ⟨w.heap.size, 5, none⟩ = some (.int .i64 (x.V2)) := (hcw2 (w.heap.size) 5 (by first | omega | (simp only [World.size_alloc, World.size_drew, World.size_setCell, size_drewN]; omega))).trans (by first | assumption | (simp [go_sem, *]; done)); have oa2 : w.heap.size < w2.heap.size := (by omega)
        clear ca1_0 ca1_1 ca1_2 ca1_3 ca1_4 ca1_5
        go_wp2_with fail; (refine (J2.out _).mono ?_; rintro e w3 ⟨rfl, hw3⟩; obtain ⟨hcw3, hfw3, hlw3, hmw3, hnw3⟩ := bcell3 hw3; have hzw3 := hw3.size; (try simp only [World.size_alloc, World.size_setCell, World.size_drew, size_drewN] at hzw3))
        have ca3_0 : w3.cell? ⟨w.heap.size, 0, none⟩ = some (.int .i64 (x.X1)) := (hcw3 (w.heap.size) 0 (by first | omega | (simp only [World.size_alloc, World.size_drew, World.size_setCell, size_drewN]; omega))).trans (by first | assumption | (simp [go_sem, *]; done)); have ca3_1 : w3.cell? ⟨w.heap.size, 1, none⟩ = some (.int .i64 (x.H1)) := (hcw3 (w.heap.size) 1 (by first | omega | (simp only [World.size_alloc, World.size_drew, World.size_setCell, size_drewN]; omega))).trans (by first | assumption | (simp [go_sem, *]; done)); have ca3_2 : w3.cell? ⟨w.heap.size, 2, none⟩ = some (.int .i64 (x.V1)) := (hcw3 (w.heap.size) 2 (by first | omega | (simp only [World.size_alloc, World.size_drew, World.size_setCell, size_drewN]; omega))).trans (by first | assumption | (simp [go_sem, *]; done)); have ca3_3 : w3.cell? ⟨w.heap.size, 3, none⟩ = some (.int .i64 (x.X2)) := (hcw3 (w.heap.size) 3 (by first | omega | (simp only [World.size_alloc, World.size_drew, World.size_setCell, size_drewN]; omega))).trans (by first | assumption | (simp [go_sem, *]; done)); have ca3_4 : w3.cell? ⟨w.heap.size, 4, none⟩ = some (.int .i64 (x.H2)) := (hcw3 (w.heap.size) 4 (by first | omega | (simp only [World.size_alloc, World.size_drew, World.size_setCell, size_drewN]; omega))).trans (by first | assumption | (simp [go_sem, *]; done)); have ca3_5 : w3.cell? ⟨w.heap.size, 5, none⟩ = some (.int .i64 (x.V2)) := (hcw3 (w.heap.size) 5 (by first | omega | (simp only [World.size_alloc, World.size_drew, World.size_setCell, size_drewN]; omega))).trans (by first | assumption | (simp [go_sem, *]; done)); have oa3 : w.heap.size < w3.heap.size := (by omega)
        clear ca2_0 ca2_1 ca2_2 ca2_3 ca2_4 ca2_5
        go_wp2_with fail; (refine (S2.out _).mono ?_; rintro e w4 ⟨rfl, hw4⟩; obtain ⟨hcw4, hfw4, hlw4, hmw4, hnw4⟩ := bcell3 hw4; have hzw4 := hw4.size; (try simp only [World.size_alloc, World.size_setCell, World.size_drew, size_drewN] at hzw4))
        have ca4_0 : w4.cell? ⟨w.heap.size, 0, none⟩ = some (.int .i64 (x.X1)) := (hcw4 (w.heap.size) 0 (by first | omega | (simp only [World.size_alloc, World.size_drew, World.size_setCell, size_drewN]; omega))).trans (by first | assumption | (simp [go_sem, *]; done)); have ca4_1 : w4.cell? ⟨w.heap.size, 1, none⟩ = some (.int .i64 (x.H1)) := (hcw4 (w.heap.size) 1 (by first | omega | (simp only [World.size_alloc, World.size_drew, World.size_setCell, size_drewN]; omega))).trans (by first | assumption | (simp [go_sem, *]; done)); have ca4_2 : w4.cell? ⟨w.heap.size, 2, none⟩ = some (.int .i64 (x.V1)) := (hcw4 (w.heap.size) 2 (by first | omega | (simp only [World.size_alloc, World.size_drew, World.size_setCell, size_drewN]; omega))).trans (by first | assumption | (simp [go_sem, *]; done)); have ca4_3 : w4.cell? ⟨w.heap.size, 3, none⟩ = some (.int .i64 (x.X2)) := (hcw4 (w.heap.size) 3 (by first | omega | (simp only [World.size_alloc, World.size_drew, World.size_setCell, size_drewN]; omega))).trans (by first | assumption | (simp [go_sem, *]; done)); have ca4_4 : w4.cell? ⟨w.heap.size, 4, none⟩ = some (.int .i64 (x.H2)) := (hcw4 (w.heap.size) 4 (by first | omega | (simp only [World.size_alloc, World.size_drew, World.size_setCell, size_drewN]; omega))).trans (by first | assumption | (simp [go_sem, *]; done)); have ca4_5 : w4.cell? ⟨w.heap.size, 5, none⟩ = some (.int .i64 (x.V2)) := (hcw4 (w.heap.size) 5 (by first | omega | (simp only [World.size_alloc, World.size_drew, World.size_setCell, size_drewN]; omega))).trans (by first | assumption | (simp [go_sem, *]; done)); have oa4 : w.heap.size < w4.heap.size := (by omega)
        clear ca3_0 ca3_1 ca3_2 ca3_3 ca3_4 ca3_5
        go_wp2
        go_ret
        exact ⟨ri HK2.out.symm, by (repeat' (first | (with_reducible exact Below.refl _ _) | (with_reducible assumption) | (with_reducible refine Below.alloc ?_ ?_ _) | (with_reducible refine Below.drew ?_) | (with_reducible refine below_drewN ?_ _) | (with_reducible refine Below.setCell ?_ ?_ _) | (with_reducible refine below_step (by with_reducible assumption) ?_ ?_) | (with_reducible exact Below.size (by with_reducible assumption)) | go_size))⟩
  · rw [if_neg (by omega)] at HK
    have c4 : 0 < slp x t := by omega
    have HK2 := Lib.hid HK
    clear I2 HK c1 h ht h2
    generalize slp x t = s at *
    go_enter Try.func34, Try.ntmps34
    go_wp2_with fail; (refine (J1.out _).mono ?_; rintro e w1 ⟨rfl, hw1⟩; obtain ⟨hcw1, hfw1, hlw1, hmw1, hnw1⟩ := bcell3 hw1; have hzw1 := hw1.size; (try simp only [World.size_alloc, World.size_setCell, World.size_drew, size_drewN] at hzw1))
    have ca1_0 : w1.cell? ⟨w.heap.size, 0, none⟩ = some (.int .i64 (x.X1)) := (hcw1 (w.heap.size) 0 (by first | omega | (simp only [World.size_alloc, World.size_drew, World.size_setCell, size_drewN]; omega))).trans (by first | assumption | (simp [go_sem, *]; done)); have ca1_1 : w1.cell? ⟨w.heap.size, 1, none⟩ = some (.int .i64 (x.H1)) := (hcw1 (w.heap.size) 1 (by first | omega | (simp only [World.size_alloc, World.size_drew, World.size_setCell, size_drewN]; omega))).trans (by first | assumption | (simp [go_sem, *]; done)); have ca1_2 : w1.cell? ⟨w.heap.size, 2, none⟩ = some (.int .i64 (x.V1)) := (hcw1 (w.heap.size) 2 (by first | omega | (simp only [World.size_alloc, World.size_drew, World.size_setCell, size_drewN]; omega))).trans (by first | assumption | (simp [go_sem, *]; done)); have ca1_3 : w1.cell? ⟨w.heap.size, 3, none⟩ = some (.int .i64 (x.X2)) := (hcw1 (w.heap.size) 3 (by first | omega | (simp only [World.size_alloc, World.size_drew, World.size_setCell, size_drewN]; omega))).trans (by first | assumption | (simp [go_sem, *]; done)); have ca1_4 : w1.cell? ⟨w.heap.size, 4, none⟩ = some (.int .i64 (x.H2)) := (hcw1 (w.heap.size) 4 (by first | omega | (simp only [World.size_alloc, World.size_drew, World.size_setCell, size_drewN]; omega))).trans (by first | assumption | (simp [go_sem, *]; done)); have ca1_5 : w1.cell? ⟨w.heap.size, 5, none⟩ = some (.int .i64 (x.V2)) := (hcw1 (w.heap.size) 5 (by first | omega | (simp only [World.size_alloc, World.size_drew, World.size_setCell, size_drewN]; omega))).trans (by first | assumption | (simp [go_sem, *]; done)); have oa1 : w.heap.size < w1.heap.size := (by omega)
    go_wp2_with fail; (refine (S1.out _).mono ?_; rintro e w2 ⟨rfl, hw2⟩; obtain ⟨hcw2, hfw2, hlw2, hmw2, hnw2⟩ := bcell3 hw2; have hzw2 := hw2.size; (try simp only [World.size_alloc, World.size_setCell, World.size_drew, size_drewN] at hzw2))
    have ca2_0 : w2.cell? ⟨w.heap.size, 0, none⟩ = some (.int .i64 (x.X1)) := (hcw2 (w.heap.size) 0 (by first | omega | (simp only [World.size_alloc, World.size_drew, World.size_setCell, size_drewN]; omega))).trans (by first | assumption | (simp [go_sem, *]; done)); have ca2_1 : w2.cell? ⟨w.heap.size, 1, none⟩ = some (.int .i64 (x.H1)) := (hcw2 (w.heap.size) 1 (by first | omega | (simp only [World.size_alloc, World.size_drew, World.size_setCell, size_drewN]; omega))).trans (by first | assumption | (simp [go_sem, *]; done)); have ca2_2 : w2.cell? ⟨w.heap.size, 2, none⟩ = some (.int .i64 (x.V1)) := (hcw2 (w.heap.size) 2 (by first | omega | (simp only [World.size_alloc, World.size_drew, World.size_setCell, size_drewN]; omega))).trans (by first | assumption | (simp [go_sem, *]; done)); have ca2_3 : w2.cell? ⟨w.heap.size, 3, none⟩ = some (.int .i64 (x.X2)) := (hcw2 (w.heap.size) 3 (by first | omega | (simp only [World.size_alloc, World.size_drew, World.size_setCell, size_drewN]; omega))).trans (by first | assumption | (simp [go_sem, *]; done)); have ca2_4 : w2.cell? ⟨w.heap.size, 4, none⟩ = some (.int .i64 (x.H2)) := (hcw2 (w.heap.size) 4 (by first | omega | (simp only [World.size_alloc, World.size_drew, World.size_setCell, size_drewN]; omega))).trans (by first | assumption | (simp [go_sem, *]; done)); have ca2_5 : w2.cell? ⟨w.heap.size, 5, none⟩ = some (.int .i64 (x.V2)) := (hcw2 (w.heap.size) 5 (by first | omega | (simp only [World.size_alloc, World.size_drew, World.size_setCell, size_drewN]; omega))).trans (by first | assumption | (simp [go_sem, *]; done)); have oa2 : w.heap.size < w2.heap.size := (by omega)
    clear ca1_0 ca1_1 ca1_2 ca1_3 ca1_4 ca1_5
    go_wp2
    go_ret
    exact ⟨ri HK2.out.symm, by (repeat' (first | (with_reducible exact Below.refl _ _) | (with_reducible assumption) | (with_reducible refine Below.alloc ?_ ?_ _) | (with_reducible refine Below.drew ?_) | (with_reducible refine below_drewN ?_ _) | (with_reducible refine Below.setCell ?_ ?_ _) | (with_reducible refine below_step (by with_reducible assumption) ?_ ?_) | (with_reducible exact Below.size (by with_reducible assumption)) | go_size))⟩
end Go.Proofs.Ytegdokmgplancaa
