/-
  TopDelayedEcho: the walks.
-/
import Derived.Test.YthgnemkfaiejbaaTDelA
import Derived.Test.YthgnemkfaiejbaaTReg3
import Derived.Deep.Cut
set_option linter.unusedVariables false
set_option linter.unusedSimpArgs false
namespace Go.Proofs.Ythgnemkfaiejbaa
open Go.RowKit

set_option maxRecDepth 100000 in
set_option maxHeartbeats 2000000 in
theorem topDel_out (v0 : Value) (x : Nat → Int) (n : Nat) (b g : Int) (w : World) (hr0 : Hid (IRow w v0 x n)) (h : ¬ (n ≤ 20 ∧ inB b 0 20 = true ∧ inB g 1 10 = true)) :
    Calls Try.prog 20 #[v0, .int .i64 b, .int .i64 g] w fun e w' => e = .returned (.bool true) ∧ Below w.heap.size w w' := by
  have KA := Lib.hid traced_any
  obtain ⟨q0, c0, rfl, hc0, -⟩ := hr0.out
  clear hr0 hc0
  have K1 := Lib.hid (fun W => bwithin_any b 0 20 W)
  have K2 := Lib.hid (fun W => bwithin_any g 1 10 W)
  by_cases hn : n ≤ 20
  · have d0 : decide (20 < (n : Int)) = false := decide_eq_false (by omega)
    cases h1 : inB b 0 20 with
    | false =>
      rw [h1] at K1
      clear h hn
      go_enter Try.func20, Try.ntmps20
      go_wp2_with fail; (refine (KA.out _).mono ?_; rintro e w1 ⟨rfl, hw1⟩; obtain ⟨hcw1, hfw1, hlw1, hmw1, hnw1⟩ := bcell3 hw1; have hzw1 := hw1.size; (try simp only [World.size_alloc, World.size_setCell, World.size_drew, size_drewN] at hzw1))
      clear hcw1 hfw1 hlw1 hmw1 hnw1
      go_wp2_with fail
      refine (K1.out _).mono ?_
      rintro e w' ⟨rfl, rfl⟩
      go_wp2
      go_ret
      exact ⟨rfl, by (repeat' (first | (with_reducible exact Below.refl _ _) | (with_reducible assumption) | (with_reducible refine Below.alloc ?_ ?_ _) | (with_reducible refine Below.drew ?_) | (with_reducible refine below_drewN ?_ _) | (with_reducible refine Below.setCell ?_ ?_ _) | (with_reducible refine below_step (by with_reducible assumption) ?_ ?_) | (with_reducible exact Below.size (by with_reducible assumption)) | go_size))⟩
    | true =>
      rw [h1] at K1
      have h2 : inB g 1 10 = false := by
        cases hh : inB g 1 10
        · rfl
        · exact absurd ⟨hn, h1, hh⟩ h
      rw [h2] at K2
      clear h hn
      go_enter Try.func20, Try.ntmps20
      go_wp2_with fail; (refine (KA.out _).mono ?_; rintro e w1 ⟨rfl, hw1⟩; obtain ⟨hcw1, hfw1, hlw1, hmw1, hnw1⟩ := bcell3 hw1; have hzw1 := hw1.size; (try simp only [World.size_alloc, World.size_setCell, World.size_drew, size_drewN] at hzw1))
      clear hcw1 hfw1 hlw1 hmw1 hnw1
      go_wp2_with fail
      refine (K1.out _).mono ?_
      rintro e w' ⟨rfl, rfl⟩
      go_wp2_with fail
      refine (K2.out _).mono ?_
      rintro e w' ⟨rfl, rfl⟩
      go_wp2
      go_ret
      exact ⟨rfl, by (repeat' (first | (with_reducible exact Below.refl _ _) | (with_reducible assumption) | (with_reducible refine Below.alloc ?_ ?_ _) | (with_reducible refine Below.drew ?_) | (with_reducible refine below_drewN ?_ _) | (with_reducible refine Below.setCell ?_ ?_ _) | (with_reducible refine below_step (by with_reducible assumption) ?_ ?_) | (with_reducible exact Below.size (by with_reducible assumption)) | go_size))⟩
  · have d0 : decide (20 < (n : Int)) = true := decide_eq_true (by omega)
    clear h hn
    go_enter Try.func20, Try.ntmps20
    go_wp2_with fail; (refine (KA.out _).mono ?_; rintro e w1 ⟨rfl, hw1⟩; obtain ⟨hcw1, hfw1, hlw1, hmw1, hnw1⟩ := bcell3 hw1; have hzw1 := hw1.size; (try simp only [World.size_alloc, World.size_setCell, World.size_drew, size_drewN] at hzw1))
    clear hcw1 hfw1 hlw1 hmw1 hnw1
    go_wp2
    go_ret
    exact ⟨rfl, by (repeat' (first | (with_reducible exact Below.refl _ _) | (with_reducible assumption) | (with_reducible refine Below.alloc ?_ ?_ _) | (with_reducible refine Below.drew ?_) | (with_reducible refine below_drewN ?_ _) | (with_reducible refine Below.setCell ?_ ?_ _) | (with_reducible refine below_step (by with_reducible assumption) ?_ ?_) | (with_reducible exact Below.size (by with_reducible assumption)) | go_size))⟩
set_option maxRecDepth 100000 in
set_option maxHeartbeats 6000000 in
theorem topDel_in (v0 : Value) (x : Nat → Int) (n b : Nat) (g : Int) (w : World) (hr0 : Hid (IRow w v0 x n)) (hn : n ≤ 20) (hb : b ≤ 20) (hg : 1 ≤ g ∧ g ≤ 10) :
    Calls Try.prog 20 #[v0, .int .i64 (b : Int), .int .i64 g] w fun e w' => e = .returned (.bool true) ∧ Below w.heap.size w w' := by
  have KA := Lib.hid traced_any
  have k1 : ∀ W, _ := fun W => bwithin_any (b : Int) 0 20 W
  rw [show inB (b : Int) 0 20 = true by unfold inB; exact decide_eq_true (by omega)] at k1
  have K1 := Lib.hid k1
  have k2 : ∀ W, _ := fun W => bwithin_any g 1 10 W
  rw [show inB g 1 10 = true by unfold inB; exact decide_eq_true (by omega)] at k2
  have K2 := Lib.hid k2
  clear k1 k2
  have KW := Lib.hid (fun k W => bwithin_any (x k) (-200) 200 W)
  have KT := Lib.hid (fun (u : Value) W h => traceR_any u (dT x) (n + 3) W h)
  have d0 : decide (20 < (n : Int)) = false := decide_eq_false (by omega)
  obtain ⟨i0, hi, hz0, hz1, hz2⟩ := info_parts1 infoInt
  have HI := Lib.hid hi
  have HZ0 := Lib.hid hz0
  have HZ1 := Lib.hid hz1
  have HZ2 := Lib.hid hz2
  clear hi hz0 hz1 hz2
  obtain ⟨q0, c0, rfl, hc0, hrow⟩ := hr0.out
  clear hr0
  have HRow := Lib.hid hrow
  clear hrow
  have hc00 := hc0.2
  unfold maxLen at hc00
  go_enter Try.func20, Try.ntmps20
  go_wp2_with fail; (refine (KA.out _).mono ?_; rintro e w1 ⟨rfl, hw1⟩; obtain ⟨hcw1, hfw1, hlw1, hmw1, hnw1⟩ := bcell3 hw1; have hzw1 := hw1.size; (try simp only [World.size_alloc, World.size_setCell, World.size_drew, size_drewN] at hzw1))
  clear hcw1 hfw1 hlw1 hmw1 hnw1
  have hB1 : Below w.heap.size w w1 := by (repeat' (first | (with_reducible exact Below.refl _ _) | (with_reducible assumption) | (with_reducible refine Below.alloc ?_ ?_ _) | (with_reducible refine Below.drew ?_) | (with_reducible refine below_drewN ?_ _) | (with_reducible refine Below.setCell ?_ ?_ _) | (with_reducible refine below_step (by with_reducible assumption) ?_ ?_) | (with_reducible exact Below.size (by with_reducible assumption)) | go_size))
  go_wp2_with fail
  refine (K1.out _).mono ?_
  rintro e w' ⟨rfl, rfl⟩
  go_wp2_with fail
  refine (K2.out _).mono ?_
  rintro e w' ⟨rfl, rfl⟩
  go_wp2_with fail
  have hO0 : (w1.alloc (.cells #[.int .i64 0, .int .i64 0, .int .i64 0] 3)).ownsRow w1.heap.size 3 1 (.slice (some ⟨w1.heap.size, 0, none⟩) 3 3) 3 (iL (dT x) (0 + 3)) := World.ownsRow_lit w1 #[.int .i64 0, .int .i64 0, .int .i64 0] 3 (Nat.le_refl _) (by unfold maxLen; omega) rfl
  go_loopw [7, 8, 9] (fun v s i wr => ∃ k : Nat, k ≤ n ∧ s = .bool (sB x k) ∧ i = .int .i64 (k : Int) ∧ Hid (wr.ownsRow w1.heap.size 3 1 v (k + 3) (iL (dT x) (k + 3))) ∧ Hid (Below w1.heap.size w1 wr) ∧ Hid (∀ i, i < k → (x i).natAbs ≤ 200)) (fun _ _ i _ => n - (intOf i).toNat)
  case atStart => exact ⟨0, Nat.zero_le _, rfl, rfl, Lib.hid hO0, Lib.hid (by (repeat' (first | (with_reducible exact Below.refl _ _) | (with_reducible assumption) | (with_reducible refine Below.alloc ?_ ?_ _) | (with_reducible refine Below.drew ?_) | (with_reducible refine below_drewN ?_ _) | (with_reducible refine Below.setCell ?_ ?_ _) | (with_reducible refine below_step (by with_reducible assumption) ?_ ?_) | (with_reducible exact Below.size (by with_reducible assumption)) | go_size))), Lib.hid fun i hi => absurd hi (Nat.not_lt_zero _)⟩
  case round =>
    clear hO0
    obtain ⟨k, hk, rfl, rfl, HO, HB, HALL⟩ := hrel
    by_cases hlt : k < n
    · obtain ⟨rb, ro, rfl, hrb, hrow⟩ : ∃ rb ro, q0 = some ⟨rb, ro, none⟩ ∧ rb < w.heap.size ∧ ∀ i, i < n → w.cell? ⟨rb, ro + i, none⟩ = some (.int .i64 (x i)) := by
        rcases HRow.out with h | h
        · omega
        · exact h
      have HRW := Lib.hid hrow
      clear hrow
      have hz1 := hB1.size
      have dx : wr.cell? ⟨rb, ro + k, none⟩ = some (.int .i64 (x k)) := (HB.out.cell (p := ⟨rb, ro + k, none⟩) (by show rb < _; omega)).trans ((hB1.cell (p := ⟨rb, ro + k, none⟩) hrb).trans (HRW.out k hlt))
      have e0 : (0 : Int) ≤ (k : Int) := by omega
      have e1 : (k : Int) < (n : Int) := by omega
      have KWk := Lib.hid (KW.out k)
      by_cases hin : (x k).natAbs ≤ 200
      · rw [show inB (x k) (-200) 200 = true by unfold inB; exact decide_eq_true (by omega)] at KWk
        have HSB := Lib.hid (show sB x (k + 1) = (sB x k || decide (x k ≠ 0)) from rfl)
        have HA2 := Lib.hid (fun i (hi : i < k + 1) => show (x i).natAbs ≤ 200 by
          by_cases e : i = k
          · rw [e]; exact hin
          · exact HALL.out i (by omega))
        have E0 : Hid (w1.cell? ⟨rb, ro + k, none⟩ = some (.int .i64 (x k))) := Lib.hid ((hB1.cell (p := ⟨rb, ro + k, none⟩) hrb).trans (HRW.out k hlt))
        have HL : Hid (iL (dT x) (k + 1 + 3) = iL (dT x) (k + 3) ++ [.int .i64 (x k)]) := Lib.hid (by
          rw [show k + 1 + 3 = k + 3 + 1 by omega, iL_succ]
          rfl)
        have hsz := HB.out.size
        generalize x k = y at *
        cases hsb : sB x k with
        | true =>
          rw [hsb] at HSB
          go_wp2_with fail
          refine (KWk.out _).mono ?_
          rintro e w' ⟨rfl, rfl⟩
          go_wp2
          refine wp_region_held_drew (S := fun w' => w'.cell? ⟨rb, ro + k, none⟩ = some (.int .i64 (y))) (by kernel_rfl) ?_ (fun hH1 => ?_)
          · (first | assumption | (go_keep; done) | (simp [*, go_sem]; done))
          refine wpAnyH_pure (i := 0) (v := ?_) rfl (by kernel_rfl) (by kernel_rfl) (by kernel_rfl) (fun _ _ _ h => h) (by rfl) (by assumption) ?_ ?_
          rotate_left
          · (intro w hSw; (try dsimp only at hSw); go_simp; (try with_reducible rfl))
          simp only [Act.put, List.getElem_toArray, List.getElem_cons_succ, List.getElem_cons_zero, List.setIfInBounds_toArray, List.set_cons_zero, List.set_cons_succ]
          refine wpAnyH_pure (i := 1) (v := ?_) rfl (by kernel_rfl) (by kernel_rfl) (by kernel_rfl) (fun _ _ _ h => h) (by rfl) (by assumption) ?_ ?_
          rotate_left
          · (intro w hSw; (try dsimp only at hSw); go_simp; (try with_reducible rfl))
          simp only [Act.put, List.getElem_toArray, List.getElem_cons_succ, List.getElem_cons_zero, List.setIfInBounds_toArray, List.set_cons_zero, List.set_cons_succ]
          refine wpAnyH_pure (i := 2) (v := ?_) rfl (by kernel_rfl) (by kernel_rfl) (by kernel_rfl) (fun _ _ _ h => h) (by rfl) (by assumption) ?_ ?_
          rotate_left
          · (intro w hSw; (try dsimp only at hSw); go_simp; (try with_reducible rfl))
          simp only [Act.put, List.getElem_toArray, List.getElem_cons_succ, List.getElem_cons_zero, List.setIfInBounds_toArray, List.set_cons_zero, List.set_cons_succ]
          refine wpAnyH_pure (i := 3) (v := ?_) rfl (by kernel_rfl) (by kernel_rfl) (by kernel_rfl) (fun _ _ _ h => h) (by rfl) (by assumption) ?_ ?_
          rotate_left
          · (intro w hSw; (try dsimp only at hSw); go_simp; (try with_reducible rfl))
          simp only [Act.put, List.getElem_toArray, List.getElem_cons_succ, List.getElem_cons_zero, List.setIfInBounds_toArray, List.set_cons_zero, List.set_cons_succ]
          refine wpAnyH_pure (i := 4) (v := ?_) rfl (by kernel_rfl) (by kernel_rfl) (by kernel_rfl) (fun _ _ _ h => h) (by rfl) (by assumption) ?_ ?_
          rotate_left
          · (intro w hSw; (try dsimp only at hSw); go_simp; (try with_reducible rfl))
          simp only [Act.put, List.getElem_toArray, List.getElem_cons_succ, List.getElem_cons_zero, List.setIfInBounds_toArray, List.set_cons_zero, List.set_cons_succ]
          refine wpAnyH_pure (i := 7) (v := ?_) rfl (by kernel_rfl) (by kernel_rfl) (by kernel_rfl) (fun _ _ _ h => h) (by rfl) (by assumption) ?_ ?_
          rotate_left
          · (intro w hSw; (try dsimp only at hSw); go_simp; (try with_reducible rfl))
          simp only [Act.put, List.getElem_toArray, List.getElem_cons_succ, List.getElem_cons_zero, List.setIfInBounds_toArray, List.set_cons_zero, List.set_cons_succ]
          refine wpAnyH_ready (rs := [5]) (by kernel_rfl) (by simp) ?_
          refine AllReadyH.cons rfl (fun Kq hKq => ?_) AllReadyH.nil
          go_simp
          refine hKq.out _ _ ?_ (fun hH2 => ?_)
          · (first | assumption | (go_keep; done) | (simp [*, go_sem]; done))
          clear hKq Kq
          clear hH1
          refine wpAnyH_ready (rs := [6]) (by kernel_rfl) (by simp) ?_
          refine AllReadyH.cons rfl (fun Kq hKq => ?_) AllReadyH.nil
          have hown := HO.out
          have hB := HB.out
          (try rw [if_pos (by rfl)])
          refine wp_append_own _ (.tmp 55) (.tmp 60) 50 rfl w1.heap.size 3 i0 (.int .i64 0) 1 8 Try.underlying50 HI.out HZ0.out HZ1.out HZ2.out rfl (by decide) _ _ _ rfl (hown.drew.alloc _) ⟨wr.heap.size, 0, none⟩ 1 1 [.int .i64 y] rfl rfl ?_ ?_ ?_ ?_ ?_ ?_
          rotate_right
          intro v' wA hown' hgrow _
          rw [← HL.out] at hown'
          have hB' : Below w1.heap.size w1 wA := Below.grown ((Below.drew hB).alloc (by have := hB.size; simp; omega) _) hgrow (by simp; have := hB.size; omega) (fun b hb => (hown.lt b hb).1)
          have cA0 := (hB'.cell (p := ⟨rb, ro + k, none⟩) (by show rb < _; omega)).trans E0.out
          have hO' := Lib.hid hown'
          have hBB' := Lib.hid hB'
          clear hown hB hown' hB' hgrow
          refine hKq.out _ _ ?_ (fun hH3 => ?_)
          · (first | assumption | (go_keep; done) | (simp [*, go_sem]; done))
          clear hKq Kq
          clear hH2
          refine wpAnyH_pure (i := 8) (v := ?_) rfl (by kernel_rfl) (by kernel_rfl) (by kernel_rfl) (fun _ _ _ h => h) (by rfl) (by assumption) ?_ ?_
          rotate_left
          · (intro w hSw; (try dsimp only at hSw); go_simp; (try with_reducible rfl))
          simp only [Act.put, List.getElem_toArray, List.getElem_cons_succ, List.getElem_cons_zero, List.setIfInBounds_toArray, List.set_cons_zero, List.set_cons_succ]
          refine wpAnyH_skip (i := 9) rfl (by kernel_rfl) (by kernel_rfl) (by kernel_rfl) (fun _ _ _ h => h) (by first | rfl | (simp [Region.wanted, yielded, *]; done)) (by assumption) ?_
          simp only [Act.put, List.getElem_toArray, List.getElem_cons_succ, List.getElem_cons_zero, List.setIfInBounds_toArray, List.set_cons_zero, List.set_cons_succ]
          refine wpAnyH_skip (i := 10) rfl (by kernel_rfl) (by kernel_rfl) (by kernel_rfl) (fun _ _ _ h => h) (by first | rfl | (simp [Region.wanted, yielded, *]; done)) (by assumption) ?_
          simp only [Act.put, List.getElem_toArray, List.getElem_cons_succ, List.getElem_cons_zero, List.setIfInBounds_toArray, List.set_cons_zero, List.set_cons_succ]
          refine wpAnyH_skip (i := 11) rfl (by kernel_rfl) (by kernel_rfl) (by kernel_rfl) (fun _ _ _ h => h) (by first | rfl | (simp [Region.wanted, yielded, *]; done)) (by assumption) ?_
          simp only [Act.put, List.getElem_toArray, List.getElem_cons_succ, List.getElem_cons_zero, List.setIfInBounds_toArray, List.set_cons_zero, List.set_cons_succ]
          refine wpAnyH_skip (i := 12) rfl (by kernel_rfl) (by kernel_rfl) (by kernel_rfl) (fun _ _ _ h => h) (by first | rfl | (simp [Region.wanted, yielded, *]; done)) (by assumption) ?_
          simp only [Act.put, List.getElem_toArray, List.getElem_cons_succ, List.getElem_cons_zero, List.setIfInBounds_toArray, List.set_cons_zero, List.set_cons_succ]
          refine wpAnyH_skip (i := 13) rfl (by kernel_rfl) (by kernel_rfl) (by kernel_rfl) (fun _ _ _ h => h) (by first | rfl | (simp [Region.wanted, yielded, *]; done)) (by assumption) ?_
          simp only [Act.put, List.getElem_toArray, List.getElem_cons_succ, List.getElem_cons_zero, List.setIfInBounds_toArray, List.set_cons_zero, List.set_cons_succ]
          refine wpAnyH_pure (i := 14) (v := ?_) rfl (by kernel_rfl) (by kernel_rfl) (by kernel_rfl) (fun _ _ _ h => h) (by rfl) (by assumption) ?_ ?_
          rotate_left
          · (intro w hSw; (try dsimp only at hSw); go_simp; (try with_reducible rfl))
          simp only [Act.put, List.getElem_toArray, List.getElem_cons_succ, List.getElem_cons_zero, List.setIfInBounds_toArray, List.set_cons_zero, List.set_cons_succ]
          refine wpAnyH_pure (i := 15) (v := ?_) rfl (by kernel_rfl) (by kernel_rfl) (by kernel_rfl) (fun _ _ _ h => h) (by rfl) (by assumption) ?_ ?_
          rotate_left
          · (intro w hSw; (try dsimp only at hSw); go_simp; (try with_reducible rfl))
          simp only [Act.put, List.getElem_toArray, List.getElem_cons_succ, List.getElem_cons_zero, List.setIfInBounds_toArray, List.set_cons_zero, List.set_cons_succ]
          refine wpAnyH_pure (i := 16) (v := ?_) rfl (by kernel_rfl) (by kernel_rfl) (by kernel_rfl) (fun _ _ _ h => h) (by rfl) (by assumption) ?_ ?_
          rotate_left
          · (intro w hSw; (try dsimp only at hSw); go_simp; (try with_reducible rfl))
          simp only [Act.put, List.getElem_toArray, List.getElem_cons_succ, List.getElem_cons_zero, List.setIfInBounds_toArray, List.set_cons_zero, List.set_cons_succ]
          refine wpAnyH_done (by kernel_rfl) ?_ _
          go_wp2
          go_roundw
          case rel => exact ⟨k + 1, by omega, by rw [HSB.out, Bool.true_or], by go_num, hO', hBB', HA2⟩
          case measure => simp [intOf]; omega
          · intro j v hj
            match j, hj with
            | 0, hj => simp at hj; subst hj; simp [Addr.add]
          · intro v hv; simp at hv; subst hv; rfl
          · unfold maxLen; omega
          · omega
          · have := HB.out.size; simp; omega
        | false =>
          rw [hsb] at HSB
          go_wp2_with fail
          refine (KWk.out _).mono ?_
          rintro e w' ⟨rfl, rfl⟩
          go_wp2
          refine wp_region_held_drew (S := fun w' => w'.cell? ⟨rb, ro + k, none⟩ = some (.int .i64 (y))) (by kernel_rfl) ?_ (fun hH4 => ?_)
          · (first | assumption | (go_keep; done) | (simp [*, go_sem]; done))
          refine wpAnyH_pure (i := 0) (v := ?_) rfl (by kernel_rfl) (by kernel_rfl) (by kernel_rfl) (fun _ _ _ h => h) (by rfl) (by assumption) ?_ ?_
          rotate_left
          · (intro w hSw; (try dsimp only at hSw); go_simp; (try with_reducible rfl))
          simp only [Act.put, List.getElem_toArray, List.getElem_cons_succ, List.getElem_cons_zero, List.setIfInBounds_toArray, List.set_cons_zero, List.set_cons_succ]
          refine wpAnyH_pure (i := 1) (v := ?_) rfl (by kernel_rfl) (by kernel_rfl) (by kernel_rfl) (fun _ _ _ h => h) (by rfl) (by assumption) ?_ ?_
          rotate_left
          · (intro w hSw; (try dsimp only at hSw); go_simp; (try with_reducible rfl))
          simp only [Act.put, List.getElem_toArray, List.getElem_cons_succ, List.getElem_cons_zero, List.setIfInBounds_toArray, List.set_cons_zero, List.set_cons_succ]
          refine wpAnyH_pure (i := 2) (v := ?_) rfl (by kernel_rfl) (by kernel_rfl) (by kernel_rfl) (fun _ _ _ h => h) (by rfl) (by assumption) ?_ ?_
          rotate_left
          · (intro w hSw; (try dsimp only at hSw); go_simp; (try with_reducible rfl))
          simp only [Act.put, List.getElem_toArray, List.getElem_cons_succ, List.getElem_cons_zero, List.setIfInBounds_toArray, List.set_cons_zero, List.set_cons_succ]
          refine wpAnyH_pure (i := 3) (v := ?_) rfl (by kernel_rfl) (by kernel_rfl) (by kernel_rfl) (fun _ _ _ h => h) (by rfl) (by assumption) ?_ ?_
          rotate_left
          · (intro w hSw; (try dsimp only at hSw); go_simp; (try with_reducible rfl))
          simp only [Act.put, List.getElem_toArray, List.getElem_cons_succ, List.getElem_cons_zero, List.setIfInBounds_toArray, List.set_cons_zero, List.set_cons_succ]
          refine wpAnyH_pure (i := 4) (v := ?_) rfl (by kernel_rfl) (by kernel_rfl) (by kernel_rfl) (fun _ _ _ h => h) (by rfl) (by assumption) ?_ ?_
          rotate_left
          · (intro w hSw; (try dsimp only at hSw); go_simp; (try with_reducible rfl))
          simp only [Act.put, List.getElem_toArray, List.getElem_cons_succ, List.getElem_cons_zero, List.setIfInBounds_toArray, List.set_cons_zero, List.set_cons_succ]
          refine wpAnyH_pure (i := 7) (v := ?_) rfl (by kernel_rfl) (by kernel_rfl) (by kernel_rfl) (fun _ _ _ h => h) (by rfl) (by assumption) ?_ ?_
          rotate_left
          · (intro w hSw; (try dsimp only at hSw); go_simp; (try with_reducible rfl))
          simp only [Act.put, List.getElem_toArray, List.getElem_cons_succ, List.getElem_cons_zero, List.setIfInBounds_toArray, List.set_cons_zero, List.set_cons_succ]
          refine wpAnyH_ready (rs := [5]) (by kernel_rfl) (by simp) ?_
          refine AllReadyH.cons rfl (fun Kq hKq => ?_) AllReadyH.nil
          go_simp
          refine hKq.out _ _ ?_ (fun hH5 => ?_)
          · (first | assumption | (go_keep; done) | (simp [*, go_sem]; done))
          clear hKq Kq
          clear hH4
          refine wpAnyH_ready (rs := [6]) (by kernel_rfl) (by simp) ?_
          refine AllReadyH.cons rfl (fun Kq hKq => ?_) AllReadyH.nil
          have hown := HO.out
          have hB := HB.out
          (try rw [if_pos (by rfl)])
          refine wp_append_own _ (.tmp 55) (.tmp 60) 50 rfl w1.heap.size 3 i0 (.int .i64 0) 1 8 Try.underlying50 HI.out HZ0.out HZ1.out HZ2.out rfl (by decide) _ _ _ rfl (hown.drew.alloc _) ⟨wr.heap.size, 0, none⟩ 1 1 [.int .i64 y] rfl rfl ?_ ?_ ?_ ?_ ?_ ?_
          rotate_right
          intro v' wA hown' hgrow _
          rw [← HL.out] at hown'
          have hB' : Below w1.heap.size w1 wA := Below.grown ((Below.drew hB).alloc (by have := hB.size; simp; omega) _) hgrow (by simp; have := hB.size; omega) (fun b hb => (hown.lt b hb).1)
          have cA0 := (hB'.cell (p := ⟨rb, ro + k, none⟩) (by show rb < _; omega)).trans E0.out
          have hO' := Lib.hid hown'
          have hBB' := Lib.hid hB'
          clear hown hB hown' hB' hgrow
          refine hKq.out _ _ ?_ (fun hH6 => ?_)
          · (first | assumption | (go_keep; done) | (simp [*, go_sem]; done))
          clear hKq Kq
          clear hH5
          refine wpAnyH_pure (i := 8) (v := ?_) rfl (by kernel_rfl) (by kernel_rfl) (by kernel_rfl) (fun _ _ _ h => h) (by rfl) (by assumption) ?_ ?_
          rotate_left
          · (intro w hSw; (try dsimp only at hSw); go_simp; (try with_reducible rfl))
          simp only [Act.put, List.getElem_toArray, List.getElem_cons_succ, List.getElem_cons_zero, List.setIfInBounds_toArray, List.set_cons_zero, List.set_cons_succ]
          refine wpAnyH_pure (i := 9) (v := ?_) rfl (by kernel_rfl) (by kernel_rfl) (by kernel_rfl) (fun _ _ _ h => h) (by first | rfl | (simp [Region.wanted, yielded, *]; done)) (by assumption) ?_ ?_
          rotate_left
          · (intro w hSw; (try dsimp only at hSw); go_simp; (try with_reducible rfl))
          simp only [Act.put, List.getElem_toArray, List.getElem_cons_succ, List.getElem_cons_zero, List.setIfInBounds_toArray, List.set_cons_zero, List.set_cons_succ]
          refine wpAnyH_pure (i := 10) (v := ?_) rfl (by kernel_rfl) (by kernel_rfl) (by kernel_rfl) (fun _ _ _ h => h) (by first | rfl | (simp [Region.wanted, yielded, *]; done)) (by assumption) ?_ ?_
          rotate_left
          · (intro w hSw; (try dsimp only at hSw); go_simp; (try with_reducible rfl))
          simp only [Act.put, List.getElem_toArray, List.getElem_cons_succ, List.getElem_cons_zero, List.setIfInBounds_toArray, List.set_cons_zero, List.set_cons_succ]
          refine wpAnyH_pure (i := 11) (v := ?_) rfl (by kernel_rfl) (by kernel_rfl) (by kernel_rfl) (fun _ _ _ h => h) (by first | rfl | (simp [Region.wanted, yielded, *]; done)) (by assumption) ?_ ?_
          rotate_left
          · (intro w hSw; (try dsimp only at hSw); go_simp; (try with_reducible rfl))
          simp only [Act.put, List.getElem_toArray, List.getElem_cons_succ, List.getElem_cons_zero, List.setIfInBounds_toArray, List.set_cons_zero, List.set_cons_succ]
          refine wpAnyH_pure (i := 12) (v := ?_) rfl (by kernel_rfl) (by kernel_rfl) (by kernel_rfl) (fun _ _ _ h => h) (by first | rfl | (simp [Region.wanted, yielded, *]; done)) (by assumption) ?_ ?_
          rotate_left
          · (intro w hSw; (try dsimp only at hSw); go_simp; (try with_reducible rfl))
          simp only [Act.put, List.getElem_toArray, List.getElem_cons_succ, List.getElem_cons_zero, List.setIfInBounds_toArray, List.set_cons_zero, List.set_cons_succ]
          refine wpAnyH_pure (i := 13) (v := ?_) rfl (by kernel_rfl) (by kernel_rfl) (by kernel_rfl) (fun _ _ _ h => h) (by first | rfl | (simp [Region.wanted, yielded, *]; done)) (by assumption) ?_ ?_
          rotate_left
          · (intro w hSw; (try dsimp only at hSw); go_simp; (try with_reducible rfl))
          simp only [Act.put, List.getElem_toArray, List.getElem_cons_succ, List.getElem_cons_zero, List.setIfInBounds_toArray, List.set_cons_zero, List.set_cons_succ]
          refine wpAnyH_pure (i := 14) (v := ?_) rfl (by kernel_rfl) (by kernel_rfl) (by kernel_rfl) (fun _ _ _ h => h) (by rfl) (by assumption) ?_ ?_
          rotate_left
          · (intro w hSw; (try dsimp only at hSw); go_simp; (try with_reducible rfl))
          simp only [Act.put, List.getElem_toArray, List.getElem_cons_succ, List.getElem_cons_zero, List.setIfInBounds_toArray, List.set_cons_zero, List.set_cons_succ]
          refine wpAnyH_pure (i := 15) (v := ?_) rfl (by kernel_rfl) (by kernel_rfl) (by kernel_rfl) (fun _ _ _ h => h) (by rfl) (by assumption) ?_ ?_
          rotate_left
          · (intro w hSw; (try dsimp only at hSw); go_simp; (try with_reducible rfl))
          simp only [Act.put, List.getElem_toArray, List.getElem_cons_succ, List.getElem_cons_zero, List.setIfInBounds_toArray, List.set_cons_zero, List.set_cons_succ]
          refine wpAnyH_pure (i := 16) (v := ?_) rfl (by kernel_rfl) (by kernel_rfl) (by kernel_rfl) (fun _ _ _ h => h) (by rfl) (by assumption) ?_ ?_
          rotate_left
          · (intro w hSw; (try dsimp only at hSw); go_simp; (try with_reducible rfl))
          simp only [Act.put, List.getElem_toArray, List.getElem_cons_succ, List.getElem_cons_zero, List.setIfInBounds_toArray, List.set_cons_zero, List.set_cons_succ]
          refine wpAnyH_done (by kernel_rfl) ?_ _
          go_wp2
          go_roundw
          case rel => exact ⟨k + 1, by omega, by rw [HSB.out, Bool.false_or]; simp [bne]; first | done | rfl | (by_cases h : y = 0 <;> simp [h]), by go_num, hO', hBB', HA2⟩
          case measure => simp [intOf]; omega
          · intro j v hj
            match j, hj with
            | 0, hj => simp at hj; subst hj; simp [Addr.add]
          · intro v hv; simp at hv; subst hv; rfl
          · unfold maxLen; omega
          · omega
          · have := HB.out.size; simp; omega
      · rw [show inB (x k) (-200) 200 = false by unfold inB; exact decide_eq_false (by omega)] at KWk
        have hBf := HB.out
        go_wp2_with fail
        refine (KWk.out _).mono ?_
        rintro e w' ⟨rfl, rfl⟩
        go_wp2
        go_ret
        exact ⟨rfl, hB1.trans (hBf.mono hB1.size)⟩
    · obtain rfl : k = n := by omega
      have hBr : Below w.heap.size w wr := hB1.trans (HB.out.mono hB1.size)
      have hXb := dX_bd HALL.out
      have KG := Lib.hid (fun W => gainD_ok (dX x k) g W hXb hg)
      have KWh := Lib.hid (wholeB_any g)
      have hG2 : Hid (∀ i, i < 64 → (gnT (dX x k) g i).natAbs ≤ 2047) := Lib.hid fun i _ => gnT_bd hXb hg i
      have hX2 : Hid (∀ i, i < 64 → (dX x k i).natAbs ≤ 2047) := Lib.hid fun i _ => by have := hXb i; omega
      have hS2 : Hid (∀ i, i < 64 → (shT (gnT (dX x k) g) (b : Int) i).natAbs ≤ 2047) := Lib.hid fun i _ => shT_bd hG2.out i
      have KS := Lib.hid (fun W => shifted_ok (gnT (dX x k) g) (b : Int) W hG2 (by omega))
      have KE1 := Lib.hid (fun W => envelope_ok (dX x k) W hX2)
      have KE2 := Lib.hid (fun W => envelope_ok (shT (gnT (dX x k) g) (b : Int)) W hS2)
      have HEQ := Lib.hid (fun i (h : i + b ≤ 60) => anS_del (dX x k) b g h)
      have HBD : Hid (∀ i, i < 61 → 0 ≤ anS (dX x k) i ∧ anS (dX x k) i ≤ 33521672) := Lib.hid fun i h => by have := anS_bd hX2.out h; unfold anS; omega
      obtain ⟨G2, hGG⟩ : ∃ G2, G2 = g * g := ⟨_, rfl⟩
      have hGb : 1 ≤ G2 ∧ G2 ≤ 100 := by
        have a := Int.mul_le_mul hg.1 hg.1 (by omega) (by omega)
        have b := Int.mul_le_mul hg.2 hg.2 (by omega) (by omega)
        omega
      have hgg : IntKind.i64.wrap (g * g) = G2 := by rw [← hGG]; exact IntWalk.i64_in _ (by omega)
      have HPK : Hid (sB x k = true → ∃ pA pS : Int, (0 ≤ pA ∧ pA ≤ 60) ∧ (0 ≤ pS ∧ pS ≤ 33521672) ∧ (∀ W, Calls Try.prog 65 #[.agg (tC (dX x k)), .agg #[.int .i64 0, .int .i64 30]] W fun e w' => e = .returned (.tuple #[.agg #[.int .i64 pA, .int .i64 pS], .int .i64 0]) ∧ Below W.heap.size W w')
          ∧ (∀ W, Calls Try.prog 65 #[.agg (tC (shT (gnT (dX x k) g) (b : Int))), .agg #[.int .i64 0, .int .i64 60]] W fun e w' => e = .returned (.tuple #[.agg #[.int .i64 (pA + (b : Int)), .int .i64 (G2 * pS)], .int .i64 0]) ∧ Below W.heap.size W w')
          ∧ (∀ W, Calls Try.prog 70 #[.agg (tC (dX x k)), .agg (tC (shT (gnT (dX x k) g) (b : Int))), .int .i64 25] W fun e w' => e = .returned (.tuple #[.int .i64 (b : Int), .int .i64 0]) ∧ Below W.heap.size W w')) := Lib.hid fun h => by
        have hsm := dX_some hn h
        obtain ⟨q1, q2, q3, q4⟩ := peak_del (dX x k) b g hb hg.1 (dX_hi x hn) (dX_lo x k (by decide)) (dX_lo x k (by decide)) (dX_lo x k (by decide)) hsm
        obtain ⟨p1, p2, p3⟩ := pmx_spec (anS (dX x k)) 0 31 (by omega)
        refine ⟨((0 : Nat) : Int) + (pmx (anS (dX x k)) 0 31 : Int), anS (dX x k) (0 + pmx (anS (dX x k)) 0 31), by omega, HBD.out _ (by omega), fun W => peakIn_ok (dX x k) 0 30 _ W hX2 ⟨by decide, by decide⟩ (by omega) (Lib.hid p2) (Lib.hid p3), fun W => ?_, fun W => ?_⟩
        · have h2 := peakIn_ok (shT (gnT (dX x k) g) (b : Int)) 0 60 (pmx (anS (dX x k)) 0 31 + b) W hS2 ⟨by decide, by decide⟩ (by omega) (Lib.hid q2) (Lib.hid q3)
          rw [q4, ← hGG, show ((0 : Nat) : Int) + ((pmx (anS (dX x k)) 0 31 + b : Nat) : Int) = ((0 : Nat) : Int) + (pmx (anS (dX x k)) 0 31 : Int) + (b : Int) by omega] at h2
          exact h2
        · have h2 := lagOf_ok (dX x k) (shT (gnT (dX x k) g) (b : Int)) 25 W hX2 hS2 (by decide)
          rw [lag_del (dX x k) b g hb hg.1 (dX_hi x hn) hsm] at h2
          exact h2
      have HIR := Lib.hid (Lib.hid (irow_own HO.out))
      have HZ := Lib.hid zero_trace
      have hs0 := Lib.hid (tC_size fun _ => 0)
      have hsc := Lib.hid (tC_size (dX x k))
      have hoc := Lib.hid (tC_one (dX x k))
      have hsd := Lib.hid (tC_size (gnT (dX x k) g))
      have hod := Lib.hid (tC_one (gnT (dX x k) g))
      have hss := Lib.hid (tC_size (shT (gnT (dX x k) g) (b : Int)))
      have hos := Lib.hid (tC_one (shT (gnT (dX x k) g) (b : Int)))
      have HZS := Lib.hid zero_sq
      have hzS := Lib.hid (sC_size fun _ => 0)
      have hsA := Lib.hid (sC_size (anS (dX x k)))
      have hoA := Lib.hid (sC_one (anS (dX x k)))
      have HGA := Lib.hid (fun i (h : i < 61) => sC_get (anS (dX x k)) h)
      have hsB := Lib.hid (sC_size (anS (shT (gnT (dX x k) g) (b : Int))))
      have hoB := Lib.hid (sC_one (anS (shT (gnT (dX x k) g) (b : Int))))
      have HGB := Lib.hid (fun i (h : i < 61) => sC_get (anS (shT (gnT (dX x k) g) (b : Int))) h)
      change Hid (∀ u W (h : Hid (IRow W u (dT x) (k + 3))), Calls Try.prog 93 #[u] W fun e w' => e = .returned (.agg (tC (dX x k))) ∧ Below W.heap.size W w') at KT
      have hge := hg
      clear hG2 hX2 hS2 hXb HALL HRow HO HB KW K1 K2 HI HZ0 HZ1 HZ2
      generalize sC (anS (shT (gnT (dX x k) g) (b : Int))) = B at *
      generalize anS (shT (gnT (dX x k) g) (b : Int)) = aB at *
      generalize tC (shT (gnT (dX x k) g) (b : Int)) = s at *
      generalize tC (gnT (dX x k) g) = d at *
      generalize sC (anS (dX x k)) = A at *
      generalize anS (dX x k) = aA at *
      generalize tC (dX x k) = c at *
      generalize (tC fun _ => 0) = z at *
      generalize (sC fun _ => 0) = zS at *
      generalize sB x k = sb at *
      have hinC : (Try.prog.info? 26).map (·.size) = some c.size := by rw [hsc.out]; exact infoTrace
      go_wp2_with fail
      refine (KT.out _ _ HIR.out).mono ?_
      rintro e w3 ⟨rfl, hw3⟩
      have hB3 : Below w.heap.size w w3 := below_step hw3 hBr hBr.size
      clear hw3 hBr hB1
      go_upto_region 13 with (first | (refine wpl_alloc rfl 26 z rfl (HZ.out _) ?_) | (refine wpl_store_new rfl 26 _ _ z c rfl rfl rfl (by rw [hsc.out]; exact infoTrace) (by rw [hs0.out, hsc.out]) hoc.out ?_))
      have ha3 : (w3.alloc (.cells c 26)).heap[w3.heap.size]? = some (.cells c 26 (0, 0)) := heap_alloc_last w3 _
      have hB4 : Below w.heap.size w (w3.alloc (.cells c 26)) := by (repeat' (first | (with_reducible exact Below.refl _ _) | (with_reducible assumption) | (with_reducible refine Below.alloc ?_ ?_ _) | (with_reducible refine Below.drew ?_) | (with_reducible refine below_drewN ?_ _) | (with_reducible refine Below.setCell ?_ ?_ _) | (with_reducible refine below_step (by with_reducible assumption) ?_ ?_) | (with_reducible exact Below.size (by with_reducible assumption)) | go_size))
      refine abs_last (fun w4 hw4 => ?_)
      have ca4_0 : w4.heap[w3.heap.size]? = some (.cells c 26 (0, 0)) := by rw [hw4]; exact ha3
      have hB4' : Below w.heap.size w w4 := by rw [hw4]; exact hB4
      have hl4 := (Array.getElem?_eq_some_iff.1 ca4_0).1
      clear hw4 ha3 hB4 hB3
      have hz44 := hB4'.size
      refine wp_region_held_drew (S := fun w' => w'.heap[w3.heap.size]? = some (.cells (c) 26 (0, 0))) (by kernel_rfl) ?_ (fun hH7 => ?_)
      · (first | assumption | (refine ⟨?_⟩ <;> first | assumption | (repeat (first | assumption | (refine heap_alloc_at ?_; (first | rfl | (simp only [World.size_alloc, World.size_drew, World.size_setCell, size_drewN]; done))) | refine block_alloc ?_))))
      refine wpAnyH_pure (i := 0) (v := ?_) rfl (by kernel_rfl) (by kernel_rfl) (by kernel_rfl) (fun _ _ _ h => h) (by rfl) (by assumption) ?_ ?_
      rotate_left
      · (intro w hSw; (try dsimp only at hSw); refine exec_load_arr 26 (p := .tmp 10) ?_ ?_ Try.underlying26 (hinC) (by repeat (first | exact hSw | exact hSw.1 | replace hSw := hSw.2)) <;> rfl)
      simp only [Act.put, List.getElem_toArray, List.getElem_cons_succ, List.getElem_cons_zero, List.setIfInBounds_toArray, List.set_cons_zero, List.set_cons_succ]
      refine wpAnyH_pure (i := 1) (v := ?_) rfl (by kernel_rfl) (by kernel_rfl) (by kernel_rfl) (fun _ _ _ h => h) (by rfl) (by assumption) ?_ ?_
      rotate_left
      · (intro w hSw; (try dsimp only at hSw); go_simp; (try with_reducible rfl))
      simp only [Act.put, List.getElem_toArray, List.getElem_cons_succ, List.getElem_cons_zero, List.setIfInBounds_toArray, List.set_cons_zero, List.set_cons_succ]
      refine wpAnyH_dagC0 (fun a0 l0 l a W => ((W.heap[w3.heap.size]? = some (.cells (c) 26 (0, 0))) ∧ Below w.heap.size w W ∧ (w4.heap.size) ≤ W.heap.size) ∧ (((l = l0) ∧ (a = a0)) ∨ ((l = (l0.setIfInBounds 2 true)) ∧ (a = (a0.put (some 75) (.agg #[.int .i64 g, .int .i64 1])))) ∨ (∃ n11 : Nat, (l = (l0.setIfInBounds 8 true)) ∧ (a = (a0.put (some 11) (.pointer (some ⟨n11, 0, none⟩)))) ∧ (((w4.heap.size) ≤ n11 ∧ n11 < W.heap.size) ∧ W.heap[n11]? = some (.cells (z) 26 (0, 0)))) ∨ ((l = ((l0.setIfInBounds 2 true).setIfInBounds 3 true)) ∧ (a = ((a0.put (some 75) (.agg #[.int .i64 g, .int .i64 1])).put (some 76) (.tuple #[.agg d, .int .i64 0, .int .i64 0])))) ∨ (∃ n11 : Nat, (l = ((l0.setIfInBounds 2 true).setIfInBounds 8 true)) ∧ (a = ((a0.put (some 75) (.agg #[.int .i64 g, .int .i64 1])).put (some 11) (.pointer (some ⟨n11, 0, none⟩)))) ∧ (((w4.heap.size) ≤ n11 ∧ n11 < W.heap.size) ∧ W.heap[n11]? = some (.cells (z) 26 (0, 0)))) ∨ ((l = ((((((l0.setIfInBounds 2 true).setIfInBounds 3 true).setIfInBounds 4 true).setIfInBounds 5 true).setIfInBounds 6 true).setIfInBounds 7 true)) ∧ (a = ((((((a0.put (some 75) (.agg #[.int .i64 g, .int .i64 1])).put (some 76) (.tuple #[.agg d, .int .i64 0, .int .i64 0])).put (some 72) (.tuple #[.agg d, .int .i64 0, .int .i64 0])).put (some 77) (.agg d)).put (some 78) (.int .i64 0)).put (some 79) (.int .i64 0)))) ∨ (∃ n11 : Nat, (l = (((l0.setIfInBounds 2 true).setIfInBounds 3 true).setIfInBounds 8 true)) ∧ (a = (((a0.put (some 75) (.agg #[.int .i64 g, .int .i64 1])).put (some 76) (.tuple #[.agg d, .int .i64 0, .int .i64 0])).put (some 11) (.pointer (some ⟨n11, 0, none⟩)))) ∧ (((w4.heap.size) ≤ n11 ∧ n11 < W.heap.size) ∧ W.heap[n11]? = some (.cells (z) 26 (0, 0)))) ∨ (∃ n11 : Nat, (l = (((((((l0.setIfInBounds 2 true).setIfInBounds 3 true).setIfInBounds 4 true).setIfInBounds 5 true).setIfInBounds 6 true).setIfInBounds 7 true).setIfInBounds 8 true)) ∧ (a = (((((((a0.put (some 75) (.agg #[.int .i64 g, .int .i64 1])).put (some 76) (.tuple #[.agg d, .int .i64 0, .int .i64 0])).put (some 72) (.tuple #[.agg d, .int .i64 0, .int .i64 0])).put (some 77) (.agg d)).put (some 78) (.int .i64 0)).put (some 79) (.int .i64 0)).put (some 11) (.pointer (some ⟨n11, 0, none⟩)))) ∧ (((w4.heap.size) ≤ n11 ∧ n11 < W.heap.size) ∧ W.heap[n11]? = some (.cells (z) 26 (0, 0)))))) (by rfl) ?_ ?_ ?_
      · exact ⟨⟨hH7, by (repeat' (first | (with_reducible exact Below.refl _ _) | (with_reducible assumption) | (with_reducible refine Below.alloc ?_ ?_ _) | (with_reducible refine Below.drew ?_) | (with_reducible refine below_drewN ?_ _) | (with_reducible refine Below.setCell ?_ ?_ _) | (with_reducible refine below_step (by with_reducible assumption) ?_ ?_) | (with_reducible exact Below.size (by with_reducible assumption)) | go_size)), by first | omega | (simp only [World.size_alloc, World.size_setCell, World.size_drew, size_drewN]; omega)⟩, (Or.inl ⟨rfl, rfl⟩)⟩
      · intro l a W hI; exact hI.1.1
      intro l a W hI
      obtain ⟨⟨hSW, hB, hZ⟩, hI⟩ := hI
      have hSW' := hSW
      have cS0 := hSW
      rcases hI with ⟨rfl, rfl⟩ | ⟨rfl, rfl⟩ | ⟨n11, rfl, rfl, ⟨⟨zn11, yn11⟩, dn11⟩⟩ | ⟨rfl, rfl⟩ | ⟨n11, rfl, rfl, ⟨⟨zn11, yn11⟩, dn11⟩⟩ | ⟨rfl, rfl⟩ | ⟨n11, rfl, rfl, ⟨⟨zn11, yn11⟩, dn11⟩⟩ | ⟨n11, rfl, rfl, ⟨⟨zn11, yn11⟩, dn11⟩⟩
      · left
        refine ⟨[2, 8], by kernel_rfl, by simp, ?_⟩
        simp only [Act.put, List.getElem_toArray, List.getElem_cons_succ, List.getElem_cons_zero, List.setIfInBounds_toArray, List.set_cons_zero, List.set_cons_succ]
        refine all_cons ?_ (all_cons ?_ (all_nil))
        · refine wpOp_step rfl (fun Kq hKq => ?_)
          go_simp
          refine (KWh.out _).mono ?_
          rintro e W1 ⟨rfl, hw1⟩
          have hz1 := hw1.size
          refine hKq _ _ ?_
          exact ⟨⟨block_below0 hw1 cS0, below_step hw1 hB (by have := hB.size; omega), by omega⟩, (Or.inr (Or.inl ⟨by rfl, by rfl⟩))⟩
        · refine wpOp_step rfl (fun Kq hKq => ?_)
          rw [if_pos (by rfl)]
          refine wp_alloc_row 26 (z) rfl (HZ.out _) ?_
          have hw1 : Below W.heap.size W (W.alloc (.cells (z) 26)) := by (repeat' (first | (with_reducible exact Below.refl _ _) | (with_reducible assumption) | (with_reducible refine Below.alloc ?_ ?_ _) | (with_reducible refine Below.drew ?_) | (with_reducible refine below_drewN ?_ _) | (with_reducible refine Below.setCell ?_ ?_ _) | (with_reducible refine below_step (by with_reducible assumption) ?_ ?_) | (with_reducible exact Below.size (by with_reducible assumption)) | go_size))
          have hz1 : (W.alloc (.cells (z) 26)).heap.size = W.heap.size + 1 := by simp
          refine hKq _ _ ?_
          exact ⟨⟨block_below0 hw1 cS0, below_step hw1 hB (by have := hB.size; omega), by omega⟩, (Or.inr (Or.inr (Or.inl ⟨W.heap.size, by rfl, by rfl, ⟨⟨by omega, by omega⟩, heap_alloc_last W _⟩⟩)))⟩
      · left
        refine ⟨[3, 8], by kernel_rfl, by simp, ?_⟩
        simp only [Act.put, List.getElem_toArray, List.getElem_cons_succ, List.getElem_cons_zero, List.setIfInBounds_toArray, List.set_cons_zero, List.set_cons_succ]
        refine all_cons ?_ (all_cons ?_ (all_nil))
        · refine wpOp_step rfl (fun Kq hKq => ?_)
          go_simp
          refine (KG.out _).mono ?_
          rintro e W1 ⟨rfl, hw1⟩
          have hz1 := hw1.size
          refine hKq _ _ ?_
          exact ⟨⟨block_below0 hw1 cS0, below_step hw1 hB (by have := hB.size; omega), by omega⟩, (Or.inr (Or.inr (Or.inr (Or.inl ⟨by rfl, by rfl⟩))))⟩
        · refine wpOp_step rfl (fun Kq hKq => ?_)
          rw [if_pos (by rfl)]
          refine wp_alloc_row 26 (z) rfl (HZ.out _) ?_
          have hw1 : Below W.heap.size W (W.alloc (.cells (z) 26)) := by (repeat' (first | (with_reducible exact Below.refl _ _) | (with_reducible assumption) | (with_reducible refine Below.alloc ?_ ?_ _) | (with_reducible refine Below.drew ?_) | (with_reducible refine below_drewN ?_ _) | (with_reducible refine Below.setCell ?_ ?_ _) | (with_reducible refine below_step (by with_reducible assumption) ?_ ?_) | (with_reducible exact Below.size (by with_reducible assumption)) | go_size))
          have hz1 : (W.alloc (.cells (z) 26)).heap.size = W.heap.size + 1 := by simp
          refine hKq _ _ ?_
          exact ⟨⟨block_below0 hw1 cS0, below_step hw1 hB (by have := hB.size; omega), by omega⟩, (Or.inr (Or.inr (Or.inr (Or.inr (Or.inl ⟨W.heap.size, by rfl, by rfl, ⟨⟨by omega, by omega⟩, heap_alloc_last W _⟩⟩)))))⟩
      · left
        refine ⟨[2], by kernel_rfl, by simp, ?_⟩
        simp only [Act.put, List.getElem_toArray, List.getElem_cons_succ, List.getElem_cons_zero, List.setIfInBounds_toArray, List.set_cons_zero, List.set_cons_succ]
        refine all_cons ?_ (all_nil)
        · refine wpOp_step rfl (fun Kq hKq => ?_)
          go_simp
          refine (KWh.out _).mono ?_
          rintro e W1 ⟨rfl, hw1⟩
          have hz1 := hw1.size
          refine hKq _ _ ?_
          exact ⟨⟨block_below0 hw1 cS0, below_step hw1 hB (by have := hB.size; omega), by omega⟩, (Or.inr (Or.inr (Or.inr (Or.inr (Or.inl ⟨n11, by rfl, by rfl, ⟨⟨zn11, by omega⟩, block_below0 hw1 dn11⟩⟩)))))⟩
      · right; left
        apply jump_intro
        · intro hh; refine wpAnyH_fuel 8 (by rfl) ?_
          refine wpAnyH_pure (i := 4) (v := ?_) rfl (by kernel_rfl) (by kernel_rfl) (by kernel_rfl) (fun _ _ _ h => h) (by rfl) (by assumption) ?_ ?_
          rotate_left
          · (intro w hSw; (try dsimp only at hSw); go_simp; (try with_reducible rfl))
          refine wpAnyH_pure (i := 5) (v := ?_) rfl (by kernel_rfl) (by kernel_rfl) (by kernel_rfl) (fun _ _ _ h => h) (by rfl) (by assumption) ?_ ?_
          rotate_left
          · (intro w hSw; (try dsimp only at hSw); go_simp; (try with_reducible rfl))
          refine wpAnyH_pure (i := 6) (v := ?_) rfl (by kernel_rfl) (by kernel_rfl) (by kernel_rfl) (fun _ _ _ h => h) (by rfl) (by assumption) ?_ ?_
          rotate_left
          · (intro w hSw; (try dsimp only at hSw); go_simp; (try with_reducible rfl))
          refine wpAnyH_pure (i := 7) (v := ?_) rfl (by kernel_rfl) (by kernel_rfl) (by kernel_rfl) (fun _ _ _ h => h) (by rfl) (by assumption) ?_ ?_
          rotate_left
          · (intro w hSw; (try dsimp only at hSw); go_simp; (try with_reducible rfl))
          exact wpAnyH_fuel _ (by kernel_rfl) hh
        · exact of_decide_eq_true (by kernel_rfl)
        · exact ⟨⟨hSW', hB, hZ⟩, (Or.inr (Or.inr (Or.inr (Or.inr (Or.inr (Or.inl ⟨by kernel_rfl, by kernel_rfl⟩))))))⟩
      · left
        refine ⟨[3], by kernel_rfl, by simp, ?_⟩
        simp only [Act.put, List.getElem_toArray, List.getElem_cons_succ, List.getElem_cons_zero, List.setIfInBounds_toArray, List.set_cons_zero, List.set_cons_succ]
        refine all_cons ?_ (all_nil)
        · refine wpOp_step rfl (fun Kq hKq => ?_)
          go_simp
          refine (KG.out _).mono ?_
          rintro e W1 ⟨rfl, hw1⟩
          have hz1 := hw1.size
          refine hKq _ _ ?_
          exact ⟨⟨block_below0 hw1 cS0, below_step hw1 hB (by have := hB.size; omega), by omega⟩, (Or.inr (Or.inr (Or.inr (Or.inr (Or.inr (Or.inr (Or.inl ⟨n11, by rfl, by rfl, ⟨⟨zn11, by omega⟩, block_below0 hw1 dn11⟩⟩)))))))⟩
      · left
        refine ⟨[8], by kernel_rfl, by simp, ?_⟩
        simp only [Act.put, List.getElem_toArray, List.getElem_cons_succ, List.getElem_cons_zero, List.setIfInBounds_toArray, List.set_cons_zero, List.set_cons_succ]
        refine all_cons ?_ (all_nil)
        · refine wpOp_step rfl (fun Kq hKq => ?_)
          rw [if_pos (by rfl)]
          refine wp_alloc_row 26 (z) rfl (HZ.out _) ?_
          have hw1 : Below W.heap.size W (W.alloc (.cells (z) 26)) := by (repeat' (first | (with_reducible exact Below.refl _ _) | (with_reducible assumption) | (with_reducible refine Below.alloc ?_ ?_ _) | (with_reducible refine Below.drew ?_) | (with_reducible refine below_drewN ?_ _) | (with_reducible refine Below.setCell ?_ ?_ _) | (with_reducible refine below_step (by with_reducible assumption) ?_ ?_) | (with_reducible exact Below.size (by with_reducible assumption)) | go_size))
          have hz1 : (W.alloc (.cells (z) 26)).heap.size = W.heap.size + 1 := by simp
          refine hKq _ _ ?_
          exact ⟨⟨block_below0 hw1 cS0, below_step hw1 hB (by have := hB.size; omega), by omega⟩, (Or.inr (Or.inr (Or.inr (Or.inr (Or.inr (Or.inr (Or.inr ⟨W.heap.size, by rfl, by rfl, ⟨⟨by omega, by omega⟩, heap_alloc_last W _⟩⟩)))))))⟩
      · right; left
        apply jump_intro
        · intro hh; refine wpAnyH_fuel 7 (by rfl) ?_
          refine wpAnyH_pure (i := 4) (v := ?_) rfl (by kernel_rfl) (by kernel_rfl) (by kernel_rfl) (fun _ _ _ h => h) (by rfl) (by assumption) ?_ ?_
          rotate_left
          · (intro w hSw; (try dsimp only at hSw); go_simp; (try with_reducible rfl))
          refine wpAnyH_pure (i := 5) (v := ?_) rfl (by kernel_rfl) (by kernel_rfl) (by kernel_rfl) (fun _ _ _ h => h) (by rfl) (by assumption) ?_ ?_
          rotate_left
          · (intro w hSw; (try dsimp only at hSw); go_simp; (try with_reducible rfl))
          refine wpAnyH_pure (i := 6) (v := ?_) rfl (by kernel_rfl) (by kernel_rfl) (by kernel_rfl) (fun _ _ _ h => h) (by rfl) (by assumption) ?_ ?_
          rotate_left
          · (intro w hSw; (try dsimp only at hSw); go_simp; (try with_reducible rfl))
          refine wpAnyH_pure (i := 7) (v := ?_) rfl (by kernel_rfl) (by kernel_rfl) (by kernel_rfl) (fun _ _ _ h => h) (by rfl) (by assumption) ?_ ?_
          rotate_left
          · (intro w hSw; (try dsimp only at hSw); go_simp; (try with_reducible rfl))
          exact wpAnyH_fuel _ (by kernel_rfl) hh
        · exact of_decide_eq_true (by kernel_rfl)
        · exact ⟨⟨hSW', hB, hZ⟩, (Or.inr (Or.inr (Or.inr (Or.inr (Or.inr (Or.inr (Or.inr ⟨n11, by kernel_rfl, by kernel_rfl, ⟨⟨zn11, yn11⟩, dn11⟩⟩)))))))⟩
      right; right
      refine wpAnyH_fuel 3 (by rfl) ?_
      simp only [Act.put, List.getElem_toArray, List.getElem_cons_succ, List.getElem_cons_zero, List.setIfInBounds_toArray, List.set_cons_zero, List.set_cons_succ]
      have : ¬ n11 = w3.heap.size := by omega
      have : ¬ w3.heap.size = n11 := by omega
      clear hH7
      refine wpAnyH_ready (rs := [9]) (by kernel_rfl) (by simp) ?_
      refine AllReadyH.cons rfl (fun Kq hKq => ?_) AllReadyH.nil
      rw [if_pos (by rfl)]
      refine wp_store_row 26 26 _ _ n11 (z) (d) rfl rfl rfl (by rw [hsd.out]; exact infoTrace) (by rw [hs0.out, hsd.out]) hod.out (dn11) ?_
      refine hKq.out _ _ ?_ (fun hH8 => ?_)
      · exact (block_setRow_other (by assumption)).trans cS0
      clear hKq Kq
      have hH8k := hH8
      have cS0hH8 := hH8k
      refine wpAnyH_pure (i := 10) (v := ?_) rfl (by kernel_rfl) (by kernel_rfl) (by kernel_rfl) (fun _ _ _ h => h) (by rfl) (by assumption) ?_ ?_
      rotate_left
      · (intro w hSw; (try dsimp only at hSw); go_simp; (try with_reducible rfl))
      simp only [Act.put, List.getElem_toArray, List.getElem_cons_succ, List.getElem_cons_zero, List.setIfInBounds_toArray, List.set_cons_zero, List.set_cons_succ]
      refine wpAnyH_pure (i := 11) (v := ?_) rfl (by kernel_rfl) (by kernel_rfl) (by kernel_rfl) (fun _ _ _ h => h) (by rfl) (by assumption) ?_ ?_
      rotate_left
      · (intro w hSw; (try dsimp only at hSw); go_simp; (try with_reducible rfl))
      simp only [Act.put, List.getElem_toArray, List.getElem_cons_succ, List.getElem_cons_zero, List.setIfInBounds_toArray, List.set_cons_zero, List.set_cons_succ]
      refine wpAnyH_fin (T := fun W => (W.heap[w3.heap.size]? = some (.cells (c) 26 (0, 0))) ∧ (W.heap[n11]? = some (.cells (d) 26 (0, 0))) ∧ (n11 < W.heap.size ∧ (w4.heap.size) ≤ W.heap.size) ∧ Below w.heap.size w W) (by kernel_rfl) ⟨hH8, ?_, ?_, ?_⟩ (fun W1 hT => ?_)
      · exact block_setRow (dn11)
      · exact ⟨(Array.getElem?_eq_some_iff.1 (block_setRow (dn11))).1, Nat.le_of_lt (Nat.lt_of_le_of_lt zn11 ((Array.getElem?_eq_some_iff.1 (block_setRow (dn11))).1))⟩
      · exact (below_setRow hB (d) (by omega))
      obtain ⟨gS0, gF0, ⟨gZ0, gZ1⟩, hB1⟩ := hT
      have HBW := Lib.hid hB1
      have hzW := hB1.size
      go_wp2_with (first | (refine wpl_load rfl 26 26 _ n11 d (0, 0) _ rfl rfl Try.underlying26 rfl (by rw [hsd.out]; exact infoTrace) (gF0) ?_))
      go_wp2_with fail; (refine (KS.out _).mono ?_; rintro e w5 ⟨rfl, hw5⟩; obtain ⟨hcw5, hfw5, hlw5, hmw5, hnw5⟩ := bcell3 hw5; have hzw5 := hw5.size; (try simp only [World.size_alloc, World.size_setCell, World.size_drew, size_drewN] at hzw5))
      have ca5_0 : w5.heap[w3.heap.size]? = some (.cells (c) 26 (0, 0)) := block_below0 hw5 (by first | assumption | (repeat (first | assumption | (refine heap_alloc_at ?_; (first | rfl | (simp only [World.size_alloc, World.size_drew, World.size_setCell, size_drewN]; done))) | refine block_alloc ?_)))
      have cn115_0 : w5.heap[n11]? = some (.cells (d) 26 (0, 0)) := block_below0 hw5 (by first | assumption | (repeat (first | assumption | (refine heap_alloc_at ?_; (first | rfl | (simp only [World.size_alloc, World.size_drew, World.size_setCell, size_drewN]; done))) | refine block_alloc ?_)))
      clear hcw5 hfw5 hlw5 hmw5 hnw5
      go_wp2_with (first | (refine wpl_alloc rfl 26 z rfl (HZ.out _) ?_) | (refine wpl_store_new rfl 26 _ _ z s rfl rfl rfl (by rw [hss.out]; exact infoTrace) (by rw [hs0.out, hss.out]) hos.out ?_) | (refine wpl_load rfl 26 26 _ w3.heap.size c (0, 0) _ rfl rfl Try.underlying26 rfl (by rw [hsc.out]; exact infoTrace) (block_alloc ca5_0) ?_))
      go_wp2_with fail; (refine (KE1.out _).mono ?_; rintro e w6 ⟨rfl, hw6⟩; obtain ⟨hcw6, hfw6, hlw6, hmw6, hnw6⟩ := bcell3 hw6; have hzw6 := hw6.size; (try simp only [World.size_alloc, World.size_setCell, World.size_drew, size_drewN] at hzw6))
      have ca6_0 : w6.heap[w3.heap.size]? = some (.cells (c) 26 (0, 0)) := block_below0 hw6 (by first | assumption | (repeat (first | assumption | (refine heap_alloc_at ?_; (first | rfl | (simp only [World.size_alloc, World.size_drew, World.size_setCell, size_drewN]; done))) | refine block_alloc ?_)))
      clear ca5_0
      have ct6_0 : w6.heap[w5.heap.size]? = some (.cells (s) 26 (0, 0)) := block_below0 hw6 (by first | assumption | (repeat (first | assumption | (refine heap_alloc_at ?_; (first | rfl | (simp only [World.size_alloc, World.size_drew, World.size_setCell, size_drewN]; done))) | refine block_alloc ?_)))
      clear hcw6 hfw6 hlw6 hmw6 hnw6
      go_wp2_with (first | (refine wpl_alloc rfl 95 zS rfl (HZS.out _) ?_) | (refine wpl_store_new rfl 95 _ _ zS A rfl rfl rfl (by rw [hsA.out]; exact infoSq) (by rw [hzS.out, hsA.out]) hoA.out ?_) | (refine wpl_load rfl 26 26 _ w5.heap.size s (0, 0) _ rfl rfl Try.underlying26 rfl (by rw [hss.out]; exact infoTrace) (block_alloc ct6_0) ?_))
      go_wp2_with fail; (refine (KE2.out _).mono ?_; rintro e w7 ⟨rfl, hw7⟩; obtain ⟨hcw7, hfw7, hlw7, hmw7, hnw7⟩ := bcell3 hw7; have hzw7 := hw7.size; (try simp only [World.size_alloc, World.size_setCell, World.size_drew, size_drewN] at hzw7))
      have ca7_0 : w7.heap[w3.heap.size]? = some (.cells (c) 26 (0, 0)) := block_below0 hw7 (by first | assumption | (repeat (first | assumption | (refine heap_alloc_at ?_; (first | rfl | (simp only [World.size_alloc, World.size_drew, World.size_setCell, size_drewN]; done))) | refine block_alloc ?_)))
      clear ca6_0
      have ct7_0 : w7.heap[w5.heap.size]? = some (.cells (s) 26 (0, 0)) := block_below0 hw7 (by first | assumption | (repeat (first | assumption | (refine heap_alloc_at ?_; (first | rfl | (simp only [World.size_alloc, World.size_drew, World.size_setCell, size_drewN]; done))) | refine block_alloc ?_)))
      clear ct6_0
      have cx7_0 : w7.heap[w6.heap.size]? = some (.cells (A) 95 (0, 0)) := block_below0 hw7 (by first | assumption | (repeat (first | assumption | (refine heap_alloc_at ?_; (first | rfl | (simp only [World.size_alloc, World.size_drew, World.size_setCell, size_drewN]; done))) | refine block_alloc ?_)))
      clear hcw7 hfw7 hlw7 hmw7 hnw7
      have hB7 : Below w.heap.size w w7 := by have := HBW.out; (repeat' (first | (with_reducible exact Below.refl _ _) | (with_reducible assumption) | (with_reducible refine Below.alloc ?_ ?_ _) | (with_reducible refine Below.drew ?_) | (with_reducible refine below_drewN ?_ _) | (with_reducible refine Below.setCell ?_ ?_ _) | (with_reducible refine below_step (by with_reducible assumption) ?_ ?_) | (with_reducible exact Below.size (by with_reducible assumption)) | go_size))
      go_wp2_with (first | (refine wpl_alloc rfl 95 zS rfl (HZS.out _) ?_) | (refine wpl_store_new rfl 95 _ _ zS B rfl rfl rfl (by rw [hsB.out]; exact infoSq) (by rw [hzS.out, hsB.out]) hoB.out ?_))
      have ga := block_alloc (o := .cells B 95) ca7_0
      have gt := block_alloc (o := .cells B 95) ct7_0
      have gx := block_alloc (o := .cells B 95) cx7_0
      have gy := heap_alloc_last w7 (.cells B 95)
      have hBE : Below w.heap.size w (w7.alloc (.cells B 95)) := by (repeat' (first | (with_reducible exact Below.refl _ _) | (with_reducible assumption) | (with_reducible refine Below.alloc ?_ ?_ _) | (with_reducible refine Below.drew ?_) | (with_reducible refine below_drewN ?_ _) | (with_reducible refine Below.setCell ?_ ?_ _) | (with_reducible refine below_step (by with_reducible assumption) ?_ ?_) | (with_reducible exact Below.size (by with_reducible assumption)) | go_size))
      refine abs_last (fun we hwe => ?_)
      rw [← hwe] at ga gt gx gy hBE
      clear hwe ca7_0 ct7_0 cx7_0 hB7
      have HGG := Lib.hid hGG
      clear hGG
      generalize w3.heap.size = ba at *
      generalize w5.heap.size = bt at *
      generalize w6.heap.size = bx at *
      generalize w7.heap.size = b7 at *
      have HBE := Lib.hid hBE
      have Ha := Lib.hid ga
      have Ht := Lib.hid gt
      have Hx := Lib.hid gx
      have Hy := Lib.hid gy
      clear hBE ga gt gx gy
      go_loopw [20] (fun i wr => ∃ m : Nat, m + b ≤ 61 ∧ i = .int .i64 (m : Int) ∧ Hid (Below w.heap.size w wr) ∧ Hid (wr.heap[ba]? = some (.cells c 26 (0, 0))) ∧ Hid (wr.heap[bt]? = some (.cells s 26 (0, 0))) ∧ Hid (wr.heap[bx]? = some (.cells A 95 (0, 0))) ∧ Hid (wr.heap[b7]? = some (.cells B 95 (0, 0)))) (fun i _ => 61 - (intOf i).toNat)
      case atStart => exact ⟨0, by omega, rfl, HBE, Ha, Ht, Hx, Hy⟩
      case round =>
        clear HBE Ha Ht Hx Hy
        obtain ⟨m, hm, rfl, HBE, Ha, Ht, Hx, Hy⟩ := hrel
        have n1 : ((m : Int) + (b : Int)).toNat = m + b := by omega
        by_cases hlt : m + b < 61
        · have hEQ := HEQ.out m (by omega)
          have hbd := HBD.out m (by omega)
          have hEQ2 := hEQ
          rw [← HGG.out] at hEQ
          have dA := (cell_block (i := m) Hx.out).trans (HGA.out m (by omega))
          have dB := (cell_block (i := m + b) Hy.out).trans (HGB.out (m + b) hlt)
          rw [hEQ] at dB
          generalize aA m = y at *
          obtain ⟨P, hP⟩ : ∃ P, P = G2 * y := ⟨_, rfl⟩
          have hPb : 0 ≤ P ∧ P ≤ 100 * 33521672 := by
            rw [hP]
            exact ⟨Int.mul_nonneg (by omega) hbd.1, Int.mul_le_mul hGb.2 hbd.2 hbd.1 (by omega)⟩
          have wrP : IntKind.i64.wrap (G2 * y) = P := by rw [← hP]; exact IntWalk.i64_in _ (by omega)
          have wrj : IntKind.i64.wrap ((m : Int) + (b : Int)) = (m : Int) + (b : Int) := IntWalk.i64_in _ (by omega)
          rw [← hP] at dB
          have e0 : (0 : Int) ≤ (m : Int) := by omega
          have e1 : (m : Int) < 61 := by omega
          have e2 : (0 : Int) ≤ (m : Int) + (b : Int) := by omega
          have e3 : (m : Int) + (b : Int) < 61 := by omega
          clear hP hEQ hEQ2 hbd hPb HEQ HBD HGA HGB HPK KS KE1 KE2 KG
          go_wp2
          refine wp_region_held_drew (S := fun w' => w'.cell? ⟨bx, m, none⟩ = some (.int .i64 (y)) ∧ w'.cell? ⟨b7, m + b, none⟩ = some (.int .i64 (P))) (by kernel_rfl) ?_ (fun hH9 => ?_)
          · (first | assumption | (refine ⟨?_, ?_⟩ <;> assumption) | (go_keep; done) | (simp [*, go_sem]; done))
          refine wpAnyH_pure (i := 0) (v := ?_) rfl (by kernel_rfl) (by kernel_rfl) (by kernel_rfl) (fun _ _ _ h => h) (by rfl) (by assumption) ?_ ?_
          rotate_left
          · (intro w hSw; (try dsimp only at hSw); go_simp; (try with_reducible rfl))
          simp only [Act.put, List.getElem_toArray, List.getElem_cons_succ, List.getElem_cons_zero, List.setIfInBounds_toArray, List.set_cons_zero, List.set_cons_succ]
          refine wpAnyH_pure (i := 1) (v := ?_) rfl (by kernel_rfl) (by kernel_rfl) (by kernel_rfl) (fun _ _ _ h => h) (by rfl) (by assumption) ?_ ?_
          rotate_left
          · (intro w hSw; (try dsimp only at hSw); go_simp; (try with_reducible rfl))
          simp only [Act.put, List.getElem_toArray, List.getElem_cons_succ, List.getElem_cons_zero, List.setIfInBounds_toArray, List.set_cons_zero, List.set_cons_succ]
          refine wpAnyH_pure (i := 2) (v := ?_) rfl (by kernel_rfl) (by kernel_rfl) (by kernel_rfl) (fun _ _ _ h => h) (by rfl) (by assumption) ?_ ?_
          rotate_left
          · (intro w hSw; (try dsimp only at hSw); go_simp; (try with_reducible rfl))
          simp only [Act.put, List.getElem_toArray, List.getElem_cons_succ, List.getElem_cons_zero, List.setIfInBounds_toArray, List.set_cons_zero, List.set_cons_succ]
          refine wpAnyH_pure (i := 3) (v := ?_) rfl (by kernel_rfl) (by kernel_rfl) (by kernel_rfl) (fun _ _ _ h => h) (by rfl) (by assumption) ?_ ?_
          rotate_left
          · (intro w hSw; (try dsimp only at hSw); go_simp; (try with_reducible rfl))
          simp only [Act.put, List.getElem_toArray, List.getElem_cons_succ, List.getElem_cons_zero, List.setIfInBounds_toArray, List.set_cons_zero, List.set_cons_succ]
          refine wpAnyH_pure (i := 4) (v := ?_) rfl (by kernel_rfl) (by kernel_rfl) (by kernel_rfl) (fun _ _ _ h => h) (by rfl) (by assumption) ?_ ?_
          rotate_left
          · (intro w hSw; (try dsimp only at hSw); go_simp; (try with_reducible rfl))
          simp only [Act.put, List.getElem_toArray, List.getElem_cons_succ, List.getElem_cons_zero, List.setIfInBounds_toArray, List.set_cons_zero, List.set_cons_succ]
          refine wpAnyH_pure (i := 5) (v := ?_) rfl (by kernel_rfl) (by kernel_rfl) (by kernel_rfl) (fun _ _ _ h => h) (by rfl) (by assumption) ?_ ?_
          rotate_left
          · (intro w hSw; (try dsimp only at hSw); go_simp; (try with_reducible rfl))
          simp only [Act.put, List.getElem_toArray, List.getElem_cons_succ, List.getElem_cons_zero, List.setIfInBounds_toArray, List.set_cons_zero, List.set_cons_succ]
          refine wpAnyH_pure (i := 6) (v := ?_) rfl (by kernel_rfl) (by kernel_rfl) (by kernel_rfl) (fun _ _ _ h => h) (by rfl) (by assumption) ?_ ?_
          rotate_left
          · (intro w hSw; (try dsimp only at hSw); go_simp; (try with_reducible rfl))
          simp only [Act.put, List.getElem_toArray, List.getElem_cons_succ, List.getElem_cons_zero, List.setIfInBounds_toArray, List.set_cons_zero, List.set_cons_succ]
          refine wpAnyH_pure (i := 7) (v := ?_) rfl (by kernel_rfl) (by kernel_rfl) (by kernel_rfl) (fun _ _ _ h => h) (by rfl) (by assumption) ?_ ?_
          rotate_left
          · (intro w hSw; (try dsimp only at hSw); go_simp; (try with_reducible rfl))
          simp only [Act.put, List.getElem_toArray, List.getElem_cons_succ, List.getElem_cons_zero, List.setIfInBounds_toArray, List.set_cons_zero, List.set_cons_succ]
          refine wpAnyH_pure (i := 8) (v := ?_) rfl (by kernel_rfl) (by kernel_rfl) (by kernel_rfl) (fun _ _ _ h => h) (by rfl) (by assumption) ?_ ?_
          rotate_left
          · (intro w hSw; (try dsimp only at hSw); go_simp; (try with_reducible rfl))
          simp only [Act.put, List.getElem_toArray, List.getElem_cons_succ, List.getElem_cons_zero, List.setIfInBounds_toArray, List.set_cons_zero, List.set_cons_succ]
          refine wpAnyH_pure (i := 9) (v := ?_) rfl (by kernel_rfl) (by kernel_rfl) (by kernel_rfl) (fun _ _ _ h => h) (by rfl) (by assumption) ?_ ?_
          rotate_left
          · (intro w hSw; (try dsimp only at hSw); go_simp; (try with_reducible rfl))
          simp only [Act.put, List.getElem_toArray, List.getElem_cons_succ, List.getElem_cons_zero, List.setIfInBounds_toArray, List.set_cons_zero, List.set_cons_succ]
          refine wpAnyH_pure (i := 10) (v := ?_) rfl (by kernel_rfl) (by kernel_rfl) (by kernel_rfl) (fun _ _ _ h => h) (by rfl) (by assumption) ?_ ?_
          rotate_left
          · (intro w hSw; (try dsimp only at hSw); go_simp; (try with_reducible rfl))
          simp only [Act.put, List.getElem_toArray, List.getElem_cons_succ, List.getElem_cons_zero, List.setIfInBounds_toArray, List.set_cons_zero, List.set_cons_succ]
          refine wpAnyH_pure (i := 11) (v := ?_) rfl (by kernel_rfl) (by kernel_rfl) (by kernel_rfl) (fun _ _ _ h => h) (by rfl) (by assumption) ?_ ?_
          rotate_left
          · (intro w hSw; (try dsimp only at hSw); go_simp; (try with_reducible rfl))
          simp only [Act.put, List.getElem_toArray, List.getElem_cons_succ, List.getElem_cons_zero, List.setIfInBounds_toArray, List.set_cons_zero, List.set_cons_succ]
          refine wpAnyH_pure (i := 12) (v := ?_) rfl (by kernel_rfl) (by kernel_rfl) (by kernel_rfl) (fun _ _ _ h => h) (by rfl) (by assumption) ?_ ?_
          rotate_left
          · (intro w hSw; (try dsimp only at hSw); go_simp; (try with_reducible rfl))
          simp only [Act.put, List.getElem_toArray, List.getElem_cons_succ, List.getElem_cons_zero, List.setIfInBounds_toArray, List.set_cons_zero, List.set_cons_succ]
          refine wpAnyH_done (by kernel_rfl) ?_ _
          go_wp2
          go_roundw
          case rel => exact ⟨m + 1, by omega, by go_num, Lib.hid (by have := HBE.out; (repeat' (first | (with_reducible exact Below.refl _ _) | (with_reducible assumption) | (with_reducible refine Below.alloc ?_ ?_ _) | (with_reducible refine Below.drew ?_) | (with_reducible refine below_drewN ?_ _) | (with_reducible refine Below.setCell ?_ ?_ _) | (with_reducible refine below_step (by with_reducible assumption) ?_ ?_) | (with_reducible exact Below.size (by with_reducible assumption)) | go_size))), Lib.hid Ha.out, Lib.hid Ht.out, Lib.hid Hx.out, Lib.hid Hy.out⟩
          case measure => simp [intOf]; omega
        · have e3 : decide ((m : Int) + (b : Int) < 61) = false := decide_eq_false (by omega)
          have wrj : IntKind.i64.wrap ((m : Int) + (b : Int)) = (m : Int) + (b : Int) := IntWalk.i64_in _ (by omega)
          have hzE := HBE.out.size
          cases hsb : sb with
          | false =>
            go_wp2
            go_ret
            exact ⟨rfl, HBE.out⟩
          | true =>
            obtain ⟨pA, pS, hpA, hpS, kp1, kp2, kl⟩ := HPK.out hsb
            obtain ⟨P2, hP2⟩ : ∃ P2, P2 = G2 * pS := ⟨_, rfl⟩
            have hPb : 0 ≤ P2 ∧ P2 ≤ 100 * 33521672 := by
              rw [hP2]
              exact ⟨Int.mul_nonneg (by omega) hpS.1, Int.mul_le_mul hGb.2 hpS.2 hpS.1 (by omega)⟩
            have wrP : IntKind.i64.wrap (G2 * pS) = P2 := by rw [← hP2]; exact IntWalk.i64_in _ (by omega)
            have wrp : IntKind.i64.wrap (pA + (b : Int)) = pA + (b : Int) := IntWalk.i64_in _ (by omega)
            rw [← hP2] at kp2
            have KP1 := Lib.hid kp1
            have KP2 := Lib.hid kp2
            have KL := Lib.hid kl
            have car_0 := Ha.out
            have ctr_0 := Ht.out
            clear hP2 hPb hpA hpS kp1 kp2 kl HEQ HBD HGA HGB HPK KS KE1 KE2 KG Hx Hy
            go_wp2_with (first | (refine wpl_load rfl 26 26 _ ba c (0, 0) _ rfl rfl Try.underlying26 rfl (by rw [hsc.out]; exact infoTrace) (car_0) ?_))
            go_wp2_with fail; (refine (KP1.out _).mono ?_; rintro e w10 ⟨rfl, hw10⟩; obtain ⟨hcw10, hfw10, hlw10, hmw10, hnw10⟩ := bcell3 hw10; have hzw10 := hw10.size; (try simp only [World.size_alloc, World.size_setCell, World.size_drew, size_drewN] at hzw10))
            have ca10_0 : w10.heap[ba]? = some (.cells (c) 26 (0, 0)) := block_below0 hw10 (by first | assumption | (repeat (first | assumption | (refine heap_alloc_at ?_; (first | rfl | (simp only [World.size_alloc, World.size_drew, World.size_setCell, size_drewN]; done))) | refine block_alloc ?_)))
            clear car_0
            have ct10_0 : w10.heap[bt]? = some (.cells (s) 26 (0, 0)) := block_below0 hw10 (by first | assumption | (repeat (first | assumption | (refine heap_alloc_at ?_; (first | rfl | (simp only [World.size_alloc, World.size_drew, World.size_setCell, size_drewN]; done))) | refine block_alloc ?_)))
            clear ctr_0
            clear hcw10 hfw10 hlw10 hmw10 hnw10
            go_wp2_with (first | (refine wpl_load rfl 26 26 _ bt s (0, 0) _ rfl rfl Try.underlying26 rfl (by rw [hss.out]; exact infoTrace) (block_alloc ct10_0) ?_) | (refine wpl_load rfl 26 26 _ bt s (0, 0) _ rfl rfl Try.underlying26 rfl (by rw [hss.out]; exact infoTrace) (ct10_0) ?_))
            go_wp2_with fail; (refine (KP2.out _).mono ?_; rintro e w11 ⟨rfl, hw11⟩; obtain ⟨hcw11, hfw11, hlw11, hmw11, hnw11⟩ := bcell3 hw11; have hzw11 := hw11.size; (try simp only [World.size_alloc, World.size_setCell, World.size_drew, size_drewN] at hzw11))
            have ca11_0 : w11.heap[ba]? = some (.cells (c) 26 (0, 0)) := block_below0 hw11 (by first | assumption | (repeat (first | assumption | (refine heap_alloc_at ?_; (first | rfl | (simp only [World.size_alloc, World.size_drew, World.size_setCell, size_drewN]; done))) | refine block_alloc ?_)))
            clear ca10_0
            have ct11_0 : w11.heap[bt]? = some (.cells (s) 26 (0, 0)) := block_below0 hw11 (by first | assumption | (repeat (first | assumption | (refine heap_alloc_at ?_; (first | rfl | (simp only [World.size_alloc, World.size_drew, World.size_setCell, size_drewN]; done))) | refine block_alloc ?_)))
            clear ct10_0
            have cp11_0 : w11.cell? ⟨w10.heap.size, 0, none⟩ = some (.int .i64 (pA)) := (hcw11 (w10.heap.size) (0) (by first | omega | (simp only [World.size_alloc, World.size_drew, World.size_setCell, size_drewN]; omega))).trans (by first | assumption | (simp [go_sem, *]; done)); have cp11_1 : w11.cell? ⟨w10.heap.size, 1, none⟩ = some (.int .i64 (pS)) := (hcw11 (w10.heap.size) (1) (by first | omega | (simp only [World.size_alloc, World.size_drew, World.size_setCell, size_drewN]; omega))).trans (by first | assumption | (simp [go_sem, *]; done)); have op11 : w10.heap.size < w11.heap.size := (by omega)
            clear hcw11 hfw11 hlw11 hmw11 hnw11
            go_wp2_with (first | (refine wpl_load rfl 26 26 _ ba c (0, 0) _ rfl rfl Try.underlying26 rfl (by rw [hsc.out]; exact infoTrace) (block_alloc ca11_0) ?_) | (refine wpl_load rfl 26 26 _ bt s (0, 0) _ rfl rfl Try.underlying26 rfl (by rw [hss.out]; exact infoTrace) (block_alloc ct11_0) ?_))
            go_wp2_with fail; (refine (KL.out _).mono ?_; rintro e w12 ⟨rfl, hw12⟩; obtain ⟨hcw12, hfw12, hlw12, hmw12, hnw12⟩ := bcell3 hw12; have hzw12 := hw12.size; (try simp only [World.size_alloc, World.size_setCell, World.size_drew, size_drewN] at hzw12))
            have ca12_0 : w12.heap[ba]? = some (.cells (c) 26 (0, 0)) := block_below0 hw12 (by first | assumption | (repeat (first | assumption | (refine heap_alloc_at ?_; (first | rfl | (simp only [World.size_alloc, World.size_drew, World.size_setCell, size_drewN]; done))) | refine block_alloc ?_)))
            clear ca11_0
            have ct12_0 : w12.heap[bt]? = some (.cells (s) 26 (0, 0)) := block_below0 hw12 (by first | assumption | (repeat (first | assumption | (refine heap_alloc_at ?_; (first | rfl | (simp only [World.size_alloc, World.size_drew, World.size_setCell, size_drewN]; done))) | refine block_alloc ?_)))
            clear ct11_0
            have cp12_0 : w12.cell? ⟨w10.heap.size, 0, none⟩ = some (.int .i64 (pA)) := (hcw12 (w10.heap.size) (0) (by first | omega | (simp only [World.size_alloc, World.size_drew, World.size_setCell, size_drewN]; omega))).trans (by first | assumption | (simp [go_sem, *]; done)); have cp12_1 : w12.cell? ⟨w10.heap.size, 1, none⟩ = some (.int .i64 (pS)) := (hcw12 (w10.heap.size) (1) (by first | omega | (simp only [World.size_alloc, World.size_drew, World.size_setCell, size_drewN]; omega))).trans (by first | assumption | (simp [go_sem, *]; done)); have op12 : w10.heap.size < w12.heap.size := (by omega)
            clear cp11_0 cp11_1
            have cq12_0 : w12.cell? ⟨w11.heap.size, 0, none⟩ = some (.int .i64 (pA + (b : Int))) := (hcw12 (w11.heap.size) (0) (by first | omega | (simp only [World.size_alloc, World.size_drew, World.size_setCell, size_drewN]; omega))).trans (by first | assumption | (simp [go_sem, *]; done)); have cq12_1 : w12.cell? ⟨w11.heap.size, 1, none⟩ = some (.int .i64 (P2)) := (hcw12 (w11.heap.size) (1) (by first | omega | (simp only [World.size_alloc, World.size_drew, World.size_setCell, size_drewN]; omega))).trans (by first | assumption | (simp [go_sem, *]; done)); have oq12 : w11.heap.size < w12.heap.size := (by omega)
            clear hcw12 hfw12 hlw12 hmw12 hnw12
            go_wp2
            go_ret
            exact ⟨rfl, by have := HBE.out; (repeat' (first | (with_reducible exact Below.refl _ _) | (with_reducible assumption) | (with_reducible refine Below.alloc ?_ ?_ _) | (with_reducible refine Below.drew ?_) | (with_reducible refine below_drewN ?_ _) | (with_reducible refine Below.setCell ?_ ?_ _) | (with_reducible refine below_step (by with_reducible assumption) ?_ ?_) | (with_reducible exact Below.size (by with_reducible assumption)) | go_size))⟩
theorem topDel_any (w : World) (v0 : Value) (x : Nat → Int) (n : Nat) (hr0 : Hid (IRow w v0 x n)) (b g : Int) :
    Calls Try.prog 20 #[v0, .int .i64 b, .int .i64 g] w fun e w' => e = .returned (.bool true) ∧ Below w.heap.size w w' := by
  by_cases h : n ≤ 20 ∧ inB b 0 20 = true ∧ inB g 1 10 = true
  · obtain ⟨hn, hb, hg⟩ := h
    have b1 : 0 ≤ b ∧ b ≤ 20 := of_decide_eq_true hb
    have g1 : 1 ≤ g ∧ g ≤ 10 := of_decide_eq_true hg
    obtain ⟨b2, rfl⟩ : ∃ m : Nat, b = (m : Int) := ⟨b.toNat, by omega⟩
    exact topDel_in v0 x n b2 g w hr0 hn (by omega) g1
  · exact topDel_out v0 x n b g w hr0 h
end Go.Proofs.Ythgnemkfaiejbaa
