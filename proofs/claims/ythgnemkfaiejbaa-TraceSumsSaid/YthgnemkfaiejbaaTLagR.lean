/-
  LAGS, as the reference finds them.
-/
import Derived.Test.YthgnemkfaiejbaaTMade
import Derived.Test.YthgnemkfaiejbaaTLag
set_option linter.unusedVariables false
set_option linter.unusedSimpArgs false
namespace Go.Proofs.Ythgnemkfaiejbaa
open Go.RowKit

theorem irow64 {w : World} {v : Value} {x : Nat → Int} (h : IRow w v x 64) : ∃ b o c, v = .slice (some ⟨b, o, none⟩) 64 c ∧ (64 ≤ c ∧ c ≤ maxLen) ∧ b < w.heap.size ∧ ∀ i, i < 64 → w.cell? ⟨b, o + i, none⟩ = some (.int .i64 (x i)) := by
  obtain ⟨q, c, rfl, hc, h⟩ := h
  rcases h with h | ⟨b, o, rfl, hb, hx⟩
  · omega
  · exact ⟨b, o, c, rfl, hc, hb, hx⟩
set_option maxRecDepth 100000 in
set_option maxHeartbeats 2000000 in
theorem correlation_any (va vb : Value) (x y : Nat → Int) (lag : Int) (w : World) (ha : Hid (IRow w va x 64)) (hb : Hid (IRow w vb y 64)) (hx : Hid (∀ k, k < 64 → (x k).natAbs ≤ 2047)) (hy : Hid (∀ k, k < 64 → (y k).natAbs ≤ 2047)) (hl : lag.natAbs ≤ 1000) :
    Calls Try.prog 143 #[va, vb, .int .i64 lag] w fun e w' => e = .returned (.int .i64 (lk x y lag 64)) ∧ Below w.heap.size w w' := by
  obtain ⟨b1, o1, c1, rfl, hc1, hb1, h1⟩ := irow64 ha.out
  obtain ⟨b2, o2, c2, rfl, hc2, hb2, h2⟩ := irow64 hb.out
  have H1 := Lib.hid h1
  have H2 := Lib.hid h2
  have HS := Lib.hid (fun k (h : k ≤ 64) => lk_bd hx.out hy.out lag k h)
  clear ha hb h1 h2
  unfold maxLen at hc1 hc2
  go_enter Try.func143, Try.ntmps143
  go_wp2
  go_loopw [7, 8] (fun s i wr => ∃ k : Nat, k ≤ 64 ∧ i = .int .i64 (k : Int) ∧ s = .int .i64 (lk x y lag k) ∧ Below w.heap.size w wr) (fun _ i _ => 64 - (intOf i).toNat)
  case atStart => exact ⟨0, Nat.zero_le _, rfl, rfl, Below.refl _ _⟩
  case round =>
    obtain ⟨k, hk, rfl, rfl, hB⟩ := hrel
    by_cases hlt : k < 64
    · have hbd := HS.out k hk
      have e0 : (0 : Int) ≤ (k : Int) := by omega
      have e1 : (k : Int) < 64 := by omega
      have w1' : IntKind.i64.wrap ((k : Int) + lag) = (k : Int) + lag := IntWalk.i64_in _ (by omega)
      have HB := Lib.hid hB
      by_cases hin : 0 ≤ (k : Int) + lag ∧ (k : Int) + lag ≤ 63
      · obtain ⟨j, hj⟩ : ∃ j : Nat, (k : Int) + lag = j := ⟨((k : Int) + lag).toNat, by omega⟩
        have hst : lk x y lag (k + 1) = lk x y lag k + x k * y j := by
          show lk x y lag k + _ = _
          rw [if_pos hin, hj]; rfl
        have hI : inB (j : Int) 0 63 = true := by unfold inB; exact decide_eq_true (by omega)
        have hjl : j < 64 := by omega
        have d0 := (hB.cell (p := ⟨b1, o1 + k, none⟩) hb1).trans (H1.out k hlt)
        have d1 := (hB.cell (p := ⟨b2, o2 + j, none⟩) hb2).trans (H2.out j hjl)
        have pb := prod_bd (hx.out k hlt) (hy.out j hjl)
        have wr2 : IntKind.i64.wrap (x k * y j) = x k * y j := IntWalk.i64_in _ (by omega)
        have wr3 : IntKind.i64.wrap (lk x y lag k + x k * y j) = lk x y lag k + x k * y j := IntWalk.i64_in _ (by omega)
        have w1'' : IntKind.i64.wrap ((k : Int) + lag) = (j : Int) := w1'.trans hj
        have HST := Lib.hid hst
        have q0 : (0 : Int) ≤ (j : Int) := by omega
        have q1 : (j : Int) < 64 := by omega
        clear w1' hst hB hin hl hj
        generalize x k = xk at *
        generalize y j = yj at *
        generalize lk x y lag k = s at *
        go_wp2_with fail
        refine (bwithin_any _ _ _ _).mono ?_
        rintro e w' ⟨rfl, rfl⟩
        rw [hI]
        go_wp2
        refine wp_region_held_drew (S := fun w' => w'.cell? ⟨b1, o1 + k, none⟩ = some (.int .i64 (xk)) ∧ w'.cell? ⟨b2, o2 + j, none⟩ = some (.int .i64 (yj))) (by kernel_rfl) ?_ (fun hH1 => ?_)
        · (first | assumption | (refine ⟨?_, ?_⟩ <;> assumption) | (go_keep; done) | (simp [*, go_sem]; done))
        refine wpAnyH_pure (i := 0) (v := ?_) rfl (by kernel_rfl) (by kernel_rfl) (by kernel_rfl) (fun _ _ _ h => h) (by rfl) (by assumption) ?_ ?_
        rotate_left
        · (intro w hSw; (try dsimp only at hSw); go_simp; (try with_reducible rfl))
        simp only [Act.put, List.getElem_toArray, List.getElem_cons_succ, List.getElem_cons_zero, List.setIfInBounds_toArray, List.set_cons_zero, List.set_cons_succ]
        refine wpAnyH_pure (i := 1) (v := ?_) rfl (by kernel_rfl) (by kernel_rfl) (by kernel_rfl) (fun _ _ _ h => h) (by rfl) (by assumption) ?_ ?_
        rotate_left
        · (intro w hSw; (try dsimp only at hSw); go_simp; (try with_reducible rfl))
        simp only [Act.put, List.getElem_toArray, List.getElem_cons_succ, List.getElem_cons_zero, List.setIfInBounds_toArray, List.set_cons_zero, List.set_cons_succ]
        refine wpAnyH_pure (i := 2) (v := ?_) rfl (by kernel_rfl) (by kernel_rfl) (by kernel_rfl) (fun _ _ _ h => h) (by rfl) (by assumption) ?_ ?_
        rotate_left
        · (intro w hSw; (try dsimp only at hSw); go_simp; (try with_reducible rfl))
        simp only [Act.put, List.getElem_toArray, List.getElem_cons_succ, List.getElem_cons_zero, List.setIfInBounds_toArray, List.set_cons_zero, List.set_cons_succ]
        refine wpAnyH_pure (i := 3) (v := ?_) rfl (by kernel_rfl) (by kernel_rfl) (by kernel_rfl) (fun _ _ _ h => h) (by rfl) (by assumption) ?_ ?_
        rotate_left
        · (intro w hSw; (try dsimp only at hSw); go_simp; (try with_reducible rfl))
        simp only [Act.put, List.getElem_toArray, List.getElem_cons_succ, List.getElem_cons_zero, List.setIfInBounds_toArray, List.set_cons_zero, List.set_cons_succ]
        refine wpAnyH_pure (i := 4) (v := ?_) rfl (by kernel_rfl) (by kernel_rfl) (by kernel_rfl) (fun _ _ _ h => h) (by rfl) (by assumption) ?_ ?_
        rotate_left
        · (intro w hSw; (try dsimp only at hSw); go_simp; (try with_reducible rfl))
        simp only [Act.put, List.getElem_toArray, List.getElem_cons_succ, List.getElem_cons_zero, List.setIfInBounds_toArray, List.set_cons_zero, List.set_cons_succ]
        refine wpAnyH_pure (i := 5) (v := ?_) rfl (by kernel_rfl) (by kernel_rfl) (by kernel_rfl) (fun _ _ _ h => h) (by rfl) (by assumption) ?_ ?_
        rotate_left
        · (intro w hSw; (try dsimp only at hSw); go_simp; (try with_reducible rfl))
        simp only [Act.put, List.getElem_toArray, List.getElem_cons_succ, List.getElem_cons_zero, List.setIfInBounds_toArray, List.set_cons_zero, List.set_cons_succ]
        refine wpAnyH_pure (i := 6) (v := ?_) rfl (by kernel_rfl) (by kernel_rfl) (by kernel_rfl) (fun _ _ _ h => h) (by rfl) (by assumption) ?_ ?_
        rotate_left
        · (intro w hSw; (try dsimp only at hSw); go_simp; (try with_reducible rfl))
        simp only [Act.put, List.getElem_toArray, List.getElem_cons_succ, List.getElem_cons_zero, List.setIfInBounds_toArray, List.set_cons_zero, List.set_cons_succ]
        refine wpAnyH_pure (i := 7) (v := ?_) rfl (by kernel_rfl) (by kernel_rfl) (by kernel_rfl) (fun _ _ _ h => h) (by rfl) (by assumption) ?_ ?_
        rotate_left
        · (intro w hSw; (try dsimp only at hSw); go_simp; (try with_reducible rfl))
        simp only [Act.put, List.getElem_toArray, List.getElem_cons_succ, List.getElem_cons_zero, List.setIfInBounds_toArray, List.set_cons_zero, List.set_cons_succ]
        refine wpAnyH_pure (i := 8) (v := ?_) rfl (by kernel_rfl) (by kernel_rfl) (by kernel_rfl) (fun _ _ _ h => h) (by rfl) (by assumption) ?_ ?_
        rotate_left
        · (intro w hSw; (try dsimp only at hSw); go_simp; (try with_reducible rfl))
        simp only [Act.put, List.getElem_toArray, List.getElem_cons_succ, List.getElem_cons_zero, List.setIfInBounds_toArray, List.set_cons_zero, List.set_cons_succ]
        refine wpAnyH_pure (i := 9) (v := ?_) rfl (by kernel_rfl) (by kernel_rfl) (by kernel_rfl) (fun _ _ _ h => h) (by rfl) (by assumption) ?_ ?_
        rotate_left
        · (intro w hSw; (try dsimp only at hSw); go_simp; (try with_reducible rfl))
        simp only [Act.put, List.getElem_toArray, List.getElem_cons_succ, List.getElem_cons_zero, List.setIfInBounds_toArray, List.set_cons_zero, List.set_cons_succ]
        refine wpAnyH_pure (i := 10) (v := ?_) rfl (by kernel_rfl) (by kernel_rfl) (by kernel_rfl) (fun _ _ _ h => h) (by rfl) (by assumption) ?_ ?_
        rotate_left
        · (intro w hSw; (try dsimp only at hSw); go_simp; (try with_reducible rfl))
        simp only [Act.put, List.getElem_toArray, List.getElem_cons_succ, List.getElem_cons_zero, List.setIfInBounds_toArray, List.set_cons_zero, List.set_cons_succ]
        refine wpAnyH_pure (i := 11) (v := ?_) rfl (by kernel_rfl) (by kernel_rfl) (by kernel_rfl) (fun _ _ _ h => h) (by rfl) (by assumption) ?_ ?_
        rotate_left
        · (intro w hSw; (try dsimp only at hSw); go_simp; (try with_reducible rfl))
        simp only [Act.put, List.getElem_toArray, List.getElem_cons_succ, List.getElem_cons_zero, List.setIfInBounds_toArray, List.set_cons_zero, List.set_cons_succ]
        refine wpAnyH_pure (i := 12) (v := ?_) rfl (by kernel_rfl) (by kernel_rfl) (by kernel_rfl) (fun _ _ _ h => h) (by rfl) (by assumption) ?_ ?_
        rotate_left
        · (intro w hSw; (try dsimp only at hSw); go_simp; (try with_reducible rfl))
        simp only [Act.put, List.getElem_toArray, List.getElem_cons_succ, List.getElem_cons_zero, List.setIfInBounds_toArray, List.set_cons_zero, List.set_cons_succ]
        refine wpAnyH_pure (i := 13) (v := ?_) rfl (by kernel_rfl) (by kernel_rfl) (by kernel_rfl) (fun _ _ _ h => h) (by rfl) (by assumption) ?_ ?_
        rotate_left
        · (intro w hSw; (try dsimp only at hSw); go_simp; (try with_reducible rfl))
        simp only [Act.put, List.getElem_toArray, List.getElem_cons_succ, List.getElem_cons_zero, List.setIfInBounds_toArray, List.set_cons_zero, List.set_cons_succ]
        refine wpAnyH_done (by kernel_rfl) ?_ _
        clear w1'' wr2 wr3
        go_wp2
        go_roundw
        case rel => exact ⟨k + 1, by omega, by go_num, by rw [HST.out], by have := HB.out; (repeat' (first | (with_reducible exact Below.refl _ _) | (with_reducible assumption) | (with_reducible refine Below.alloc ?_ ?_ _) | (with_reducible refine Below.drew ?_) | (with_reducible refine below_drewN ?_ _) | (with_reducible refine Below.setCell ?_ ?_ _) | (with_reducible refine below_step (by with_reducible assumption) ?_ ?_) | (with_reducible exact Below.size (by with_reducible assumption)) | go_size))⟩
        case measure => simp [intOf]; omega
      · have hst : lk x y lag (k + 1) = lk x y lag k := by
          show lk x y lag k + _ = _
          rw [if_neg hin]; omega
        have hI : inB ((k : Int) + lag) 0 63 = false := by unfold inB; exact decide_eq_false hin
        have HST := Lib.hid hst
        clear hst hB hin hl
        generalize lk x y lag k = s at *
        go_wp2_with fail
        refine (bwithin_any _ _ _ _).mono ?_
        rintro e w' ⟨rfl, rfl⟩
        rw [hI]
        clear w1'
        go_wp2
        go_roundw
        case rel => exact ⟨k + 1, by omega, by go_num, by rw [HST.out], HB.out⟩
        case measure => simp [intOf]; omega
    · have ek : k = 64 := by omega
      subst ek
      go_wp2
      go_ret
      exact ⟨rfl, hB⟩
set_option maxRecDepth 100000 in
set_option maxHeartbeats 4000000 in
theorem lagOfR_any (x y : Nat → Int) (m : Nat) (w : World) (hx : Hid (∀ k, k < 64 → (x k).natAbs ≤ 2047)) (hy : Hid (∀ k, k < 64 → (y k).natAbs ≤ 2047)) (hm : m ≤ 32) :
    Calls Try.prog 71 #[.agg (tC x), .agg (tC y), .int .i64 (m : Int)] w fun e w' => e = .returned (.int .i64 (bl (fun l => lk x y l 64) m).1) ∧ Below w.heap.size w w' := by
  have K1 := Lib.hid (fun W => ints_any x W (Lib.hid fun k hk => by have := hx.out k hk; omega))
  have K2 := Lib.hid (fun W => ints_any y W (Lib.hid fun k hk => by have := hy.out k hk; omega))
  have KL := Lib.hid (fun va vb l W ha hb (hl : Int.natAbs l ≤ 1000) => correlation_any va vb x y l W ha hb hx hy hl)
  have hC := Lib.hid (show (Try.prog.info? 26).map (·.size) = some (tC x).size by rw [tC_size]; exact infoTrace)
  have hD := Lib.hid (show (Try.prog.info? 26).map (·.size) = some (tC y).size by rw [tC_size]; exact infoTrace)
  change Hid (∀ va vb l W, Hid (IRow W va x 64) → Hid (IRow W vb y 64) → Int.natAbs l ≤ 1000 → Calls Try.prog 143 _ _ fun e w' => e = .returned (.int .i64 ((fun l => lk x y l 64) l)) ∧ _) at KL
  generalize (fun l => lk x y l 64) = L at *
  unfold IntsPost at K1 K2
  generalize tC x = c at *
  generalize tC y = d at *
  go_enter Try.func71, Try.ntmps71
  go_wp2
  refine wp_region_held_drew (S := fun w' => w'.heap[w.heap.size]? = some (.cells (c) 26 (0, 0)) ∧ w'.heap[w.heap.size + 1]? = some (.cells (d) 26 (0, 0))) (by kernel_rfl) ?_ (fun hH1 => ?_)
  · (first | assumption | (refine ⟨?_, ?_⟩ <;> (first | assumption | ((repeat (first | assumption | (refine heap_alloc_at ?_; (first | rfl | (simp only [World.size_alloc, World.size_drew, World.size_setCell, size_drewN]; done))) | refine block_alloc ?_ | refine Buf.alloc ?_ _ | refine Buf.drew ?_ | refine Buf.setCell ?_ (by omega) _ _)); done) | (go_keep; done) | (simp [*, go_sem]; done))))
  refine wpAnyH_pure (i := 0) (v := ?_) rfl (by kernel_rfl) (by kernel_rfl) (by kernel_rfl) (fun _ _ _ h => h) (by rfl) (by assumption) ?_ ?_
  rotate_left
  · (intro w hSw; (try dsimp only at hSw); refine exec_load_arr 26 (p := .tmp 3) ?_ ?_ Try.underlying26 (hC.out) (by repeat (first | exact hSw | exact hSw.1 | replace hSw := hSw.2)) <;> rfl)
  simp only [Act.put, List.getElem_toArray, List.getElem_cons_succ, List.getElem_cons_zero, List.setIfInBounds_toArray, List.set_cons_zero, List.set_cons_succ]
  refine wpAnyH_pure (i := 2) (v := ?_) rfl (by kernel_rfl) (by kernel_rfl) (by kernel_rfl) (fun _ _ _ h => h) (by rfl) (by assumption) ?_ ?_
  rotate_left
  · (intro w hSw; (try dsimp only at hSw); refine exec_load_arr 26 (p := .tmp 4) ?_ ?_ Try.underlying26 (hD.out) (by repeat (first | exact hSw | exact hSw.1 | replace hSw := hSw.2)) <;> rfl)
  simp only [Act.put, List.getElem_toArray, List.getElem_cons_succ, List.getElem_cons_zero, List.setIfInBounds_toArray, List.set_cons_zero, List.set_cons_succ]
  refine wpAnyH_ready (rs := [1]) (by kernel_rfl) (by simp) ?_
  refine AllReadyH.cons rfl (fun Kq hKq => ?_) AllReadyH.nil
  go_simp
  refine (K1.out _).mono ?_
  rintro e w1 ⟨va, rfl, hoa, hw1⟩
  have ca1 := block_below0 hw1 hH1.1
  have cb1 := block_below0 hw1 hH1.2
  have hra := Lib.hid (irow_own hoa)
  have hB1 : Below w.heap.size w w1 := by (repeat' (first | (with_reducible exact Below.refl _ _) | (with_reducible assumption) | (with_reducible refine Below.alloc ?_ ?_ _) | (with_reducible refine Below.drew ?_) | (with_reducible refine below_drewN ?_ _) | (with_reducible refine Below.setCell ?_ ?_ _) | (with_reducible refine below_step (by with_reducible assumption) ?_ ?_) | (with_reducible exact Below.size (by with_reducible assumption)) | go_size))
  have hz1 := hw1.size
  clear hw1 hoa
  refine hKq.out _ _ ?_ (fun hH2 => ?_)
  · (first | assumption | (refine ⟨?_, ?_⟩ <;> (first | assumption | ((repeat (first | assumption | (refine heap_alloc_at ?_; (first | rfl | (simp only [World.size_alloc, World.size_drew, World.size_setCell, size_drewN]; done))) | refine block_alloc ?_ | refine Buf.alloc ?_ _ | refine Buf.drew ?_ | refine Buf.setCell ?_ (by omega) _ _)); done) | (go_keep; done) | (simp [*, go_sem]; done))))
  clear hKq Kq
  clear hH1
  refine wpAnyH_ready (rs := [3]) (by kernel_rfl) (by simp) ?_
  refine AllReadyH.cons rfl (fun Kq hKq => ?_) AllReadyH.nil
  go_simp
  refine (K2.out _).mono ?_
  rintro e w2 ⟨vb, rfl, hob, hw2⟩
  have ca2 := block_below0 hw2 ca1
  have cb2 := block_below0 hw2 cb1
  have hra2 := Lib.hid (hra.out.below hw2)
  have hrb2 := Lib.hid (irow_own hob)
  have hB2 := Lib.hid (below_step hw2 hB1 hB1.size)
  clear hw2 hob hB1 hra
  refine hKq.out _ _ ?_ (fun hH3 => ?_)
  · (first | assumption | (refine ⟨?_, ?_⟩ <;> (first | assumption | ((repeat (first | assumption | (refine heap_alloc_at ?_; (first | rfl | (simp only [World.size_alloc, World.size_drew, World.size_setCell, size_drewN]; done))) | refine block_alloc ?_ | refine Buf.alloc ?_ _ | refine Buf.drew ?_ | refine Buf.setCell ?_ (by omega) _ _)); done) | (go_keep; done) | (simp [*, go_sem]; done))))
  clear hKq Kq
  clear hH2
  refine wpAnyH_pure (i := 4) (v := ?_) rfl (by kernel_rfl) (by kernel_rfl) (by kernel_rfl) (fun _ _ _ h => h) (by rfl) (by assumption) ?_ ?_
  rotate_left
  · (intro w hSw; (try dsimp only at hSw); go_simp; (try with_reducible rfl))
  simp only [Act.put, List.getElem_toArray, List.getElem_cons_succ, List.getElem_cons_zero, List.setIfInBounds_toArray, List.set_cons_zero, List.set_cons_succ]
  refine wpAnyH_pure (i := 5) (v := ?_) rfl (by kernel_rfl) (by kernel_rfl) (by kernel_rfl) (fun _ _ _ h => h) (by rfl) (by assumption) ?_ ?_
  rotate_left
  · (intro w hSw; (try dsimp only at hSw); go_simp; (try with_reducible rfl))
  simp only [Act.put, List.getElem_toArray, List.getElem_cons_succ, List.getElem_cons_zero, List.setIfInBounds_toArray, List.set_cons_zero, List.set_cons_succ]
  refine wpAnyH_done (by kernel_rfl) ?_ _
  clear ca2 cb2
  have hz2 := hB2.out.size
  go_wp2_with fail
  refine (KL.out va vb 0 _ hra2 hrb2 (by decide)).mono ?_
  rintro e w3 ⟨rfl, hw3⟩
  have hra3 := Lib.hid (hra2.out.below hw3)
  have hrb3 := Lib.hid (hrb2.out.below hw3)
  have hB3 := Lib.hid (below_step hw3 hB2.out hB2.out.size)
  clear hw3 hra2 hrb2 hB2 hz2
  go_wp2
  go_loopw [9, 10, 11] (fun b g i wr => ∃ s : Nat, s ≤ m ∧ i = .int .i64 ((s : Int) + 1) ∧ b = .int .i64 (bl L s).1 ∧ g = .int .i64 (bl L s).2 ∧ Hid (Below w.heap.size w wr) ∧ Hid (IRow wr va x 64) ∧ Hid (IRow wr vb y 64)) (fun _ _ i _ => m + 1 - (intOf i).toNat)
  case atStart => exact ⟨0, Nat.zero_le _, rfl, rfl, rfl, hB3, Lib.hid hra3.out, Lib.hid hrb3.out⟩
  case round =>
    clear hra3 hrb3 hB3
    obtain ⟨s, hs, rfl, rfl, rfl, hB, hra, hrb⟩ := hrel
    by_cases hlt : s < m
    · have e1 : ((s : Int) + 1) ≤ (m : Int) := by omega
      have w1' : IntKind.i64.wrap (-((s : Int) + 1)) = -((s : Int) + 1) := IntWalk.i64_in _ (by omega)
      have hst := bl_step L s
      simp only [Int.natCast_add, Int.cast_ofNat_Int] at hst
      have HST := Lib.hid hst
      clear hst
      generalize hbl : bl L s = q0 at *
      clear hbl
      obtain ⟨bb, gg⟩ := q0
      simp only at HST
      have KA := Lib.hid (fun W h1 h2 => KL.out va vb (-((s : Int) + 1)) W h1 h2 (by omega))
      have KB := Lib.hid (fun W h1 h2 => KL.out va vb ((s : Int) + 1) W h1 h2 (by omega))
      generalize L (-((s : Int) + 1)) = l1 at *
      generalize L ((s : Int) + 1) = l2 at *
      by_cases h1 : l1 > gg
      · by_cases h2 : l2 > l1
        · have HN := Lib.hid (show bl L (s + 1) = (((s : Int) + 1), l2) by rw [HST.out]; simp [h1, h2])
          have hd1 : decide (gg < l1) = true := decide_eq_true (by omega)
          have hd2 : decide (l1 < l2) = true := decide_eq_true (by omega)
          clear h1 h2 HST
          go_wp2_with fail
          refine (KA.out _ hra hrb).mono ?_
          rintro e w4 ⟨rfl, hw4⟩
          have hra4 := Lib.hid (hra.out.below hw4)
          have hrb4 := Lib.hid (hrb.out.below hw4)
          have hB4 := Lib.hid (below_step hw4 hB.out hB.out.size)
          clear hw4 hra hrb hB
          go_wp2_with fail
          refine (KB.out _ hra4 hrb4).mono ?_
          rintro e w5 ⟨rfl, hw5⟩
          have hra5 := Lib.hid (hra4.out.below hw5)
          have hrb5 := Lib.hid (hrb4.out.below hw5)
          have hB5 := Lib.hid (below_step hw5 hB4.out hB4.out.size)
          clear hw5 hra4 hrb4 hB4
          go_wp2
          go_roundw
          case rel => exact ⟨s + 1, by omega, by go_num, by rw [HN.out], by rw [HN.out], hB5, hra5, hrb5⟩
          case measure => simp [intOf]; omega
        · have HN := Lib.hid (show bl L (s + 1) = ((-((s : Int) + 1)), l1) by rw [HST.out]; simp [h1, h2])
          have hd1 : decide (gg < l1) = true := decide_eq_true (by omega)
          have hd2 : decide (l1 < l2) = false := decide_eq_false (by omega)
          clear h1 h2 HST
          go_wp2_with fail
          refine (KA.out _ hra hrb).mono ?_
          rintro e w4 ⟨rfl, hw4⟩
          have hra4 := Lib.hid (hra.out.below hw4)
          have hrb4 := Lib.hid (hrb.out.below hw4)
          have hB4 := Lib.hid (below_step hw4 hB.out hB.out.size)
          clear hw4 hra hrb hB
          go_wp2_with fail
          refine (KB.out _ hra4 hrb4).mono ?_
          rintro e w5 ⟨rfl, hw5⟩
          have hra5 := Lib.hid (hra4.out.below hw5)
          have hrb5 := Lib.hid (hrb4.out.below hw5)
          have hB5 := Lib.hid (below_step hw5 hB4.out hB4.out.size)
          clear hw5 hra4 hrb4 hB4
          go_wp2
          go_roundw
          case rel => exact ⟨s + 1, by omega, by go_num, by rw [HN.out], by rw [HN.out], hB5, hra5, hrb5⟩
          case measure => simp [intOf]; omega
      · by_cases h2 : l2 > gg
        · have HN := Lib.hid (show bl L (s + 1) = (((s : Int) + 1), l2) by rw [HST.out]; simp [h1, h2])
          have hd1 : decide (gg < l1) = false := decide_eq_false (by omega)
          have hd2 : decide (gg < l2) = true := decide_eq_true (by omega)
          clear h1 h2 HST
          go_wp2_with fail
          refine (KA.out _ hra hrb).mono ?_
          rintro e w4 ⟨rfl, hw4⟩
          have hra4 := Lib.hid (hra.out.below hw4)
          have hrb4 := Lib.hid (hrb.out.below hw4)
          have hB4 := Lib.hid (below_step hw4 hB.out hB.out.size)
          clear hw4 hra hrb hB
          go_wp2_with fail
          refine (KB.out _ hra4 hrb4).mono ?_
          rintro e w5 ⟨rfl, hw5⟩
          have hra5 := Lib.hid (hra4.out.below hw5)
          have hrb5 := Lib.hid (hrb4.out.below hw5)
          have hB5 := Lib.hid (below_step hw5 hB4.out hB4.out.size)
          clear hw5 hra4 hrb4 hB4
          go_wp2
          go_roundw
          case rel => exact ⟨s + 1, by omega, by go_num, by rw [HN.out], by rw [HN.out], hB5, hra5, hrb5⟩
          case measure => simp [intOf]; omega
        · have HN := Lib.hid (show bl L (s + 1) = (bb, gg) by rw [HST.out]; simp [h1, h2])
          have hd1 : decide (gg < l1) = false := decide_eq_false (by omega)
          have hd2 : decide (gg < l2) = false := decide_eq_false (by omega)
          clear h1 h2 HST
          go_wp2_with fail
          refine (KA.out _ hra hrb).mono ?_
          rintro e w4 ⟨rfl, hw4⟩
          have hra4 := Lib.hid (hra.out.below hw4)
          have hrb4 := Lib.hid (hrb.out.below hw4)
          have hB4 := Lib.hid (below_step hw4 hB.out hB.out.size)
          clear hw4 hra hrb hB
          go_wp2_with fail
          refine (KB.out _ hra4 hrb4).mono ?_
          rintro e w5 ⟨rfl, hw5⟩
          have hra5 := Lib.hid (hra4.out.below hw5)
          have hrb5 := Lib.hid (hrb4.out.below hw5)
          have hB5 := Lib.hid (below_step hw5 hB4.out hB4.out.size)
          clear hw5 hra4 hrb4 hB4
          go_wp2
          go_roundw
          case rel => exact ⟨s + 1, by omega, by go_num, by rw [HN.out], by rw [HN.out], hB5, hra5, hrb5⟩
          case measure => simp [intOf]; omega
    · obtain rfl : s = m := by omega
      have e1 : ¬ ((s : Int) + 1) ≤ (s : Int) := by omega
      go_wp2
      go_ret
      exact ⟨rfl, hB.out⟩
end Go.Proofs.Ythgnemkfaiejbaa
