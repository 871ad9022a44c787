/-
  GAINED, as the reference has it.
-/
import Derived.Test.YthgnemkfaiejbaaTSumA
import Derived.Test.YthgnemkfaiejbaaTGained
import Derived.Test.YthgnemkfaiejbaaTTimesR
import Derived.Deep.Cut
set_option linter.unusedVariables false
set_option linter.unusedSimpArgs false
namespace Go.Proofs.Ythgnemkfaiejbaa
open Go.RowKit

/-- a row whose first are gained already -/
def mixG (x : Nat → Int) (num den : Int) (k : Nat) : Nat → Int := fun i => if i < k then gC (x i) num den else x i
theorem mixG_step (x : Nat → Int) (num den : Int) (k n : Nat) : (iL (mixG x num den k) n).set k (.int .i64 (gC (x k) num den)) = iL (mixG x num den (k + 1)) n := iL_set _ _ _ _ (fun i => by
  unfold mixG
  by_cases e : i = k
  · subst e; rw [if_pos rfl, if_pos (by omega)]
  · rw [if_neg e]
    by_cases c : i < k
    · rw [if_pos c, if_pos (by omega)]
    · rw [if_neg c, if_neg (by omega)]) _
theorem mixG_at (x : Nat → Int) (num den : Int) (k : Nat) : mixG x num den k k = x k := by unfold mixG; rw [if_neg (by omega)]
theorem mixG_zero (x : Nat → Int) (num den : Int) (n : Nat) : iL (mixG x num den 0) n = iL x n := by
  unfold iL mixG
  simp
theorem gC_R (n num den : Int) : max (-2047) (min 2047 (gW n num den)) = gC n num den := by unfold gC; omega
set_option maxRecDepth 100000 in
set_option maxHeartbeats 4000000 in
theorem gainedR_any (x : Nat → Int) (num den : Int) (w : World) (hx : Hid (∀ k, k < 64 → (x k).natAbs ≤ 2047)) (h1 : 0 ≤ num ∧ num ≤ 1000) (h2 : 1 ≤ den ∧ den ≤ 1000) :
    Calls Try.prog 58 #[.agg (tC x), .agg #[.int .i64 num, .int .i64 den]] w fun e w' => e = .returned (.tuple #[.agg (tC fun k => gC (x k) num den), .int .i64 (gK x num den 64)]) ∧ Below w.heap.size w w' := by
  have K1 := Lib.hid (fun W => ints_any x W (Lib.hid fun k hk => by have := hx.out k hk; omega))
  have KT := Lib.hid (fun (u : Value) W h => traceR_any u (mixG x num den 64) 64 W h)
  rw [show tC (rz (mixG x num den 64) 64) = tC (fun k => gC (x k) num den) from tC_congr fun i hi => by unfold rz mixG; rw [if_pos hi, if_pos hi]] at KT
  have KR : Hid (∀ k, k < 64 → ∀ W, Calls Try.prog 126 #[.int .i64 (x k * num), .int .i64 den] W fun e w' => e = .returned (.int .i64 (gW (x k) num den)) ∧ W = w') :=
    Lib.hid fun k hk W => by
      have := mul_bd (hx.out k hk) h1
      exact roundedR_any (x k * num) den W h2.1 (by omega) (by omega) (by omega)
  have HM := Lib.hid (fun k (hk : k < 64) => mul_bd (hx.out k hk) h1)
  have hC := Lib.hid (show (Try.prog.info? 26).map (·.size) = some (tC x).size by rw [tC_size]; exact infoTrace)
  have HZT := Lib.hid zero_trace
  have hs0 := Lib.hid (tC_size fun _ => 0)
  have ho0 := Lib.hid (tC_one fun _ => 0)
  have hs1 := Lib.hid (tC_size fun k => gC (x k) num den)
  have ho1 := Lib.hid (tC_one fun k => gC (x k) num den)
  have HQ := Lib.hid (fun k => gK_bd x num den k)
  unfold IntsPost at K1
  generalize tC x = c at *
  generalize (tC fun k => gC (x k) num den) = s at *
  generalize (tC fun _ => 0) = z at *
  go_enter Try.func58, Try.ntmps58
  go_wp2_with (first | (refine wpl_alloc rfl 26 z rfl (HZT.out _) ?_) | (refine wpl_load rfl 26 26 _ w.heap.size c (0, 0) _ rfl rfl Try.underlying26 rfl hC.out (block_alloc (block_alloc (heap_alloc_last w _))) ?_))
  refine (K1.out _).mono ?_
  rintro e w1 ⟨va, rfl, hoa, hw1⟩
  have hz1 := hw1.size
  simp only [World.size_alloc] at hz1 hoa
  have cg1_0 : w1.cell? ⟨w.heap.size + 1, 0, none⟩ = some (.int .i64 num) := ((bcell3 hw1).1 _ _ (by simp)).trans (by simp [go_sem])
  have cg1_1 : w1.cell? ⟨w.heap.size + 1, 1, none⟩ = some (.int .i64 den) := ((bcell3 hw1).1 _ _ (by simp)).trans (by simp [go_sem])
  have cr1 : w1.heap[w.heap.size + 1 + 1]? = some (.cells z 26 (0, 0)) := by
    refine block_below0 hw1 ?_
    have := heap_alloc_last ((w.alloc (.cells c 26)).alloc (.cells #[.int .i64 num, .int .i64 den] 84)) (.cells z 26)
    rwa [show ((w.alloc (.cells c 26)).alloc (.cells #[.int .i64 num, .int .i64 den] 84)).heap.size = w.heap.size + 1 + 1 by simp] at this
  have hB1 : Below w.heap.size w w1 := by (repeat' (first | (with_reducible exact Below.refl _ _) | (with_reducible assumption) | (with_reducible refine Below.alloc ?_ ?_ _) | (with_reducible refine Below.drew ?_) | (with_reducible refine below_drewN ?_ _) | (with_reducible refine Below.setCell ?_ ?_ _) | (with_reducible refine below_step (by with_reducible assumption) ?_ ?_) | (with_reducible exact Below.size (by with_reducible assumption)) | go_size))
  obtain ⟨g1, e1, rfl, hg1, hg1s, he1, he1m⟩ := own_slice hoa (by decide)
  have HO1 := Lib.hid ((mixG_zero x num den 64).symm ▸ hoa)
  have HB1 := Lib.hid hB1
  clear hw1 hoa K1 hB1
  unfold maxLen at he1m
  go_wp2
  go_loopw [7, 8] (fun q i wr => ∃ k : Nat, k ≤ 64 ∧ q = .int .i64 (gK x num den k) ∧ i = .int .i64 (k : Int) ∧ Hid (wr.ownsRow (w.heap.size + 1 + 1 + 1) 3 1 (.slice (some ⟨g1, 0, none⟩) 64 e1) 64 (iL (mixG x num den k) 64)) ∧ wr.cell? ⟨w.heap.size + 1, 0, none⟩ = some (.int .i64 num) ∧ wr.cell? ⟨w.heap.size + 1, 1, none⟩ = some (.int .i64 den) ∧ Hid (Below w.heap.size w wr) ∧ wr.heap[w.heap.size + 1 + 1]? = some (.cells z 26 (0, 0))) (fun _ i _ => 64 - (intOf i).toNat)
  case atStart => exact ⟨0, Nat.zero_le _, rfl, rfl, HO1, cg1_0, cg1_1, HB1, cr1⟩
  case round =>
    clear HO1 cg1_0 cg1_1 HB1 cr1
    obtain ⟨k, hk, rfl, rfl, HO, g0, g1', HB, hr⟩ := hrel
    have HR := Lib.hid hr
    clear hr
    by_cases hlt : k < 64
    · have e0 : (0 : Int) ≤ (k : Int) := by omega
      have e1' : (k : Int) < 64 := by omega
      have d0 := (HO.out.cellAt k (by omega)).trans ((iL_get (mixG x num den k) hlt).trans (by rw [mixG_at]))
      have f0 := HO.out.frozenAt k
      have KRk := Lib.hid (KR.out k hlt)
      have hm := HM.out k hlt
      have wr1 : IntKind.i64.wrap (x k * num) = x k * num := IntWalk.i64_in _ (by omega)
      have hq := HQ.out k
      have wr2 : IntKind.i64.wrap (gK x num den k + 1) = gK x num den k + 1 := IntWalk.i64_in _ (by omega)
      have HS := Lib.hid (mixG_step x num den k 64)
      have HG := Lib.hid (show mixG x num den (k + 1) k = gC (x k) num den by unfold mixG; rw [if_pos (by omega)])
      have HK := Lib.hid (show gK x num den (k + 1) = gK x num den k + if gC (x k) num den = gW (x k) num den then 0 else 1 from rfl)
      have HCR := Lib.hid (gC_R (x k) num den)
      clear hm hq
      generalize gK x num den k = q at *
      generalize gC (x k) num den = C at *
      generalize gW (x k) num den = G at *
      generalize x k = xk at *
      go_wp2
      refine wp_region_held_drew (S := fun w' => w'.cell? ⟨g1, k, none⟩ = some (.int .i64 (xk)) ∧ w'.cell? ⟨w.heap.size + 1, 0, none⟩ = some (.int .i64 (num)) ∧ w'.cell? ⟨w.heap.size + 1, 1, none⟩ = some (.int .i64 (den))) (by kernel_rfl) ?_ (fun hH1 => ?_)
      · (first | assumption | (refine ⟨?_, ?_, ?_⟩ <;> assumption) | (go_keep; done) | (simp [*, go_sem]; done))
      refine wpAnyH_pure (i := 0) (v := ?_) rfl (by kernel_rfl) (by kernel_rfl) (by kernel_rfl) (fun _ _ _ h => h) (by rfl) (by assumption) ?_ ?_
      rotate_left
      · (intro w hSw; (try dsimp only at hSw); go_simp; (try with_reducible rfl))
      simp only [Act.put, List.getElem_toArray, List.getElem_cons_succ, List.getElem_cons_zero, List.setIfInBounds_toArray, List.set_cons_zero, List.set_cons_succ]
      refine wpAnyH_pure (i := 1) (v := ?_) rfl (by kernel_rfl) (by kernel_rfl) (by kernel_rfl) (fun _ _ _ h => h) (by rfl) (by assumption) ?_ ?_
      rotate_left
      · (intro w hSw; (try dsimp only at hSw); go_simp; (try with_reducible rfl))
      simp only [Act.put, List.getElem_toArray, List.getElem_cons_succ, List.getElem_cons_zero, List.setIfInBounds_toArray, List.set_cons_zero, List.set_cons_succ]
      refine wpAnyH_pure (i := 2) (v := ?_) rfl (by kernel_rfl) (by kernel_rfl) (by kernel_rfl) (fun _ _ _ h => h) (by rfl) (by assumption) ?_ ?_
      rotate_left
      · (intro w hSw; (try dsimp only at hSw); go_simp; (try with_reducible rfl))
      simp only [Act.put, List.getElem_toArray, List.getElem_cons_succ, List.getElem_cons_zero, List.setIfInBounds_toArray, List.set_cons_zero, List.set_cons_succ]
      refine wpAnyH_pure (i := 3) (v := ?_) rfl (by kernel_rfl) (by kernel_rfl) (by kernel_rfl) (fun _ _ _ h => h) (by rfl) (by assumption) ?_ ?_
      rotate_left
      · (intro w hSw; (try dsimp only at hSw); go_simp; (try with_reducible rfl))
      simp only [Act.put, List.getElem_toArray, List.getElem_cons_succ, List.getElem_cons_zero, List.setIfInBounds_toArray, List.set_cons_zero, List.set_cons_succ]
      refine wpAnyH_pure (i := 4) (v := ?_) rfl (by kernel_rfl) (by kernel_rfl) (by kernel_rfl) (fun _ _ _ h => h) (by rfl) (by assumption) ?_ ?_
      rotate_left
      · (intro w hSw; (try dsimp only at hSw); go_simp; (try with_reducible rfl))
      simp only [Act.put, List.getElem_toArray, List.getElem_cons_succ, List.getElem_cons_zero, List.setIfInBounds_toArray, List.set_cons_zero, List.set_cons_succ]
      refine wpAnyH_pure (i := 5) (v := ?_) rfl (by kernel_rfl) (by kernel_rfl) (by kernel_rfl) (fun _ _ _ h => h) (by rfl) (by assumption) ?_ ?_
      rotate_left
      · (intro w hSw; (try dsimp only at hSw); go_simp; (try with_reducible rfl))
      simp only [Act.put, List.getElem_toArray, List.getElem_cons_succ, List.getElem_cons_zero, List.setIfInBounds_toArray, List.set_cons_zero, List.set_cons_succ]
      refine wpAnyH_pure (i := 6) (v := ?_) rfl (by kernel_rfl) (by kernel_rfl) (by kernel_rfl) (fun _ _ _ h => h) (by rfl) (by assumption) ?_ ?_
      rotate_left
      · (intro w hSw; (try dsimp only at hSw); go_simp; (try with_reducible rfl))
      simp only [Act.put, List.getElem_toArray, List.getElem_cons_succ, List.getElem_cons_zero, List.setIfInBounds_toArray, List.set_cons_zero, List.set_cons_succ]
      refine wpAnyH_pure (i := 7) (v := ?_) rfl (by kernel_rfl) (by kernel_rfl) (by kernel_rfl) (fun _ _ _ h => h) (by rfl) (by assumption) ?_ ?_
      rotate_left
      · (intro w hSw; (try dsimp only at hSw); go_simp; (try with_reducible rfl))
      simp only [Act.put, List.getElem_toArray, List.getElem_cons_succ, List.getElem_cons_zero, List.setIfInBounds_toArray, List.set_cons_zero, List.set_cons_succ]
      refine wpAnyH_pure (i := 8) (v := ?_) rfl (by kernel_rfl) (by kernel_rfl) (by kernel_rfl) (fun _ _ _ h => h) (by rfl) (by assumption) ?_ ?_
      rotate_left
      · (intro w hSw; (try dsimp only at hSw); go_simp; (try with_reducible rfl))
      simp only [Act.put, List.getElem_toArray, List.getElem_cons_succ, List.getElem_cons_zero, List.setIfInBounds_toArray, List.set_cons_zero, List.set_cons_succ]
      refine wpAnyH_ready (rs := [9]) (by kernel_rfl) (by simp) ?_
      refine AllReadyH.cons rfl (fun Kq hKq => ?_) AllReadyH.nil
      go_simp
      refine (KRk.out _).mono ?_
      (rintro e w' ⟨rfl, rfl⟩)
      refine hKq.out _ _ ?_ (fun hH2 => ?_)
      · (first | assumption | (refine ⟨?_, ?_, ?_⟩ <;> assumption) | (go_keep; done) | (simp [*, go_sem]; done))
      clear hKq Kq
      clear hH1
      refine wpAnyH_pure (i := 10) (v := ?_) rfl (by kernel_rfl) (by kernel_rfl) (by kernel_rfl) (fun _ _ _ h => h) (by rfl) (by assumption) ?_ ?_
      rotate_left
      · (intro w hSw; (try dsimp only at hSw); go_simp; (try with_reducible rfl))
      simp only [Act.put, List.getElem_toArray, List.getElem_cons_succ, List.getElem_cons_zero, List.setIfInBounds_toArray, List.set_cons_zero, List.set_cons_succ]
      refine wpAnyH_done (by kernel_rfl) ?_ _
      have hmm := HCR.out
      go_upto_region 7 with fail
      have hWo := (World.ownsRow.stored (HO.out.drew) k (.int .i64 C)).1
      rw [HS.out] at hWo
      have hW0 : (wr.drew.setCell ⟨g1, k, none⟩ (.int .i64 C)).cell? ⟨w.heap.size + 1, 0, none⟩ = some (.int .i64 num) := (World.cell?_setCell_far _ _ _ _ (by dsimp only; omega)).trans g0
      have hW1 : (wr.drew.setCell ⟨g1, k, none⟩ (.int .i64 C)).cell? ⟨w.heap.size + 1, 1, none⟩ = some (.int .i64 den) := (World.cell?_setCell_far _ _ _ _ (by dsimp only; omega)).trans g1'
      have hWr : (wr.drew.setCell ⟨g1, k, none⟩ (.int .i64 C)).heap[w.heap.size + 1 + 1]? = some (.cells z 26 (0, 0)) := by rw [block_setCell_other (by omega)]; exact HR.out
      have hWB : Below w.heap.size w (wr.drew.setCell ⟨g1, k, none⟩ (.int .i64 C)) := by have := HB.out; (repeat' (first | (with_reducible exact Below.refl _ _) | (with_reducible assumption) | (with_reducible refine Below.alloc ?_ ?_ _) | (with_reducible refine Below.drew ?_) | (with_reducible refine below_drewN ?_ _) | (with_reducible refine Below.setCell ?_ ?_ _) | (with_reducible refine below_step (by with_reducible assumption) ?_ ?_) | (with_reducible exact Below.size (by with_reducible assumption)) | go_size))
      have hWg := hWo.cellAt k (by omega)
      rw [iL_get _ hlt, HG.out] at hWg
      refine abs_last (fun w5 hw5 => ?_)
      have HO5 : Hid (w5.ownsRow (w.heap.size + 1 + 1 + 1) 3 1 (.slice (some ⟨g1, 0, none⟩) 64 e1) 64 (iL (mixG x num den (k + 1)) 64)) := Lib.hid (by rw [hw5]; exact hWo)
      have h50 : w5.cell? ⟨w.heap.size + 1, 0, none⟩ = some (.int .i64 num) := by rw [hw5]; exact hW0
      have h51 : w5.cell? ⟨w.heap.size + 1, 1, none⟩ = some (.int .i64 den) := by rw [hw5]; exact hW1
      have hr5 : w5.heap[w.heap.size + 1 + 1]? = some (.cells z 26 (0, 0)) := by rw [hw5]; exact hWr
      have HB5 : Hid (Below w.heap.size w w5) := Lib.hid (by rw [hw5]; exact hWB)
      have d5 : w5.cell? ⟨g1, k, none⟩ = some (.int .i64 C) := by rw [hw5]; exact hWg
      have HR5 := Lib.hid hr5
      clear hWo hW0 hW1 hWr hWB hWg hw5 d0 f0 HO HB HR HS HG wr1 g0 g1' hr5 hmm HCR
      by_cases hgt : C = G
      · have hd : (C != G) = false := by simp [hgt]
        have HK2 := Lib.hid (HK.out.trans (by rw [if_pos hgt, Int.add_zero]))
        clear hgt HK
        go_wp2
        go_roundw
        case rel => exact ⟨k + 1, by omega, by rw [HK2.out], by go_num, HO5, h50, h51, HB5, HR5.out⟩
        case measure => simp [intOf]; omega
      · have hd : (C != G) = true := by simpa using hgt
        have HK2 := Lib.hid (HK.out.trans (by rw [if_neg hgt]))
        clear hgt HK
        go_wp2
        go_roundw
        case rel => exact ⟨k + 1, by omega, by rw [HK2.out], by go_num, HO5, h50, h51, HB5, HR5.out⟩
        case measure => simp [intOf]; omega
    · obtain rfl : k = 64 := by omega
      have HIR := Lib.hid (Lib.hid (irow_own HO.out))
      clear HO
      go_wp2_with fail
      refine (KT.out _ _ HIR.out).mono ?_
      rintro e w6 ⟨rfl, hw6⟩
      have hg : w6.heap[w.heap.size + 1 + 1]? = some (.cells z 26 (0, 0)) := block_below0 hw6 HR.out
      have HB3 := Lib.hid (below_step hw6 HB.out HB.out.size)
      clear hw6 HR HB
      generalize hQQ : gK x num den 64 = Q at *
      have HQQ := Lib.hid hQQ
      clear hQQ
      go_wp2_with (refine wpl_store rfl 26 26 _ _ (w.heap.size + 1 + 1) z s rfl rfl rfl (by rw [hs1.out]; exact infoTrace) (by rw [hs1.out, hs0.out]) ho1.out hg ?_)
      refine bodyPost_ret (v := .tuple #[.agg s, .int .i64 Q]) ?_ rfl ⟨by rw [HQQ.out], below_setRow HB3.out s (by omega)⟩
      rw [results_cell_tmp (p := 4) (u := 5) (ty := 26) rfl]
      have hl : (loadVar 26 ⟨w.heap.size + 1 + 1, 0, none⟩).run Try.prog (w6.setRow (w.heap.size + 1 + 1) s) = .ok (.agg s) _ := run_loadVar_row _ _ 26 26 s (0, 0) _ (block_setRow hg) Try.underlying26 rfl (by rw [hs1.out]; exact infoTrace)
      change ((loadVar 26 ⟨w.heap.size + 1 + 1, 0, none⟩).run Try.prog _).andThen _ = _
      rw [hl]
      rfl
end Go.Proofs.Ythgnemkfaiejbaa
