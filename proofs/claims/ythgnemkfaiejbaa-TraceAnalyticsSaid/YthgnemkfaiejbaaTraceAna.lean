/-
  TraceAnalytics: the walks.
-/
import Derived.Test.YthgnemkfaiejbaaTEqA
import Derived.Test.YthgnemkfaiejbaaTEnvR
import Derived.Test.YthgnemkfaiejbaaTChk
import Derived.Test.YthgnemkfaiejbaaTMade
import Derived.Test.YthgnemkfaiejbaaTAwake
set_option linter.unusedVariables false
set_option linter.unusedSimpArgs false
namespace Go.Proofs.Ythgnemkfaiejbaa
open Go.RowKit

set_option maxRecDepth 100000 in
set_option maxHeartbeats 2000000 in
theorem traceAna_out (v0 : Value) (x : Nat → Int) (n : Nat) (w : World) (hr0 : Hid (IRow w v0 x n)) (h : ¬ n ≤ 64) :
    Calls Try.prog 11 #[v0] w fun e w' => e = .returned (.bool true) ∧ Below w.heap.size w w' := by
  have KA := Lib.hid awake3_any
  obtain ⟨q0, c0, rfl, hc0, -⟩ := hr0.out
  clear hr0 hc0
  have d0 : decide (64 < (n : Int)) = true := decide_eq_true (by omega)
  clear h
  go_enter Try.func11, Try.ntmps11
  go_wp2_with fail; (refine (KA.out _).mono ?_; rintro e w1 ⟨rfl, hw1⟩; obtain ⟨hcw1, hfw1, hlw1, hmw1, hnw1⟩ := bcell3 hw1; have hzw1 := hw1.size; (try simp only [World.size_alloc, World.size_setCell, World.size_drew, size_drewN] at hzw1))
  clear hcw1 hfw1 hlw1 hmw1 hnw1
  go_wp2
  go_ret
  exact ⟨rfl, by (repeat' (first | (with_reducible exact Below.refl _ _) | (with_reducible assumption) | (with_reducible refine Below.alloc ?_ ?_ _) | (with_reducible refine Below.drew ?_) | (with_reducible refine below_drewN ?_ _) | (with_reducible refine Below.setCell ?_ ?_ _) | (with_reducible refine below_step (by with_reducible assumption) ?_ ?_) | (with_reducible exact Below.size (by with_reducible assumption)) | go_size))⟩
set_option maxRecDepth 100000 in
set_option maxHeartbeats 4000000 in
theorem traceAna_ok (v0 : Value) (x : Nat → Int) (n : Nat) (w : World) (hr0 : Hid (IRow w v0 x n)) (hn : n ≤ 64) (hx : Hid (∀ k, k < 64 → (mkT x n k).natAbs ≤ 2047)) :
    Calls Try.prog 11 #[v0] w fun e w' => e = .returned (.bool true) ∧ Below w.heap.size w w' := by
  have KN := Lib.hid (fun W => analytic_ok (mkT x n) W hx)
  have KE := Lib.hid (fun W => envelope_ok (mkT x n) W hx)
  have KRN := Lib.hid (fun W => analyticR_any (mkT x n) W hx)
  have KRE := Lib.hid (fun W => envelopeR_any (mkT x n) W hx)
  have kx : ∀ W, _ := fun W => checkTraceR_any (mkT x n) W (mkT_24 x n)
  rw [tE_ok hx.out, tN_ok hx.out] at kx
  have KX := Lib.hid kx
  clear kx
  have KA := Lib.hid awake3_any
  have KM0 := Lib.hid (fun W (hB : Below w.heap.size w W) => made_any v0 x n W (by omega) (Lib.hid (hr0.out.below hB)))
  obtain ⟨q0, c0, rfl, hc0, -⟩ := hr0.out
  have d0 : decide (64 < (n : Int)) = false := decide_eq_false (by omega)
  have HZ := Lib.hid zero_trace
  have hs0 := Lib.hid (tC_size fun _ => 0)
  have hsc := Lib.hid (tC_size (mkT x n))
  have hoc := Lib.hid (tC_one (mkT x n))
  have hzA := Lib.hid (aC_size (fun _ => 0) fun _ => 0)
  have HZA := Lib.hid zero_ana
  have hzS := Lib.hid (sC_size fun _ => 0)
  have HZS := Lib.hid zero_sq
  have hsA := Lib.hid (aC_size (anP (mkT x n)) (anQ (mkT x n)))
  have hoA := Lib.hid (aC_one (anP (mkT x n)) (anQ (mkT x n)))
  have hsS := Lib.hid (sC_size (anS (mkT x n)))
  have hoS := Lib.hid (sC_one (anS (mkT x n)))
  have hgS : Try.prog.eqGuardType Try.prog.depth 95 = false := by kernel_rfl
  have HQS := Lib.hid (fun w => eql_sq (anS (mkT x n)) w)
  have KB : Hid (∀ (b1 b2 : Nat) (W : World), W.heap[b1]? = some (.cells (aC (anP (mkT x n)) (anQ (mkT x n))) 92 (0, 0)) → W.heap[b2]? = some (.cells (aC (anP (mkT x n)) (anQ (mkT x n))) 92 (0, 0)) → Calls Try.prog 64 #[.slice (some ⟨b1, 0, none⟩) 61 61, .slice (some ⟨b2, 0, none⟩) 61 61] W fun e w' => e = .returned (.bool true) ∧ Below W.heap.size W w') :=
    Lib.hid fun b1 b2 W h1 h2 => sameSamples_eq (anP (mkT x n)) (anQ (mkT x n)) b1 0 b2 0 61 61 61 W (by decide) ⟨by decide, by decide⟩ ⟨by decide, by decide⟩ (Lib.hid fun k hk => by have := an_bd hx.out hk; omega)
      (Lib.hid fun k hk => by rw [Nat.zero_add]; exact (cell_block h1).trans (aC_get _ _ hk))
      (Lib.hid fun k hk => by rw [Nat.zero_add]; exact (cell_block h2).trans (aC_get _ _ hk)) (Array.getElem?_eq_some_iff.1 h1).1 (Array.getElem?_eq_some_iff.1 h2).1
  clear hr0 hc0 hx
  generalize tC (mkT x n) = c at *
  generalize (tC fun _ => 0) = z at *
  generalize (aC (fun _ => 0) fun _ => 0) = zA at *
  generalize (sC fun _ => 0) = zS at *
  generalize aC (anP (mkT x n)) (anQ (mkT x n)) = A at *
  generalize sC (anS (mkT x n)) = S at *
  go_enter Try.func11, Try.ntmps11
  go_wp2_with fail; (refine (KA.out _).mono ?_; rintro e w1 ⟨rfl, hw1⟩; obtain ⟨hcw1, hfw1, hlw1, hmw1, hnw1⟩ := bcell3 hw1; have hzw1 := hw1.size; (try simp only [World.size_alloc, World.size_setCell, World.size_drew, size_drewN] at hzw1))
  clear hcw1 hfw1 hlw1 hmw1 hnw1
  have hB1 : Below w.heap.size w w1 := by (repeat' (first | (with_reducible exact Below.refl _ _) | (with_reducible assumption) | (with_reducible refine Below.alloc ?_ ?_ _) | (with_reducible refine Below.drew ?_) | (with_reducible refine below_drewN ?_ _) | (with_reducible refine Below.setCell ?_ ?_ _) | (with_reducible refine below_step (by with_reducible assumption) ?_ ?_) | (with_reducible exact Below.size (by with_reducible assumption)) | go_size))
  go_wp2_with fail; (refine (KM0.out _ hB1).mono ?_; rintro e w2 ⟨rfl, hw2⟩; obtain ⟨hcw2, hfw2, hlw2, hmw2, hnw2⟩ := bcell3 hw2; have hzw2 := hw2.size; (try simp only [World.size_alloc, World.size_setCell, World.size_drew, size_drewN] at hzw2))
  clear hcw2 hfw2 hlw2 hmw2 hnw2
  go_wp2_with (first | (refine wpl_alloc rfl 26 z rfl (HZ.out _) ?_) | (refine wpl_store_new rfl 26 _ _ z c rfl rfl rfl (by rw [hsc.out]; exact infoTrace) (by rw [hs0.out, hsc.out]) hoc.out ?_) | (refine wpl_load rfl 26 26 _ w2.heap.size c (0, 0) _ rfl rfl Try.underlying26 rfl (by rw [hsc.out]; exact infoTrace) (heap_alloc_last w2 _) ?_))
  go_wp2_with fail; (refine (KN.out _).mono ?_; rintro e w3 ⟨rfl, hw3⟩; obtain ⟨hcw3, hfw3, hlw3, hmw3, hnw3⟩ := bcell3 hw3; have hzw3 := hw3.size; (try simp only [World.size_alloc, World.size_setCell, World.size_drew, size_drewN] at hzw3))
  have ca3_0 : w3.heap[w2.heap.size]? = some (.cells (c) 26 (0, 0)) := block_below0 hw3 (by first | assumption | (repeat (first | assumption | (refine heap_alloc_at ?_; (first | rfl | (simp only [World.size_alloc, World.size_drew, World.size_setCell, size_drewN]; done))) | refine block_alloc ?_)))
  clear hcw3 hfw3 hlw3 hmw3 hnw3
  go_wp2_with (first | (refine wpl_alloc rfl 92 zA rfl (HZA.out _) ?_) | (refine wpl_store_new rfl 92 _ _ zA A rfl rfl rfl (by rw [hsA.out]; exact infoAna) (by rw [hzA.out, hsA.out]) hoA.out ?_) | (refine wpl_load rfl 26 26 _ w2.heap.size c (0, 0) _ rfl rfl Try.underlying26 rfl (by rw [hsc.out]; exact infoTrace) (block_alloc ca3_0) ?_))
  go_wp2_with fail; (refine (KE.out _).mono ?_; rintro e w4 ⟨rfl, hw4⟩; obtain ⟨hcw4, hfw4, hlw4, hmw4, hnw4⟩ := bcell3 hw4; have hzw4 := hw4.size; (try simp only [World.size_alloc, World.size_setCell, World.size_drew, size_drewN] at hzw4))
  have ca4_0 : w4.heap[w2.heap.size]? = some (.cells (c) 26 (0, 0)) := block_below0 hw4 (by first | assumption | (repeat (first | assumption | (refine heap_alloc_at ?_; (first | rfl | (simp only [World.size_alloc, World.size_drew, World.size_setCell, size_drewN]; done))) | refine block_alloc ?_)))
  clear ca3_0
  have cx4_0 : w4.heap[w3.heap.size]? = some (.cells (A) 92 (0, 0)) := block_below0 hw4 (by first | assumption | (repeat (first | assumption | (refine heap_alloc_at ?_; (first | rfl | (simp only [World.size_alloc, World.size_drew, World.size_setCell, size_drewN]; done))) | refine block_alloc ?_)))
  clear hcw4 hfw4 hlw4 hmw4 hnw4
  go_wp2_with (first | (refine wpl_alloc rfl 95 zS rfl (HZS.out _) ?_) | (refine wpl_store_new rfl 95 _ _ zS S rfl rfl rfl (by rw [hsS.out]; exact infoSq) (by rw [hzS.out, hsS.out]) hoS.out ?_) | (refine wpl_load rfl 26 26 _ w2.heap.size c (0, 0) _ rfl rfl Try.underlying26 rfl (by rw [hsc.out]; exact infoTrace) (block_alloc ca4_0) ?_))
  go_wp2_with fail; (refine (KX.out _).mono ?_; rintro e w5 ⟨rfl, hw5⟩; obtain ⟨hcw5, hfw5, hlw5, hmw5, hnw5⟩ := bcell3 hw5; have hzw5 := hw5.size; (try simp only [World.size_alloc, World.size_setCell, World.size_drew, size_drewN] at hzw5))
  have ca5_0 : w5.heap[w2.heap.size]? = some (.cells (c) 26 (0, 0)) := block_below0 hw5 (by first | assumption | (repeat (first | assumption | (refine heap_alloc_at ?_; (first | rfl | (simp only [World.size_alloc, World.size_drew, World.size_setCell, size_drewN]; done))) | refine block_alloc ?_)))
  clear ca4_0
  have cx5_0 : w5.heap[w3.heap.size]? = some (.cells (A) 92 (0, 0)) := block_below0 hw5 (by first | assumption | (repeat (first | assumption | (refine heap_alloc_at ?_; (first | rfl | (simp only [World.size_alloc, World.size_drew, World.size_setCell, size_drewN]; done))) | refine block_alloc ?_)))
  clear cx4_0
  have cs5_0 : w5.heap[w4.heap.size]? = some (.cells (S) 95 (0, 0)) := block_below0 hw5 (by first | assumption | (repeat (first | assumption | (refine heap_alloc_at ?_; (first | rfl | (simp only [World.size_alloc, World.size_drew, World.size_setCell, size_drewN]; done))) | refine block_alloc ?_)))
  clear hcw5 hfw5 hlw5 hmw5 hnw5
  have hl2 := (Array.getElem?_eq_some_iff.1 ca5_0).1
  have hl3 := (Array.getElem?_eq_some_iff.1 cx5_0).1
  have hl4 := (Array.getElem?_eq_some_iff.1 cs5_0).1
  have hinT : (Try.prog.info? 26).map (·.size) = some c.size := by rw [hsc.out]; exact infoTrace
  have hinS : (Try.prog.info? 95).map (·.size) = some S.size := by rw [hsS.out]; exact infoSq
  have hB5 : Below w.heap.size w w5 := by (repeat' (first | (with_reducible exact Below.refl _ _) | (with_reducible assumption) | (with_reducible refine Below.alloc ?_ ?_ _) | (with_reducible refine Below.drew ?_) | (with_reducible refine below_drewN ?_ _) | (with_reducible refine Below.setCell ?_ ?_ _) | (with_reducible refine below_step (by with_reducible assumption) ?_ ?_) | (with_reducible exact Below.size (by with_reducible assumption)) | go_size))
  go_upto_region 11 with fail
  refine wp_region_held_drew (S := fun w' => w'.heap[w2.heap.size]? = some (.cells (c) 26 (0, 0)) ∧ w'.heap[w3.heap.size]? = some (.cells (A) 92 (0, 0)) ∧ w'.heap[w4.heap.size]? = some (.cells (S) 95 (0, 0))) (by kernel_rfl) ?_ (fun hH1 => ?_)
  · (first | assumption | (refine ⟨?_, ?_, ?_⟩ <;> first | assumption | (repeat (first | assumption | (refine heap_alloc_at ?_; (first | rfl | (simp only [World.size_alloc, World.size_drew, World.size_setCell, size_drewN]; done))) | refine block_alloc ?_))))
  refine wpAnyH_pure (i := 0) (v := ?_) rfl (by kernel_rfl) (by kernel_rfl) (by kernel_rfl) (fun _ _ _ h => h) (by rfl) (by assumption) ?_ ?_
  rotate_left
  · (intro w hSw; (try dsimp only at hSw); refine exec_load_arr 26 (p := .tmp 3) ?_ ?_ Try.underlying26 (hinT) (by repeat (first | exact hSw | exact hSw.1 | replace hSw := hSw.2)) <;> rfl)
  simp only [Act.put, List.getElem_toArray, List.getElem_cons_succ, List.getElem_cons_zero, List.setIfInBounds_toArray, List.set_cons_zero, List.set_cons_succ]
  refine wpAnyH_pure (i := 2) (v := ?_) rfl (by kernel_rfl) (by kernel_rfl) (by kernel_rfl) (fun _ _ _ h => h) (by rfl) (by assumption) ?_ ?_
  rotate_left
  · (intro w hSw; (try dsimp only at hSw); refine exec_load_arr 26 (p := .tmp 3) ?_ ?_ Try.underlying26 (hinT) (by repeat (first | exact hSw | exact hSw.1 | replace hSw := hSw.2)) <;> rfl)
  simp only [Act.put, List.getElem_toArray, List.getElem_cons_succ, List.getElem_cons_zero, List.setIfInBounds_toArray, List.set_cons_zero, List.set_cons_succ]
  refine wpAnyH_dag0 (fun a0 l0 l a W => ((W.heap[w2.heap.size]? = some (.cells (c) 26 (0, 0)) ∧ W.heap[w3.heap.size]? = some (.cells (A) 92 (0, 0)) ∧ W.heap[w4.heap.size]? = some (.cells (S) 95 (0, 0))) ∧ Below w.heap.size w W ∧ (w5.heap.size) ≤ W.heap.size) ∧ (((l = l0) ∧ (a = a0)) ∨ ((l = (l0.setIfInBounds 1 true)) ∧ (a = (a0.put (some 55) (.agg A)))) ∨ (∃ n10 : Nat, (l = (l0.setIfInBounds 4 true)) ∧ (a = (a0.put (some 10) (.pointer (some ⟨n10, 0, none⟩)))) ∧ (((w5.heap.size) ≤ n10 ∧ n10 < W.heap.size) ∧ W.heap[n10]? = some (.cells (zA) 92 (0, 0)))) ∨ (∃ n11 : Nat, (l = (l0.setIfInBounds 5 true)) ∧ (a = (a0.put (some 11) (.pointer (some ⟨n11, 0, none⟩)))) ∧ (((w5.heap.size) ≤ n11 ∧ n11 < W.heap.size) ∧ W.heap[n11]? = some (.cells (zS) 95 (0, 0)))) ∨ ((l = ((l0.setIfInBounds 1 true).setIfInBounds 3 true)) ∧ (a = ((a0.put (some 55) (.agg A)).put (some 57) (.agg S)))) ∨ (∃ n10 : Nat, (l = ((l0.setIfInBounds 1 true).setIfInBounds 4 true)) ∧ (a = ((a0.put (some 55) (.agg A)).put (some 10) (.pointer (some ⟨n10, 0, none⟩)))) ∧ (((w5.heap.size) ≤ n10 ∧ n10 < W.heap.size) ∧ W.heap[n10]? = some (.cells (zA) 92 (0, 0)))) ∨ (∃ n11 : Nat, (l = ((l0.setIfInBounds 1 true).setIfInBounds 5 true)) ∧ (a = ((a0.put (some 55) (.agg A)).put (some 11) (.pointer (some ⟨n11, 0, none⟩)))) ∧ (((w5.heap.size) ≤ n11 ∧ n11 < W.heap.size) ∧ W.heap[n11]? = some (.cells (zS) 95 (0, 0)))) ∨ (∃ n10 n11 : Nat, (l = ((l0.setIfInBounds 4 true).setIfInBounds 5 true)) ∧ (a = ((a0.put (some 10) (.pointer (some ⟨n10, 0, none⟩))).put (some 11) (.pointer (some ⟨n11, 0, none⟩)))) ∧ (((w5.heap.size) ≤ n10 ∧ n10 < W.heap.size) ∧ W.heap[n10]? = some (.cells (zA) 92 (0, 0))) ∧ (((w5.heap.size) ≤ n11 ∧ n11 < W.heap.size) ∧ W.heap[n11]? = some (.cells (zS) 95 (0, 0))) ∧ (n10 ≠ n11)) ∨ (∃ n10 : Nat, (l = (((l0.setIfInBounds 1 true).setIfInBounds 3 true).setIfInBounds 4 true)) ∧ (a = (((a0.put (some 55) (.agg A)).put (some 57) (.agg S)).put (some 10) (.pointer (some ⟨n10, 0, none⟩)))) ∧ (((w5.heap.size) ≤ n10 ∧ n10 < W.heap.size) ∧ W.heap[n10]? = some (.cells (zA) 92 (0, 0)))) ∨ (∃ n11 : Nat, (l = (((l0.setIfInBounds 1 true).setIfInBounds 3 true).setIfInBounds 5 true)) ∧ (a = (((a0.put (some 55) (.agg A)).put (some 57) (.agg S)).put (some 11) (.pointer (some ⟨n11, 0, none⟩)))) ∧ (((w5.heap.size) ≤ n11 ∧ n11 < W.heap.size) ∧ W.heap[n11]? = some (.cells (zS) 95 (0, 0)))) ∨ (∃ n10 n11 : Nat, (l = (((l0.setIfInBounds 1 true).setIfInBounds 4 true).setIfInBounds 5 true)) ∧ (a = (((a0.put (some 55) (.agg A)).put (some 10) (.pointer (some ⟨n10, 0, none⟩))).put (some 11) (.pointer (some ⟨n11, 0, none⟩)))) ∧ (((w5.heap.size) ≤ n10 ∧ n10 < W.heap.size) ∧ W.heap[n10]? = some (.cells (zA) 92 (0, 0))) ∧ (((w5.heap.size) ≤ n11 ∧ n11 < W.heap.size) ∧ W.heap[n11]? = some (.cells (zS) 95 (0, 0))) ∧ (n10 ≠ n11)) ∨ (∃ n10 n11 : Nat, (l = ((((l0.setIfInBounds 1 true).setIfInBounds 3 true).setIfInBounds 4 true).setIfInBounds 5 true)) ∧ (a = ((((a0.put (some 55) (.agg A)).put (some 57) (.agg S)).put (some 10) (.pointer (some ⟨n10, 0, none⟩))).put (some 11) (.pointer (some ⟨n11, 0, none⟩)))) ∧ (((w5.heap.size) ≤ n10 ∧ n10 < W.heap.size) ∧ W.heap[n10]? = some (.cells (zA) 92 (0, 0))) ∧ (((w5.heap.size) ≤ n11 ∧ n11 < W.heap.size) ∧ W.heap[n11]? = some (.cells (zS) 95 (0, 0))) ∧ (n10 ≠ n11)))) (by rfl) ?_ ?_ ?_
  · exact ⟨⟨hH1, by (repeat' (first | (with_reducible exact Below.refl _ _) | (with_reducible assumption) | (with_reducible refine Below.alloc ?_ ?_ _) | (with_reducible refine Below.drew ?_) | (with_reducible refine below_drewN ?_ _) | (with_reducible refine Below.setCell ?_ ?_ _) | (with_reducible refine below_step (by with_reducible assumption) ?_ ?_) | (with_reducible exact Below.size (by with_reducible assumption)) | go_size)), by first | omega | (simp only [World.size_alloc, World.size_setCell, World.size_drew, size_drewN]; omega)⟩, (Or.inl ⟨rfl, rfl⟩)⟩
  · intro l a W hI; exact hI.1.1
  intro l a W hI
  obtain ⟨⟨hSW, hB, hZ⟩, hI⟩ := hI
  have hSW' := hSW
  obtain ⟨cS0, cS1, cS2⟩ := hSW
  rcases hI with ⟨rfl, rfl⟩ | ⟨rfl, rfl⟩ | ⟨n10, rfl, rfl, ⟨⟨zn10, yn10⟩, dn10⟩⟩ | ⟨n11, rfl, rfl, ⟨⟨zn11, yn11⟩, dn11⟩⟩ | ⟨rfl, rfl⟩ | ⟨n10, rfl, rfl, ⟨⟨zn10, yn10⟩, dn10⟩⟩ | ⟨n11, rfl, rfl, ⟨⟨zn11, yn11⟩, dn11⟩⟩ | ⟨n10, n11, rfl, rfl, ⟨⟨zn10, yn10⟩, dn10⟩, ⟨⟨zn11, yn11⟩, dn11⟩, hne0⟩ | ⟨n10, rfl, rfl, ⟨⟨zn10, yn10⟩, dn10⟩⟩ | ⟨n11, rfl, rfl, ⟨⟨zn11, yn11⟩, dn11⟩⟩ | ⟨n10, n11, rfl, rfl, ⟨⟨zn10, yn10⟩, dn10⟩, ⟨⟨zn11, yn11⟩, dn11⟩, hne0⟩ | ⟨n10, n11, rfl, rfl, ⟨⟨zn10, yn10⟩, dn10⟩, ⟨⟨zn11, yn11⟩, dn11⟩, hne0⟩
  · left
    refine ⟨[1, 4, 5], by kernel_rfl, by simp, ?_⟩
    simp only [Act.put, List.getElem_toArray, List.getElem_cons_succ, List.getElem_cons_zero, List.setIfInBounds_toArray, List.set_cons_zero, List.set_cons_succ]
    refine all_cons ?_ (all_cons ?_ (all_cons ?_ (all_nil)))
    · refine wpOp_step rfl (fun Kq hKq => ?_)
      go_simp
      refine (KRN.out _).mono ?_
      rintro e W1 ⟨rfl, hw1⟩
      have hz1 := hw1.size
      refine hKq _ _ ?_
      exact ⟨⟨⟨block_below0 hw1 cS0, block_below0 hw1 cS1, block_below0 hw1 cS2⟩, below_step hw1 hB (by have := hB.size; omega), by omega⟩, (Or.inr (Or.inl ⟨by rfl, by rfl⟩))⟩
    · refine wpOp_step rfl (fun Kq hKq => ?_)
      rw [if_pos (by rfl)]
      refine wp_alloc_row 92 (zA) rfl (HZA.out _) ?_
      have hw1 : Below W.heap.size W (W.alloc (.cells (zA) 92)) := by (repeat' (first | (with_reducible exact Below.refl _ _) | (with_reducible assumption) | (with_reducible refine Below.alloc ?_ ?_ _) | (with_reducible refine Below.drew ?_) | (with_reducible refine below_drewN ?_ _) | (with_reducible refine Below.setCell ?_ ?_ _) | (with_reducible refine below_step (by with_reducible assumption) ?_ ?_) | (with_reducible exact Below.size (by with_reducible assumption)) | go_size))
      have hz1 : (W.alloc (.cells (zA) 92)).heap.size = W.heap.size + 1 := by simp
      refine hKq _ _ ?_
      exact ⟨⟨⟨block_below0 hw1 cS0, block_below0 hw1 cS1, block_below0 hw1 cS2⟩, below_step hw1 hB (by have := hB.size; omega), by omega⟩, (Or.inr (Or.inr (Or.inl ⟨W.heap.size, by rfl, by rfl, ⟨⟨by omega, by omega⟩, heap_alloc_last W _⟩⟩)))⟩
    · refine wpOp_step rfl (fun Kq hKq => ?_)
      rw [if_pos (by rfl)]
      refine wp_alloc_row 95 (zS) rfl (HZS.out _) ?_
      have hw1 : Below W.heap.size W (W.alloc (.cells (zS) 95)) := by (repeat' (first | (with_reducible exact Below.refl _ _) | (with_reducible assumption) | (with_reducible refine Below.alloc ?_ ?_ _) | (with_reducible refine Below.drew ?_) | (with_reducible refine below_drewN ?_ _) | (with_reducible refine Below.setCell ?_ ?_ _) | (with_reducible refine below_step (by with_reducible assumption) ?_ ?_) | (with_reducible exact Below.size (by with_reducible assumption)) | go_size))
      have hz1 : (W.alloc (.cells (zS) 95)).heap.size = W.heap.size + 1 := by simp
      refine hKq _ _ ?_
      exact ⟨⟨⟨block_below0 hw1 cS0, block_below0 hw1 cS1, block_below0 hw1 cS2⟩, below_step hw1 hB (by have := hB.size; omega), by omega⟩, (Or.inr (Or.inr (Or.inr (Or.inl ⟨W.heap.size, by rfl, by rfl, ⟨⟨by omega, by omega⟩, heap_alloc_last W _⟩⟩))))⟩
  · left
    refine ⟨[3, 4, 5], by kernel_rfl, by simp, ?_⟩
    simp only [Act.put, List.getElem_toArray, List.getElem_cons_succ, List.getElem_cons_zero, List.setIfInBounds_toArray, List.set_cons_zero, List.set_cons_succ]
    refine all_cons ?_ (all_cons ?_ (all_cons ?_ (all_nil)))
    · refine wpOp_step rfl (fun Kq hKq => ?_)
      go_simp
      refine (KRE.out _).mono ?_
      rintro e W1 ⟨rfl, hw1⟩
      have hz1 := hw1.size
      refine hKq _ _ ?_
      exact ⟨⟨⟨block_below0 hw1 cS0, block_below0 hw1 cS1, block_below0 hw1 cS2⟩, below_step hw1 hB (by have := hB.size; omega), by omega⟩, (Or.inr (Or.inr (Or.inr (Or.inr (Or.inl ⟨by rfl, by rfl⟩)))))⟩
    · refine wpOp_step rfl (fun Kq hKq => ?_)
      rw [if_pos (by rfl)]
      refine wp_alloc_row 92 (zA) rfl (HZA.out _) ?_
      have hw1 : Below W.heap.size W (W.alloc (.cells (zA) 92)) := by (repeat' (first | (with_reducible exact Below.refl _ _) | (with_reducible assumption) | (with_reducible refine Below.alloc ?_ ?_ _) | (with_reducible refine Below.drew ?_) | (with_reducible refine below_drewN ?_ _) | (with_reducible refine Below.setCell ?_ ?_ _) | (with_reducible refine below_step (by with_reducible assumption) ?_ ?_) | (with_reducible exact Below.size (by with_reducible assumption)) | go_size))
      have hz1 : (W.alloc (.cells (zA) 92)).heap.size = W.heap.size + 1 := by simp
      refine hKq _ _ ?_
      exact ⟨⟨⟨block_below0 hw1 cS0, block_below0 hw1 cS1, block_below0 hw1 cS2⟩, below_step hw1 hB (by have := hB.size; omega), by omega⟩, (Or.inr (Or.inr (Or.inr (Or.inr (Or.inr (Or.inl ⟨W.heap.size, by rfl, by rfl, ⟨⟨by omega, by omega⟩, heap_alloc_last W _⟩⟩))))))⟩
    · refine wpOp_step rfl (fun Kq hKq => ?_)
      rw [if_pos (by rfl)]
      refine wp_alloc_row 95 (zS) rfl (HZS.out _) ?_
      have hw1 : Below W.heap.size W (W.alloc (.cells (zS) 95)) := by (repeat' (first | (with_reducible exact Below.refl _ _) | (with_reducible assumption) | (with_reducible refine Below.alloc ?_ ?_ _) | (with_reducible refine Below.drew ?_) | (with_reducible refine below_drewN ?_ _) | (with_reducible refine Below.setCell ?_ ?_ _) | (with_reducible refine below_step (by with_reducible assumption) ?_ ?_) | (with_reducible exact Below.size (by with_reducible assumption)) | go_size))
      have hz1 : (W.alloc (.cells (zS) 95)).heap.size = W.heap.size + 1 := by simp
      refine hKq _ _ ?_
      exact ⟨⟨⟨block_below0 hw1 cS0, block_below0 hw1 cS1, block_below0 hw1 cS2⟩, below_step hw1 hB (by have := hB.size; omega), by omega⟩, (Or.inr (Or.inr (Or.inr (Or.inr (Or.inr (Or.inr (Or.inl ⟨W.heap.size, by rfl, by rfl, ⟨⟨by omega, by omega⟩, heap_alloc_last W _⟩⟩)))))))⟩
  · left
    refine ⟨[1, 5], by kernel_rfl, by simp, ?_⟩
    simp only [Act.put, List.getElem_toArray, List.getElem_cons_succ, List.getElem_cons_zero, List.setIfInBounds_toArray, List.set_cons_zero, List.set_cons_succ]
    refine all_cons ?_ (all_cons ?_ (all_nil))
    · refine wpOp_step rfl (fun Kq hKq => ?_)
      go_simp
      refine (KRN.out _).mono ?_
      rintro e W1 ⟨rfl, hw1⟩
      have hz1 := hw1.size
      refine hKq _ _ ?_
      exact ⟨⟨⟨block_below0 hw1 cS0, block_below0 hw1 cS1, block_below0 hw1 cS2⟩, below_step hw1 hB (by have := hB.size; omega), by omega⟩, (Or.inr (Or.inr (Or.inr (Or.inr (Or.inr (Or.inl ⟨n10, by rfl, by rfl, ⟨⟨zn10, by omega⟩, block_below0 hw1 dn10⟩⟩))))))⟩
    · refine wpOp_step rfl (fun Kq hKq => ?_)
      rw [if_pos (by rfl)]
      refine wp_alloc_row 95 (zS) rfl (HZS.out _) ?_
      have hw1 : Below W.heap.size W (W.alloc (.cells (zS) 95)) := by (repeat' (first | (with_reducible exact Below.refl _ _) | (with_reducible assumption) | (with_reducible refine Below.alloc ?_ ?_ _) | (with_reducible refine Below.drew ?_) | (with_reducible refine below_drewN ?_ _) | (with_reducible refine Below.setCell ?_ ?_ _) | (with_reducible refine below_step (by with_reducible assumption) ?_ ?_) | (with_reducible exact Below.size (by with_reducible assumption)) | go_size))
      have hz1 : (W.alloc (.cells (zS) 95)).heap.size = W.heap.size + 1 := by simp
      refine hKq _ _ ?_
      exact ⟨⟨⟨block_below0 hw1 cS0, block_below0 hw1 cS1, block_below0 hw1 cS2⟩, below_step hw1 hB (by have := hB.size; omega), by omega⟩, (Or.inr (Or.inr (Or.inr (Or.inr (Or.inr (Or.inr (Or.inr (Or.inl ⟨n10, W.heap.size, by rfl, by rfl, ⟨⟨zn10, by omega⟩, block_below0 hw1 dn10⟩, ⟨⟨by omega, by omega⟩, heap_alloc_last W _⟩, by omega⟩))))))))⟩
  · left
    refine ⟨[1, 4], by kernel_rfl, by simp, ?_⟩
    simp only [Act.put, List.getElem_toArray, List.getElem_cons_succ, List.getElem_cons_zero, List.setIfInBounds_toArray, List.set_cons_zero, List.set_cons_succ]
    refine all_cons ?_ (all_cons ?_ (all_nil))
    · refine wpOp_step rfl (fun Kq hKq => ?_)
      go_simp
      refine (KRN.out _).mono ?_
      rintro e W1 ⟨rfl, hw1⟩
      have hz1 := hw1.size
      refine hKq _ _ ?_
      exact ⟨⟨⟨block_below0 hw1 cS0, block_below0 hw1 cS1, block_below0 hw1 cS2⟩, below_step hw1 hB (by have := hB.size; omega), by omega⟩, (Or.inr (Or.inr (Or.inr (Or.inr (Or.inr (Or.inr (Or.inl ⟨n11, by rfl, by rfl, ⟨⟨zn11, by omega⟩, block_below0 hw1 dn11⟩⟩)))))))⟩
    · refine wpOp_step rfl (fun Kq hKq => ?_)
      rw [if_pos (by rfl)]
      refine wp_alloc_row 92 (zA) rfl (HZA.out _) ?_
      have hw1 : Below W.heap.size W (W.alloc (.cells (zA) 92)) := by (repeat' (first | (with_reducible exact Below.refl _ _) | (with_reducible assumption) | (with_reducible refine Below.alloc ?_ ?_ _) | (with_reducible refine Below.drew ?_) | (with_reducible refine below_drewN ?_ _) | (with_reducible refine Below.setCell ?_ ?_ _) | (with_reducible refine below_step (by with_reducible assumption) ?_ ?_) | (with_reducible exact Below.size (by with_reducible assumption)) | go_size))
      have hz1 : (W.alloc (.cells (zA) 92)).heap.size = W.heap.size + 1 := by simp
      refine hKq _ _ ?_
      exact ⟨⟨⟨block_below0 hw1 cS0, block_below0 hw1 cS1, block_below0 hw1 cS2⟩, below_step hw1 hB (by have := hB.size; omega), by omega⟩, (Or.inr (Or.inr (Or.inr (Or.inr (Or.inr (Or.inr (Or.inr (Or.inl ⟨W.heap.size, n11, by rfl, by rfl, ⟨⟨by omega, by omega⟩, heap_alloc_last W _⟩, ⟨⟨zn11, by omega⟩, block_below0 hw1 dn11⟩, by omega⟩))))))))⟩
  · left
    refine ⟨[4, 5], by kernel_rfl, by simp, ?_⟩
    simp only [Act.put, List.getElem_toArray, List.getElem_cons_succ, List.getElem_cons_zero, List.setIfInBounds_toArray, List.set_cons_zero, List.set_cons_succ]
    refine all_cons ?_ (all_cons ?_ (all_nil))
    · refine wpOp_step rfl (fun Kq hKq => ?_)
      rw [if_pos (by rfl)]
      refine wp_alloc_row 92 (zA) rfl (HZA.out _) ?_
      have hw1 : Below W.heap.size W (W.alloc (.cells (zA) 92)) := by (repeat' (first | (with_reducible exact Below.refl _ _) | (with_reducible assumption) | (with_reducible refine Below.alloc ?_ ?_ _) | (with_reducible refine Below.drew ?_) | (with_reducible refine below_drewN ?_ _) | (with_reducible refine Below.setCell ?_ ?_ _) | (with_reducible refine below_step (by with_reducible assumption) ?_ ?_) | (with_reducible exact Below.size (by with_reducible assumption)) | go_size))
      have hz1 : (W.alloc (.cells (zA) 92)).heap.size = W.heap.size + 1 := by simp
      refine hKq _ _ ?_
      exact ⟨⟨⟨block_below0 hw1 cS0, block_below0 hw1 cS1, block_below0 hw1 cS2⟩, below_step hw1 hB (by have := hB.size; omega), by omega⟩, (Or.inr (Or.inr (Or.inr (Or.inr (Or.inr (Or.inr (Or.inr (Or.inr (Or.inl ⟨W.heap.size, by rfl, by rfl, ⟨⟨by omega, by omega⟩, heap_alloc_last W _⟩⟩)))))))))⟩
    · refine wpOp_step rfl (fun Kq hKq => ?_)
      rw [if_pos (by rfl)]
      refine wp_alloc_row 95 (zS) rfl (HZS.out _) ?_
      have hw1 : Below W.heap.size W (W.alloc (.cells (zS) 95)) := by (repeat' (first | (with_reducible exact Below.refl _ _) | (with_reducible assumption) | (with_reducible refine Below.alloc ?_ ?_ _) | (with_reducible refine Below.drew ?_) | (with_reducible refine below_drewN ?_ _) | (with_reducible refine Below.setCell ?_ ?_ _) | (with_reducible refine below_step (by with_reducible assumption) ?_ ?_) | (with_reducible exact Below.size (by with_reducible assumption)) | go_size))
      have hz1 : (W.alloc (.cells (zS) 95)).heap.size = W.heap.size + 1 := by simp
      refine hKq _ _ ?_
      exact ⟨⟨⟨block_below0 hw1 cS0, block_below0 hw1 cS1, block_below0 hw1 cS2⟩, below_step hw1 hB (by have := hB.size; omega), by omega⟩, (Or.inr (Or.inr (Or.inr (Or.inr (Or.inr (Or.inr (Or.inr (Or.inr (Or.inr (Or.inl ⟨W.heap.size, by rfl, by rfl, ⟨⟨by omega, by omega⟩, heap_alloc_last W _⟩⟩))))))))))⟩
  · left
    refine ⟨[3, 5], by kernel_rfl, by simp, ?_⟩
    simp only [Act.put, List.getElem_toArray, List.getElem_cons_succ, List.getElem_cons_zero, List.setIfInBounds_toArray, List.set_cons_zero, List.set_cons_succ]
    refine all_cons ?_ (all_cons ?_ (all_nil))
    · refine wpOp_step rfl (fun Kq hKq => ?_)
      go_simp
      refine (KRE.out _).mono ?_
      rintro e W1 ⟨rfl, hw1⟩
      have hz1 := hw1.size
      refine hKq _ _ ?_
      exact ⟨⟨⟨block_below0 hw1 cS0, block_below0 hw1 cS1, block_below0 hw1 cS2⟩, below_step hw1 hB (by have := hB.size; omega), by omega⟩, (Or.inr (Or.inr (Or.inr (Or.inr (Or.inr (Or.inr (Or.inr (Or.inr (Or.inl ⟨n10, by rfl, by rfl, ⟨⟨zn10, by omega⟩, block_below0 hw1 dn10⟩⟩)))))))))⟩
    · refine wpOp_step rfl (fun Kq hKq => ?_)
      rw [if_pos (by rfl)]
      refine wp_alloc_row 95 (zS) rfl (HZS.out _) ?_
      have hw1 : Below W.heap.size W (W.alloc (.cells (zS) 95)) := by (repeat' (first | (with_reducible exact Below.refl _ _) | (with_reducible assumption) | (with_reducible refine Below.alloc ?_ ?_ _) | (with_reducible refine Below.drew ?_) | (with_reducible refine below_drewN ?_ _) | (with_reducible refine Below.setCell ?_ ?_ _) | (with_reducible refine below_step (by with_reducible assumption) ?_ ?_) | (with_reducible exact Below.size (by with_reducible assumption)) | go_size))
      have hz1 : (W.alloc (.cells (zS) 95)).heap.size = W.heap.size + 1 := by simp
      refine hKq _ _ ?_
      exact ⟨⟨⟨block_below0 hw1 cS0, block_below0 hw1 cS1, block_below0 hw1 cS2⟩, below_step hw1 hB (by have := hB.size; omega), by omega⟩, (Or.inr (Or.inr (Or.inr (Or.inr (Or.inr (Or.inr (Or.inr (Or.inr (Or.inr (Or.inr (Or.inl ⟨n10, W.heap.size, by rfl, by rfl, ⟨⟨zn10, by omega⟩, block_below0 hw1 dn10⟩, ⟨⟨by omega, by omega⟩, heap_alloc_last W _⟩, by omega⟩)))))))))))⟩
  · left
    refine ⟨[3, 4], by kernel_rfl, by simp, ?_⟩
    simp only [Act.put, List.getElem_toArray, List.getElem_cons_succ, List.getElem_cons_zero, List.setIfInBounds_toArray, List.set_cons_zero, List.set_cons_succ]
    refine all_cons ?_ (all_cons ?_ (all_nil))
    · refine wpOp_step rfl (fun Kq hKq => ?_)
      go_simp
      refine (KRE.out _).mono ?_
      rintro e W1 ⟨rfl, hw1⟩
      have hz1 := hw1.size
      refine hKq _ _ ?_
      exact ⟨⟨⟨block_below0 hw1 cS0, block_below0 hw1 cS1, block_below0 hw1 cS2⟩, below_step hw1 hB (by have := hB.size; omega), by omega⟩, (Or.inr (Or.inr (Or.inr (Or.inr (Or.inr (Or.inr (Or.inr (Or.inr (Or.inr (Or.inl ⟨n11, by rfl, by rfl, ⟨⟨zn11, by omega⟩, block_below0 hw1 dn11⟩⟩))))))))))⟩
    · refine wpOp_step rfl (fun Kq hKq => ?_)
      rw [if_pos (by rfl)]
      refine wp_alloc_row 92 (zA) rfl (HZA.out _) ?_
      have hw1 : Below W.heap.size W (W.alloc (.cells (zA) 92)) := by (repeat' (first | (with_reducible exact Below.refl _ _) | (with_reducible assumption) | (with_reducible refine Below.alloc ?_ ?_ _) | (with_reducible refine Below.drew ?_) | (with_reducible refine below_drewN ?_ _) | (with_reducible refine Below.setCell ?_ ?_ _) | (with_reducible refine below_step (by with_reducible assumption) ?_ ?_) | (with_reducible exact Below.size (by with_reducible assumption)) | go_size))
      have hz1 : (W.alloc (.cells (zA) 92)).heap.size = W.heap.size + 1 := by simp
      refine hKq _ _ ?_
      exact ⟨⟨⟨block_below0 hw1 cS0, block_below0 hw1 cS1, block_below0 hw1 cS2⟩, below_step hw1 hB (by have := hB.size; omega), by omega⟩, (Or.inr (Or.inr (Or.inr (Or.inr (Or.inr (Or.inr (Or.inr (Or.inr (Or.inr (Or.inr (Or.inl ⟨W.heap.size, n11, by rfl, by rfl, ⟨⟨by omega, by omega⟩, heap_alloc_last W _⟩, ⟨⟨zn11, by omega⟩, block_below0 hw1 dn11⟩, by omega⟩)))))))))))⟩
  · left
    refine ⟨[1], by kernel_rfl, by simp, ?_⟩
    simp only [Act.put, List.getElem_toArray, List.getElem_cons_succ, List.getElem_cons_zero, List.setIfInBounds_toArray, List.set_cons_zero, List.set_cons_succ]
    refine all_cons ?_ (all_nil)
    · refine wpOp_step rfl (fun Kq hKq => ?_)
      go_simp
      refine (KRN.out _).mono ?_
      rintro e W1 ⟨rfl, hw1⟩
      have hz1 := hw1.size
      refine hKq _ _ ?_
      exact ⟨⟨⟨block_below0 hw1 cS0, block_below0 hw1 cS1, block_below0 hw1 cS2⟩, below_step hw1 hB (by have := hB.size; omega), by omega⟩, (Or.inr (Or.inr (Or.inr (Or.inr (Or.inr (Or.inr (Or.inr (Or.inr (Or.inr (Or.inr (Or.inl ⟨n10, n11, by rfl, by rfl, ⟨⟨zn10, by omega⟩, block_below0 hw1 dn10⟩, ⟨⟨zn11, by omega⟩, block_below0 hw1 dn11⟩, by omega⟩)))))))))))⟩
  · left
    refine ⟨[5], by kernel_rfl, by simp, ?_⟩
    simp only [Act.put, List.getElem_toArray, List.getElem_cons_succ, List.getElem_cons_zero, List.setIfInBounds_toArray, List.set_cons_zero, List.set_cons_succ]
    refine all_cons ?_ (all_nil)
    · refine wpOp_step rfl (fun Kq hKq => ?_)
      rw [if_pos (by rfl)]
      refine wp_alloc_row 95 (zS) rfl (HZS.out _) ?_
      have hw1 : Below W.heap.size W (W.alloc (.cells (zS) 95)) := by (repeat' (first | (with_reducible exact Below.refl _ _) | (with_reducible assumption) | (with_reducible refine Below.alloc ?_ ?_ _) | (with_reducible refine Below.drew ?_) | (with_reducible refine below_drewN ?_ _) | (with_reducible refine Below.setCell ?_ ?_ _) | (with_reducible refine below_step (by with_reducible assumption) ?_ ?_) | (with_reducible exact Below.size (by with_reducible assumption)) | go_size))
      have hz1 : (W.alloc (.cells (zS) 95)).heap.size = W.heap.size + 1 := by simp
      refine hKq _ _ ?_
      exact ⟨⟨⟨block_below0 hw1 cS0, block_below0 hw1 cS1, block_below0 hw1 cS2⟩, below_step hw1 hB (by have := hB.size; omega), by omega⟩, (Or.inr (Or.inr (Or.inr (Or.inr (Or.inr (Or.inr (Or.inr (Or.inr (Or.inr (Or.inr (Or.inr ⟨n10, W.heap.size, by rfl, by rfl, ⟨⟨zn10, by omega⟩, block_below0 hw1 dn10⟩, ⟨⟨by omega, by omega⟩, heap_alloc_last W _⟩, by omega⟩)))))))))))⟩
  · left
    refine ⟨[4], by kernel_rfl, by simp, ?_⟩
    simp only [Act.put, List.getElem_toArray, List.getElem_cons_succ, List.getElem_cons_zero, List.setIfInBounds_toArray, List.set_cons_zero, List.set_cons_succ]
    refine all_cons ?_ (all_nil)
    · refine wpOp_step rfl (fun Kq hKq => ?_)
      rw [if_pos (by rfl)]
      refine wp_alloc_row 92 (zA) rfl (HZA.out _) ?_
      have hw1 : Below W.heap.size W (W.alloc (.cells (zA) 92)) := by (repeat' (first | (with_reducible exact Below.refl _ _) | (with_reducible assumption) | (with_reducible refine Below.alloc ?_ ?_ _) | (with_reducible refine Below.drew ?_) | (with_reducible refine below_drewN ?_ _) | (with_reducible refine Below.setCell ?_ ?_ _) | (with_reducible refine below_step (by with_reducible assumption) ?_ ?_) | (with_reducible exact Below.size (by with_reducible assumption)) | go_size))
      have hz1 : (W.alloc (.cells (zA) 92)).heap.size = W.heap.size + 1 := by simp
      refine hKq _ _ ?_
      exact ⟨⟨⟨block_below0 hw1 cS0, block_below0 hw1 cS1, block_below0 hw1 cS2⟩, below_step hw1 hB (by have := hB.size; omega), by omega⟩, (Or.inr (Or.inr (Or.inr (Or.inr (Or.inr (Or.inr (Or.inr (Or.inr (Or.inr (Or.inr (Or.inr ⟨W.heap.size, n11, by rfl, by rfl, ⟨⟨by omega, by omega⟩, heap_alloc_last W _⟩, ⟨⟨zn11, by omega⟩, block_below0 hw1 dn11⟩, by omega⟩)))))))))))⟩
  · left
    refine ⟨[3], by kernel_rfl, by simp, ?_⟩
    simp only [Act.put, List.getElem_toArray, List.getElem_cons_succ, List.getElem_cons_zero, List.setIfInBounds_toArray, List.set_cons_zero, List.set_cons_succ]
    refine all_cons ?_ (all_nil)
    · refine wpOp_step rfl (fun Kq hKq => ?_)
      go_simp
      refine (KRE.out _).mono ?_
      rintro e W1 ⟨rfl, hw1⟩
      have hz1 := hw1.size
      refine hKq _ _ ?_
      exact ⟨⟨⟨block_below0 hw1 cS0, block_below0 hw1 cS1, block_below0 hw1 cS2⟩, below_step hw1 hB (by have := hB.size; omega), by omega⟩, (Or.inr (Or.inr (Or.inr (Or.inr (Or.inr (Or.inr (Or.inr (Or.inr (Or.inr (Or.inr (Or.inr ⟨n10, n11, by rfl, by rfl, ⟨⟨zn10, by omega⟩, block_below0 hw1 dn10⟩, ⟨⟨zn11, by omega⟩, block_below0 hw1 dn11⟩, by omega⟩)))))))))))⟩
  right
  refine wpAnyH_fuel 2 (by rfl) ?_
  simp only [Act.put, List.getElem_toArray, List.getElem_cons_succ, List.getElem_cons_zero, List.setIfInBounds_toArray, List.set_cons_zero, List.set_cons_succ]
  have : ¬ n10 = w2.heap.size := by omega
  have : ¬ w2.heap.size = n10 := by omega
  have : ¬ n10 = w3.heap.size := by omega
  have : ¬ w3.heap.size = n10 := by omega
  have : ¬ n10 = w4.heap.size := by omega
  have : ¬ w4.heap.size = n10 := by omega
  have : ¬ n11 = w2.heap.size := by omega
  have : ¬ w2.heap.size = n11 := by omega
  have : ¬ n11 = w3.heap.size := by omega
  have : ¬ w3.heap.size = n11 := by omega
  have : ¬ n11 = w4.heap.size := by omega
  have : ¬ w4.heap.size = n11 := by omega
  have : ¬ n10 = n11 := by omega
  have : ¬ n11 = n10 := by omega
  clear hH1
  refine wpAnyH_ready (rs := [6]) (by kernel_rfl) (by simp) ?_
  refine AllReadyH.cons rfl (fun Kq hKq => ?_) AllReadyH.nil
  rw [if_pos (by rfl)]
  refine wp_store_row 92 92 _ _ n10 (zA) (A) rfl rfl rfl (by rw [hsA.out]; exact infoAna) (by rw [hzA.out, hsA.out]) hoA.out (dn10) ?_
  refine hKq.out _ _ ?_ (fun hH2 => ?_)
  · exact ⟨(block_setRow_other (by assumption)).trans cS0, (block_setRow_other (by assumption)).trans cS1, (block_setRow_other (by assumption)).trans cS2⟩
  clear hKq Kq
  have hH2k := hH2
  obtain ⟨cS0hH2, cS1hH2, cS2hH2⟩ := hH2k
  refine wpAnyH_ready (rs := [7]) (by kernel_rfl) (by simp) ?_
  refine AllReadyH.cons rfl (fun Kq hKq => ?_) AllReadyH.nil
  rw [if_pos (by rfl)]
  refine wp_store_row 95 95 _ _ n11 (zS) (S) rfl rfl rfl (by rw [hsS.out]; exact infoSq) (by rw [hzS.out, hsS.out]) hoS.out ((block_setRow_other (by assumption)).trans (dn11)) ?_
  refine hKq.out _ _ ?_ (fun hH3 => ?_)
  · exact ⟨(block_setRow_other (by assumption)).trans cS0hH2, (block_setRow_other (by assumption)).trans cS1hH2, (block_setRow_other (by assumption)).trans cS2hH2⟩
  clear hKq Kq
  have hH3k := hH3
  obtain ⟨cS0hH3, cS1hH3, cS2hH3⟩ := hH3k
  refine wpAnyH_fin (T := fun W => (W.heap[w2.heap.size]? = some (.cells (c) 26 (0, 0)) ∧ W.heap[w3.heap.size]? = some (.cells (A) 92 (0, 0)) ∧ W.heap[w4.heap.size]? = some (.cells (S) 95 (0, 0))) ∧ (W.heap[n10]? = some (.cells (A) 92 (0, 0)) ∧ W.heap[n11]? = some (.cells (S) 95 (0, 0))) ∧ (n10 < W.heap.size ∧ n11 < W.heap.size ∧ (w5.heap.size) ≤ W.heap.size) ∧ Below w.heap.size w W) (by kernel_rfl) ⟨hH3, ?_, ?_, ?_⟩ (fun W1 hT => ?_)
  · exact ⟨(block_setRow_other (by assumption)).trans (block_setRow (dn10)), block_setRow ((block_setRow_other (by assumption)).trans (dn11))⟩
  · exact ⟨(Array.getElem?_eq_some_iff.1 ((block_setRow_other (by assumption)).trans (block_setRow (dn10)))).1, (Array.getElem?_eq_some_iff.1 (block_setRow ((block_setRow_other (by assumption)).trans (dn11)))).1, Nat.le_of_lt (Nat.lt_of_le_of_lt zn10 ((Array.getElem?_eq_some_iff.1 ((block_setRow_other (by assumption)).trans (block_setRow (dn10)))).1))⟩
  · exact (below_setRow (below_setRow hB (A) (by omega)) (S) (by omega))
  obtain ⟨⟨gS0, gS1, gS2⟩, ⟨gF0, gF1⟩, ⟨gZ0, gZ1, gZ2⟩, hB1⟩ := hT
  go_wp2_with fail
  refine wp_region_held_drew (S := fun w' => w'.heap[w3.heap.size]? = some (.cells (A) 92 (0, 0)) ∧ w'.heap[w4.heap.size]? = some (.cells (S) 95 (0, 0)) ∧ w'.heap[n10]? = some (.cells (A) 92 (0, 0)) ∧ w'.heap[n11]? = some (.cells (S) 95 (0, 0))) (by kernel_rfl) ?_ (fun hH4 => ?_)
  · (first | assumption | (refine ⟨?_, ?_, ?_, ?_⟩ <;> (first | assumption | ((repeat (first | assumption | (refine heap_alloc_at ?_; (first | rfl | (simp only [World.size_alloc, World.size_drew, World.size_setCell, size_drewN]; done))) | refine block_alloc ?_ | refine Buf.alloc ?_ _ | refine Buf.drew ?_ | refine Buf.setCell ?_ (by omega) _ _)); done) | (go_keep; done) | (simp [*, go_sem]; done))))
  refine wpAnyH_pure (i := 0) (v := ?_) rfl (by kernel_rfl) (by kernel_rfl) (by kernel_rfl) (fun _ _ _ h => h) (by rfl) (by assumption) ?_ ?_
  rotate_left
  · (intro w hSw; (try dsimp only at hSw); go_simp; (try with_reducible rfl))
  simp only [Act.put, List.getElem_toArray, List.getElem_cons_succ, List.getElem_cons_zero, List.setIfInBounds_toArray, List.set_cons_zero, List.set_cons_succ]
  refine wpAnyH_pure (i := 1) (v := ?_) rfl (by kernel_rfl) (by kernel_rfl) (by kernel_rfl) (fun _ _ _ h => h) (by rfl) (by assumption) ?_ ?_
  rotate_left
  · (intro w hSw; (try dsimp only at hSw); go_simp; (try with_reducible rfl))
  simp only [Act.put, List.getElem_toArray, List.getElem_cons_succ, List.getElem_cons_zero, List.setIfInBounds_toArray, List.set_cons_zero, List.set_cons_succ]
  refine wpAnyH_pure (i := 2) (v := ?_) rfl (by kernel_rfl) (by kernel_rfl) (by kernel_rfl) (fun _ _ _ h => h) (by rfl) (by assumption) ?_ ?_
  rotate_left
  · (intro w hSw; (try dsimp only at hSw); go_simp; (try with_reducible rfl))
  simp only [Act.put, List.getElem_toArray, List.getElem_cons_succ, List.getElem_cons_zero, List.setIfInBounds_toArray, List.set_cons_zero, List.set_cons_succ]
  refine wpAnyH_pure (i := 3) (v := ?_) rfl (by kernel_rfl) (by kernel_rfl) (by kernel_rfl) (fun _ _ _ h => h) (by first | rfl | (simp [Region.wanted, yielded, *]; done)) (by assumption) ?_ ?_
  rotate_left
  · (intro w hSw; (try dsimp only at hSw); go_simp; (try with_reducible rfl))
  simp only [Act.put, List.getElem_toArray, List.getElem_cons_succ, List.getElem_cons_zero, List.setIfInBounds_toArray, List.set_cons_zero, List.set_cons_succ]
  refine wpAnyH_pure (i := 4) (v := ?_) rfl (by kernel_rfl) (by kernel_rfl) (by kernel_rfl) (fun _ _ _ h => h) (by first | rfl | (simp [Region.wanted, yielded, *]; done)) (by assumption) ?_ ?_
  rotate_left
  · (intro w hSw; (try dsimp only at hSw); go_simp; (try with_reducible rfl))
  simp only [Act.put, List.getElem_toArray, List.getElem_cons_succ, List.getElem_cons_zero, List.setIfInBounds_toArray, List.set_cons_zero, List.set_cons_succ]
  refine wpAnyH_ready (rs := [5]) (by kernel_rfl) (by simp) ?_
  refine AllReadyH.cons rfl (fun Kq hKq => ?_) AllReadyH.nil
  go_simp
  refine (KB.out _ _ _ hH4.1 hH4.2.2.1).mono ?_
  (rintro e w9 ⟨rfl, hw9⟩)
  obtain ⟨hcw9, hfw9, hlw9, hmw9, hnw9⟩ := bcell3 hw9
  have hzw9 := hw9.size
  (try simp only [World.size_alloc, World.size_setCell, World.size_drew, size_drewN] at hzw9)
  have cx9_0 : w9.heap[w3.heap.size]? = some (.cells (A) 92 (0, 0)) := block_below0 hw9 (by first | assumption | (repeat (first | assumption | (refine heap_alloc_at ?_; (first | rfl | (simp only [World.size_alloc, World.size_drew, World.size_setCell, size_drewN]; done))) | refine block_alloc ?_)))
  have cs9_0 : w9.heap[w4.heap.size]? = some (.cells (S) 95 (0, 0)) := block_below0 hw9 (by first | assumption | (repeat (first | assumption | (refine heap_alloc_at ?_; (first | rfl | (simp only [World.size_alloc, World.size_drew, World.size_setCell, size_drewN]; done))) | refine block_alloc ?_)))
  have cn109_0 : w9.heap[n10]? = some (.cells (A) 92 (0, 0)) := block_below0 hw9 (by first | assumption | (repeat (first | assumption | (refine heap_alloc_at ?_; (first | rfl | (simp only [World.size_alloc, World.size_drew, World.size_setCell, size_drewN]; done))) | refine block_alloc ?_)))
  have cn119_0 : w9.heap[n11]? = some (.cells (S) 95 (0, 0)) := block_below0 hw9 (by first | assumption | (repeat (first | assumption | (refine heap_alloc_at ?_; (first | rfl | (simp only [World.size_alloc, World.size_drew, World.size_setCell, size_drewN]; done))) | refine block_alloc ?_)))
  refine hKq.out _ _ ?_ (fun hH5 => ?_)
  · (first | assumption | (refine ⟨?_, ?_, ?_, ?_⟩ <;> (first | assumption | ((repeat (first | assumption | (refine heap_alloc_at ?_; (first | rfl | (simp only [World.size_alloc, World.size_drew, World.size_setCell, size_drewN]; done))) | refine block_alloc ?_ | refine Buf.alloc ?_ _ | refine Buf.drew ?_ | refine Buf.setCell ?_ (by omega) _ _)); done) | (go_keep; done) | (simp [*, go_sem]; done))))
  clear hKq Kq
  clear hH4
  refine wpAnyH_pure (i := 6) (v := ?_) rfl (by kernel_rfl) (by kernel_rfl) (by kernel_rfl) (fun _ _ _ h => h) (by rfl) (by assumption) ?_ ?_
  rotate_left
  · (intro w hSw; (try dsimp only at hSw); go_simp; (try with_reducible rfl))
  simp only [Act.put, List.getElem_toArray, List.getElem_cons_succ, List.getElem_cons_zero, List.setIfInBounds_toArray, List.set_cons_zero, List.set_cons_succ]
  refine wpAnyH_pure (i := 7) (v := ?_) rfl (by kernel_rfl) (by kernel_rfl) (by kernel_rfl) (fun _ _ _ h => h) (by rfl) (by assumption) ?_ ?_
  rotate_left
  · (intro w hSw; (try dsimp only at hSw); go_simp; (try with_reducible rfl))
  simp only [Act.put, List.getElem_toArray, List.getElem_cons_succ, List.getElem_cons_zero, List.setIfInBounds_toArray, List.set_cons_zero, List.set_cons_succ]
  refine wpAnyH_pure (i := 8) (v := ?_) rfl (by kernel_rfl) (by kernel_rfl) (by kernel_rfl) (fun _ _ _ h => h) (by first | rfl | (simp [Region.wanted, yielded, *]; done)) (by assumption) ?_ ?_
  rotate_left
  · (intro w hSw; (try dsimp only at hSw); go_simp; (try with_reducible rfl))
  simp only [Act.put, List.getElem_toArray, List.getElem_cons_succ, List.getElem_cons_zero, List.setIfInBounds_toArray, List.set_cons_zero, List.set_cons_succ]
  refine wpAnyH_pure (i := 9) (v := ?_) rfl (by kernel_rfl) (by kernel_rfl) (by kernel_rfl) (fun _ _ _ h => h) (by first | rfl | (simp [Region.wanted, yielded, *]; done)) (by assumption) ?_ ?_
  rotate_left
  · (intro w hSw; (try dsimp only at hSw); go_simp; (try with_reducible rfl))
  simp only [Act.put, List.getElem_toArray, List.getElem_cons_succ, List.getElem_cons_zero, List.setIfInBounds_toArray, List.set_cons_zero, List.set_cons_succ]
  refine wpAnyH_pure (i := 10) (v := ?_) rfl (by kernel_rfl) (by kernel_rfl) (by kernel_rfl) (fun _ _ _ h => h) (by rfl) (by assumption) ?_ ?_
  rotate_left
  · (intro w hSw; (try dsimp only at hSw); go_simp; (try with_reducible rfl))
  simp only [Act.put, List.getElem_toArray, List.getElem_cons_succ, List.getElem_cons_zero, List.setIfInBounds_toArray, List.set_cons_zero, List.set_cons_succ]
  refine wpAnyH_pure (i := 11) (v := ?_) rfl (by kernel_rfl) (by kernel_rfl) (by kernel_rfl) (fun _ _ _ h => h) (by rfl) (by assumption) ?_ ?_
  rotate_left
  · (intro w hSw; (try dsimp only at hSw); go_simp; (try with_reducible rfl))
  simp only [Act.put, List.getElem_toArray, List.getElem_cons_succ, List.getElem_cons_zero, List.setIfInBounds_toArray, List.set_cons_zero, List.set_cons_succ]
  refine wpAnyH_pure (i := 12) (v := ?_) rfl (by kernel_rfl) (by kernel_rfl) (by kernel_rfl) (fun _ _ _ h => h) (by first | rfl | (simp [Region.wanted, yielded, *]; done)) (by assumption) ?_ ?_
  rotate_left
  · (intro w hSw; (try dsimp only at hSw); refine exec_load_arr 95 (p := .tmp 6) (g := w4.heap.size) ?_ ?_ Try.underlying95 (hinS) (by repeat (first | exact hSw | exact hSw.1 | replace hSw := hSw.2)) <;> rfl)
  simp only [Act.put, List.getElem_toArray, List.getElem_cons_succ, List.getElem_cons_zero, List.setIfInBounds_toArray, List.set_cons_zero, List.set_cons_succ]
  refine wpAnyH_pure (i := 13) (v := ?_) rfl (by kernel_rfl) (by kernel_rfl) (by kernel_rfl) (fun _ _ _ h => h) (by first | rfl | (simp [Region.wanted, yielded, *]; done)) (by assumption) ?_ ?_
  rotate_left
  · (intro w hSw; (try dsimp only at hSw); refine exec_load_arr 95 (p := .tmp 11) (g := n11) ?_ ?_ Try.underlying95 (hinS) (by repeat (first | exact hSw | exact hSw.1 | replace hSw := hSw.2)) <;> rfl)
  simp only [Act.put, List.getElem_toArray, List.getElem_cons_succ, List.getElem_cons_zero, List.setIfInBounds_toArray, List.set_cons_zero, List.set_cons_succ]
  refine wpAnyH_pure (i := 14) (v := ?_) rfl (by kernel_rfl) (by kernel_rfl) (by kernel_rfl) (fun _ _ _ h => h) (by first | rfl | (simp [Region.wanted, yielded, *]; done)) (by assumption) ?_ ?_
  rotate_left
  · (intro w hSw; (try dsimp only at hSw); refine exec_eql 95 95 (.tmp 70) (.tmp 71) S S true ?_ ?_ ?_ hgS (HQS.out _) <;> rfl)
  simp only [Act.put, List.getElem_toArray, List.getElem_cons_succ, List.getElem_cons_zero, List.setIfInBounds_toArray, List.set_cons_zero, List.set_cons_succ]
  refine wpAnyH_pure (i := 15) (v := ?_) rfl (by kernel_rfl) (by kernel_rfl) (by kernel_rfl) (fun _ _ _ h => h) (by rfl) (by assumption) ?_ ?_
  rotate_left
  · (intro w hSw; (try dsimp only at hSw); go_simp; (try with_reducible rfl))
  simp only [Act.put, List.getElem_toArray, List.getElem_cons_succ, List.getElem_cons_zero, List.setIfInBounds_toArray, List.set_cons_zero, List.set_cons_succ]
  refine wpAnyH_pure (i := 16) (v := ?_) rfl (by kernel_rfl) (by kernel_rfl) (by kernel_rfl) (fun _ _ _ h => h) (by rfl) (by assumption) ?_ ?_
  rotate_left
  · (intro w hSw; (try dsimp only at hSw); go_simp; (try with_reducible rfl))
  simp only [Act.put, List.getElem_toArray, List.getElem_cons_succ, List.getElem_cons_zero, List.setIfInBounds_toArray, List.set_cons_zero, List.set_cons_succ]
  refine wpAnyH_done (by kernel_rfl) ?_ _
  go_wp2
  go_ret
  exact ⟨rfl, by (repeat' (first | (with_reducible exact Below.refl _ _) | (with_reducible assumption) | (with_reducible refine Below.alloc ?_ ?_ _) | (with_reducible refine Below.drew ?_) | (with_reducible refine below_drewN ?_ _) | (with_reducible refine Below.setCell ?_ ?_ _) | (with_reducible refine below_step (by with_reducible assumption) ?_ ?_) | (with_reducible exact Below.size (by with_reducible assumption)) | go_size))⟩
end Go.Proofs.Ythgnemkfaiejbaa
