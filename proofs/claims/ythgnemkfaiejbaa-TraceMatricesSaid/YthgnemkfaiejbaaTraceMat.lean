/-
  TraceMatrices: the walks.
-/
import Derived.Test.YthgnemkfaiejbaaTMatM
import Derived.Test.YthgnemkfaiejbaaTMatR
import Derived.Test.YthgnemkfaiejbaaTEqA
import Derived.Test.YthgnemkfaiejbaaTraceLagsO
import Derived.Test.YthgnemkfaiejbaaTGain
set_option linter.unusedVariables false
set_option linter.unusedSimpArgs false
namespace Go.Proofs.Ythgnemkfaiejbaa
open Go.RowKit

theorem Buf.setRow {w : World} {g : Nat} {u : Nat → Nat} {N cap : Nat} (h : Buf w g u N cap) {b : Nat} (hb : ¬ b = g) (c : Array Value) : Buf (w.setRow b c) g u N cap :=
  ⟨h.1, by have := h.2.1; simpa [World.setRow] using this, h.2.2.1, fun k hk => (cell_of (block_setRow_other hb)).trans (h.2.2.2 k hk)⟩
theorem mbuf_of {w : World} {E M : Int} {s : Nat → Int × Int} {n : Nat} {r : Nat → Nat} {m g : Nat} (hr : ∀ i, i < m → r i < 2 ^ 32) (hg : w.heap[g]? = some (.cells (fC (mU E M s n r m) (mN E M)) 24 (0, 0))) : Buf w g (mU E M s n r m) (mN E M) (mN E M) :=
  Buf.of_block ⟨Nat.le_refl _, by have := mN_bd E M; unfold maxLen; omega⟩ (fun i _ => mU_bd E M s n hr i) hg fun i hi => fC_get _ hi
set_option maxRecDepth 100000 in
set_option maxHeartbeats 2000000 in
theorem traceMat_out (E M a b : Int) (vS vR : Value) (s : Nat → Int × Int) (n : Nat) (r : Nat → Nat) (m : Nat) (w : World) (hS : Hid (PRow w vS s n)) (hR : Hid (FRow w vR r m)) (h : ¬ (n ≤ 40 ∧ m ≤ 200)) :
    Calls Try.prog 4 #[.agg #[.int .i64 E, vS, vR, .int .i64 M], .agg #[.int .i64 a, .int .i64 b]] w fun e w' => e = .returned (.bool true) ∧ Below w.heap.size w w' := by
  have KA := Lib.hid awake3_any
  obtain ⟨qS, cS, rfl, -, -, -⟩ := hS.out
  obtain ⟨qR, cR, rfl, -, -, -⟩ := hR.out
  have KF := Lib.hid (fun W => few_any E M qS qR n cS m cR W)
  rw [decide_eq_false h] at KF
  clear hS hR h
  go_enter Try.func4, Try.ntmps4
  go_wp2_with fail; (refine (KA.out _).mono ?_; rintro e w1 ⟨rfl, hw1⟩; obtain ⟨hcw1, hfw1, hlw1, hmw1, hnw1⟩ := bcell3 hw1; have hzw1 := hw1.size; (try simp only [World.size_alloc, World.size_setCell, World.size_drew, size_drewN] at hzw1))
  have cx1_0 : w1.cell? ⟨w.heap.size, 0, none⟩ = some (.int .i64 (E)) := (hcw1 (w.heap.size) (0) (by first | omega | (simp only [World.size_alloc, World.size_drew, World.size_setCell, size_drewN]; omega))).trans (by first | assumption | (simp [go_sem, *]; done)); have cx1_1 : w1.cell? ⟨w.heap.size, 1, none⟩ = some (.slice qS n cS) := (hcw1 (w.heap.size) (1) (by first | omega | (simp only [World.size_alloc, World.size_drew, World.size_setCell, size_drewN]; omega))).trans (by first | assumption | (simp [go_sem, *]; done)); have cx1_2 : w1.cell? ⟨w.heap.size, 2, none⟩ = some (.slice qR m cR) := (hcw1 (w.heap.size) (2) (by first | omega | (simp only [World.size_alloc, World.size_drew, World.size_setCell, size_drewN]; omega))).trans (by first | assumption | (simp [go_sem, *]; done)); have cx1_3 : w1.cell? ⟨w.heap.size, 3, none⟩ = some (.int .i64 (M)) := (hcw1 (w.heap.size) (3) (by first | omega | (simp only [World.size_alloc, World.size_drew, World.size_setCell, size_drewN]; omega))).trans (by first | assumption | (simp [go_sem, *]; done)); have ox1 : w.heap.size < w1.heap.size := (by omega)
  have cp1_0 : w1.cell? ⟨w.heap.size + 1, 0, none⟩ = some (.int .i64 (a)) := (hcw1 (w.heap.size + 1) (0) (by first | omega | (simp only [World.size_alloc, World.size_drew, World.size_setCell, size_drewN]; omega))).trans (by first | assumption | (simp [go_sem, *]; done)); have cp1_1 : w1.cell? ⟨w.heap.size + 1, 1, none⟩ = some (.int .i64 (b)) := (hcw1 (w.heap.size + 1) (1) (by first | omega | (simp only [World.size_alloc, World.size_drew, World.size_setCell, size_drewN]; omega))).trans (by first | assumption | (simp [go_sem, *]; done)); have op1 : w.heap.size + 1 < w1.heap.size := (by omega)
  clear hcw1 hfw1 hlw1 hmw1 hnw1
  go_wp2_with fail; (refine (KF.out _).mono ?_; rintro e w2 ⟨rfl, hw2⟩; obtain ⟨hcw2, hfw2, hlw2, hmw2, hnw2⟩ := bcell3 hw2; have hzw2 := hw2.size; (try simp only [World.size_alloc, World.size_setCell, World.size_drew, size_drewN] at hzw2))
  have cx2_0 : w2.cell? ⟨w.heap.size, 0, none⟩ = some (.int .i64 (E)) := (hcw2 (w.heap.size) (0) (by first | omega | (simp only [World.size_alloc, World.size_drew, World.size_setCell, size_drewN]; omega))).trans (by first | assumption | (simp [go_sem, *]; done)); have cx2_1 : w2.cell? ⟨w.heap.size, 1, none⟩ = some (.slice qS n cS) := (hcw2 (w.heap.size) (1) (by first | omega | (simp only [World.size_alloc, World.size_drew, World.size_setCell, size_drewN]; omega))).trans (by first | assumption | (simp [go_sem, *]; done)); have cx2_2 : w2.cell? ⟨w.heap.size, 2, none⟩ = some (.slice qR m cR) := (hcw2 (w.heap.size) (2) (by first | omega | (simp only [World.size_alloc, World.size_drew, World.size_setCell, size_drewN]; omega))).trans (by first | assumption | (simp [go_sem, *]; done)); have cx2_3 : w2.cell? ⟨w.heap.size, 3, none⟩ = some (.int .i64 (M)) := (hcw2 (w.heap.size) (3) (by first | omega | (simp only [World.size_alloc, World.size_drew, World.size_setCell, size_drewN]; omega))).trans (by first | assumption | (simp [go_sem, *]; done)); have ox2 : w.heap.size < w2.heap.size := (by omega)
  clear cx1_0 cx1_1 cx1_2 cx1_3
  have cp2_0 : w2.cell? ⟨w.heap.size + 1, 0, none⟩ = some (.int .i64 (a)) := (hcw2 (w.heap.size + 1) (0) (by first | omega | (simp only [World.size_alloc, World.size_drew, World.size_setCell, size_drewN]; omega))).trans (by first | assumption | (simp [go_sem, *]; done)); have cp2_1 : w2.cell? ⟨w.heap.size + 1, 1, none⟩ = some (.int .i64 (b)) := (hcw2 (w.heap.size + 1) (1) (by first | omega | (simp only [World.size_alloc, World.size_drew, World.size_setCell, size_drewN]; omega))).trans (by first | assumption | (simp [go_sem, *]; done)); have op2 : w.heap.size + 1 < w2.heap.size := (by omega)
  clear cp1_0 cp1_1
  clear hcw2 hfw2 hlw2 hmw2 hnw2
  go_wp2
  go_ret
  exact ⟨rfl, by (repeat' (first | (with_reducible exact Below.refl _ _) | (with_reducible assumption) | (with_reducible refine Below.alloc ?_ ?_ _) | (with_reducible refine Below.drew ?_) | (with_reducible refine below_drewN ?_ _) | (with_reducible refine Below.setCell ?_ ?_ _) | (with_reducible refine below_step (by with_reducible assumption) ?_ ?_) | (with_reducible exact Below.size (by with_reducible assumption)) | go_size))⟩
theorem fE_some (e : Nat → Int) : ∀ n k, fE e n = some k → k < n ∧ e k ≠ 0
  | 0, k, h => by cases h
  | n + 1, k, h => by
    unfold fE at h
    cases hh : fE e n with
    | some j =>
      rw [hh] at h
      simp only [Option.some.injEq] at h
      subst h
      have := fE_some e n j hh
      exact ⟨by omega, this.2⟩
    | none =>
      rw [hh] at h
      simp only at h
      by_cases c : e n = 0
      · rw [if_pos c] at h; cases h
      · rw [if_neg c] at h
        simp only [Option.some.injEq] at h
        subst h
        exact ⟨by omega, c⟩
theorem vE_zero {e : Nat → Int} {n : Nat} (h : vE e n = 0) : ∀ k, k < n → e k = 0 := by
  unfold vE at h
  cases hh : fE e n with
  | some k => rw [hh] at h; exact absurd h (fE_some e n k hh).2
  | none => exact (fE_none e n).1 hh
theorem oE_zero {E : Int} {u : Nat → Nat} {N : Nat} (h : oE E u N = 0) : (1 ≤ E ∧ E ≤ 16) ∧ (N : Int) = E * E * 64 ∧ ∀ i, i < N → eS (u i) = 0 := by
  unfold oE at h
  by_cases c : inB E 1 16 = true
  · rw [if_pos c] at h
    by_cases d : (N : Int) = E * E * 64
    · rw [if_pos d] at h
      exact ⟨by unfold inB at c; simpa using c, d, vE_zero h⟩
    · rw [if_neg d] at h; simp at h
  · rw [if_neg c] at h; simp at h
set_option maxRecDepth 100000 in
set_option maxHeartbeats 4000000 in
theorem traceMat_err (E M pa pb : Int) (vS vR : Value) (s : Nat → Int × Int) (n : Nat) (r : Nat → Nat) (m : Nat) (w : World) (hS : Hid (PRow w vS s n)) (hR : Hid (FRow w vR r m)) (h : n ≤ 40 ∧ m ≤ 200)
    (o q : Int) (hq : q ≠ 0) (ho : oE E (mU E M s n r m) (mN E M) = o) (hqq : (o = 0 → pE pa pb E = q) ∧ (¬ o = 0 → o = q)) (ht : tpE E (mU E M s n r m) (mN E M) pa pb = q) :
    Calls Try.prog 4 #[.agg #[.int .i64 E, vS, vR, .int .i64 M], .agg #[.int .i64 pa, .int .i64 pb]] w fun e w' => e = .returned (.bool true) ∧ Below w.heap.size w w' := by
  have hN : mN E M ≤ 20000 := by have := mN_bd E M; omega
  have KA := Lib.hid awake3_any
  have KX := Lib.hid (fun (W : World) (hB : Below w.heap.size w W) => matrix_any E M vS vR s n r m W (Lib.hid (hS.out.below hB)) (Lib.hid (hR.out.below hB)))
  have HM := Lib.hid (fun (W : World) (g : Nat) hg => mbuf_of (w := W) (E := E) (M := M) (s := s) (n := n) (g := g) (hR.out.choose_spec.choose_spec.2.2.1) hg)
  obtain ⟨qS, cS, rfl, -, -, -⟩ := hS.out
  obtain ⟨qR, cR, rfl, -, -, -⟩ := hR.out
  have KF := Lib.hid (fun W => few_any E M qS qR n cS m cR W)
  rw [decide_eq_true h] at KF
  have hq2 : (q != 0) = true := by simpa using hq
  have hz0 := Lib.hid (fC_congr (n := 64) (u := fun i => wd Ieee.single ((fun _ => (0 : Int)) i)) (v := fun i => wd Ieee.single ((fun _ => (0 : Int)) i)) fun _ _ => rfl)
  clear hS hR h hz0
  generalize mU E M s n r m = U at *
  generalize mN E M = N at *
  have KC := Lib.hid (fun W g (hb : Buf W g U N N) => (copyMatrix_any E U g N N W hN (Lib.hid hb)).mono (R' := fun e w' => ∃ g' c', e = .returned (.agg #[.int .i64 E, .slice (some ⟨g', 0, none⟩) N c']) ∧ Buf w' g' U N c' ∧ Below W.heap.size W w') fun e w' ⟨g', c', h1, h2, h3⟩ => ⟨g', c', h1, h2.out, h3⟩)
  have KK := Lib.hid (fun W g c (hb : Hid (Buf W g U N c)) => checkMatrix_any E U g N c W hN hb)
  have KKR := Lib.hid (fun W g (hb : Buf W g U N N) => checkMatrixR_any E U g N N W hN (Lib.hid hb))
  have KT := Lib.hid (fun W g c (hb : Hid (Buf W g U N c)) => traceOf_err E pa pb U g N c W hN hb (by rw [ht]; exact hq))
  rw [ht] at KT
  rw [ho] at KK KKR
  have KP := Lib.hid (fun (v : Value) W => pairErr_any E pa pb v W)
  have HO := Lib.hid hqq
  have hzs := Lib.hid (tC_size fun _ => 0)
  have hzo := Lib.hid (tC_one fun _ => 0)
  have HZ := Lib.hid zero_trace
  have KS := Lib.hid (fun W => sameTrace_eq (fun _ => 0) W)
  clear ho ht hqq hq hN
  generalize oN E U N = oo at *
  generalize hcc : (tC fun _ => 0) = z at *
  have HCC := Lib.hid hcc
  clear hcc
  go_enter Try.func4, Try.ntmps4
  go_wp2_with fail; (refine (KA.out _).mono ?_; rintro e w1 ⟨rfl, hw1⟩; obtain ⟨hcw1, hfw1, hlw1, hmw1, hnw1⟩ := bcell3 hw1; have hzw1 := hw1.size; (try simp only [World.size_alloc, World.size_setCell, World.size_drew, size_drewN] at hzw1))
  have cx1_0 : w1.cell? ⟨w.heap.size, 0, none⟩ = some (.int .i64 (E)) := (hcw1 (w.heap.size) (0) (by first | omega | (simp only [World.size_alloc, World.size_drew, World.size_setCell, size_drewN]; omega))).trans (by first | assumption | (simp [go_sem, *]; done)); have cx1_1 : w1.cell? ⟨w.heap.size, 1, none⟩ = some (.slice qS n cS) := (hcw1 (w.heap.size) (1) (by first | omega | (simp only [World.size_alloc, World.size_drew, World.size_setCell, size_drewN]; omega))).trans (by first | assumption | (simp [go_sem, *]; done)); have cx1_2 : w1.cell? ⟨w.heap.size, 2, none⟩ = some (.slice qR m cR) := (hcw1 (w.heap.size) (2) (by first | omega | (simp only [World.size_alloc, World.size_drew, World.size_setCell, size_drewN]; omega))).trans (by first | assumption | (simp [go_sem, *]; done)); have cx1_3 : w1.cell? ⟨w.heap.size, 3, none⟩ = some (.int .i64 (M)) := (hcw1 (w.heap.size) (3) (by first | omega | (simp only [World.size_alloc, World.size_drew, World.size_setCell, size_drewN]; omega))).trans (by first | assumption | (simp [go_sem, *]; done)); have ox1 : w.heap.size < w1.heap.size := (by omega)
  have cp1_0 : w1.cell? ⟨w.heap.size + 1, 0, none⟩ = some (.int .i64 (pa)) := (hcw1 (w.heap.size + 1) (0) (by first | omega | (simp only [World.size_alloc, World.size_drew, World.size_setCell, size_drewN]; omega))).trans (by first | assumption | (simp [go_sem, *]; done)); have cp1_1 : w1.cell? ⟨w.heap.size + 1, 1, none⟩ = some (.int .i64 (pb)) := (hcw1 (w.heap.size + 1) (1) (by first | omega | (simp only [World.size_alloc, World.size_drew, World.size_setCell, size_drewN]; omega))).trans (by first | assumption | (simp [go_sem, *]; done)); have op1 : w.heap.size + 1 < w1.heap.size := (by omega)
  clear hcw1 hfw1 hlw1 hmw1 hnw1
  go_wp2_with fail; (refine (KF.out _).mono ?_; rintro e w2 ⟨rfl, hw2⟩; obtain ⟨hcw2, hfw2, hlw2, hmw2, hnw2⟩ := bcell3 hw2; have hzw2 := hw2.size; (try simp only [World.size_alloc, World.size_setCell, World.size_drew, size_drewN] at hzw2))
  have cx2_0 : w2.cell? ⟨w.heap.size, 0, none⟩ = some (.int .i64 (E)) := (hcw2 (w.heap.size) (0) (by first | omega | (simp only [World.size_alloc, World.size_drew, World.size_setCell, size_drewN]; omega))).trans (by first | assumption | (simp [go_sem, *]; done)); have cx2_1 : w2.cell? ⟨w.heap.size, 1, none⟩ = some (.slice qS n cS) := (hcw2 (w.heap.size) (1) (by first | omega | (simp only [World.size_alloc, World.size_drew, World.size_setCell, size_drewN]; omega))).trans (by first | assumption | (simp [go_sem, *]; done)); have cx2_2 : w2.cell? ⟨w.heap.size, 2, none⟩ = some (.slice qR m cR) := (hcw2 (w.heap.size) (2) (by first | omega | (simp only [World.size_alloc, World.size_drew, World.size_setCell, size_drewN]; omega))).trans (by first | assumption | (simp [go_sem, *]; done)); have cx2_3 : w2.cell? ⟨w.heap.size, 3, none⟩ = some (.int .i64 (M)) := (hcw2 (w.heap.size) (3) (by first | omega | (simp only [World.size_alloc, World.size_drew, World.size_setCell, size_drewN]; omega))).trans (by first | assumption | (simp [go_sem, *]; done)); have ox2 : w.heap.size < w2.heap.size := (by omega)
  clear cx1_0 cx1_1 cx1_2 cx1_3
  have cp2_0 : w2.cell? ⟨w.heap.size + 1, 0, none⟩ = some (.int .i64 (pa)) := (hcw2 (w.heap.size + 1) (0) (by first | omega | (simp only [World.size_alloc, World.size_drew, World.size_setCell, size_drewN]; omega))).trans (by first | assumption | (simp [go_sem, *]; done)); have cp2_1 : w2.cell? ⟨w.heap.size + 1, 1, none⟩ = some (.int .i64 (pb)) := (hcw2 (w.heap.size + 1) (1) (by first | omega | (simp only [World.size_alloc, World.size_drew, World.size_setCell, size_drewN]; omega))).trans (by first | assumption | (simp [go_sem, *]; done)); have op2 : w.heap.size + 1 < w2.heap.size := (by omega)
  clear cp1_0 cp1_1
  clear hcw2 hfw2 hlw2 hmw2 hnw2
  go_wp2_with fail
  refine (KX.out _ (by (repeat' (first | (with_reducible exact Below.refl _ _) | (with_reducible assumption) | (with_reducible refine Below.alloc ?_ ?_ _) | (with_reducible refine Below.drew ?_) | (with_reducible refine below_drewN ?_ _) | (with_reducible refine Below.setCell ?_ ?_ _) | (with_reducible refine below_step (by with_reducible assumption) ?_ ?_) | (with_reducible exact Below.size (by with_reducible assumption)) | go_size)))).mono ?_
  rintro e w3 ⟨g, rfl, ⟨hzg, hg⟩, hw3⟩
  obtain ⟨hcw3, hfw3, hlw3, hmw3, hnw3⟩ := bcell3 hw3
  have hzw3 := hw3.size
  have cx3_0 : w3.cell? ⟨w.heap.size, 0, none⟩ = some (.int .i64 (E)) := (hcw3 (w.heap.size) (0) (by first | omega | (simp only [World.size_alloc, World.size_drew, World.size_setCell, size_drewN]; omega))).trans (by first | assumption | (simp [go_sem, *]; done)); have cx3_1 : w3.cell? ⟨w.heap.size, 1, none⟩ = some (.slice qS n cS) := (hcw3 (w.heap.size) (1) (by first | omega | (simp only [World.size_alloc, World.size_drew, World.size_setCell, size_drewN]; omega))).trans (by first | assumption | (simp [go_sem, *]; done)); have cx3_2 : w3.cell? ⟨w.heap.size, 2, none⟩ = some (.slice qR m cR) := (hcw3 (w.heap.size) (2) (by first | omega | (simp only [World.size_alloc, World.size_drew, World.size_setCell, size_drewN]; omega))).trans (by first | assumption | (simp [go_sem, *]; done)); have cx3_3 : w3.cell? ⟨w.heap.size, 3, none⟩ = some (.int .i64 (M)) := (hcw3 (w.heap.size) (3) (by first | omega | (simp only [World.size_alloc, World.size_drew, World.size_setCell, size_drewN]; omega))).trans (by first | assumption | (simp [go_sem, *]; done)); have ox3 : w.heap.size < w3.heap.size := (by omega)
  clear cx2_0 cx2_1 cx2_2 cx2_3
  have cp3_0 : w3.cell? ⟨w.heap.size + 1, 0, none⟩ = some (.int .i64 (pa)) := (hcw3 (w.heap.size + 1) (0) (by first | omega | (simp only [World.size_alloc, World.size_drew, World.size_setCell, size_drewN]; omega))).trans (by first | assumption | (simp [go_sem, *]; done)); have cp3_1 : w3.cell? ⟨w.heap.size + 1, 1, none⟩ = some (.int .i64 (pb)) := (hcw3 (w.heap.size + 1) (1) (by first | omega | (simp only [World.size_alloc, World.size_drew, World.size_setCell, size_drewN]; omega))).trans (by first | assumption | (simp [go_sem, *]; done)); have op3 : w.heap.size + 1 < w3.heap.size := (by omega)
  clear cp2_0 cp2_1
  clear hcw3 hfw3 hlw3 hmw3 hnw3
  have cb3_0 := HM.out _ _ hg
  have hgl3 := cb3_0.2.1
  clear hg
  go_wp2_with fail
  first | refine abs_calls (fun w4 hw4 => ?_) | refine abs_last (fun w4 hw4 => ?_)
  have hw40 : Below w.heap.size w w4 := by rw [hw4]; (repeat' (first | (with_reducible exact Below.refl _ _) | (with_reducible assumption) | (with_reducible refine Below.alloc ?_ ?_ _) | (with_reducible refine Below.drew ?_) | (with_reducible refine below_drewN ?_ _) | (with_reducible refine Below.setCell ?_ ?_ _) | (with_reducible refine below_step (by with_reducible assumption) ?_ ?_) | (with_reducible exact Below.size (by with_reducible assumption)) | go_size))
  have hzz4 := hw40.size
  have cx4_0 : w4.cell? ⟨w.heap.size, 0, none⟩ = some (.int .i64 (E)) := by (first | (rw [hw4]; assumption) | (simp [go_sem, *]; done))
  have cx4_1 : w4.cell? ⟨w.heap.size, 1, none⟩ = some (.slice qS n cS) := by (first | (rw [hw4]; assumption) | (simp [go_sem, *]; done))
  have cx4_2 : w4.cell? ⟨w.heap.size, 2, none⟩ = some (.slice qR m cR) := by (first | (rw [hw4]; assumption) | (simp [go_sem, *]; done))
  have cx4_3 : w4.cell? ⟨w.heap.size, 3, none⟩ = some (.int .i64 (M)) := by (first | (rw [hw4]; assumption) | (simp [go_sem, *]; done))
  have cp4_0 : w4.cell? ⟨w.heap.size + 1, 0, none⟩ = some (.int .i64 (pa)) := by (first | (rw [hw4]; assumption) | (simp [go_sem, *]; done))
  have cp4_1 : w4.cell? ⟨w.heap.size + 1, 1, none⟩ = some (.int .i64 (pb)) := by (first | (rw [hw4]; assumption) | (simp [go_sem, *]; done))
  have cb4_0 : Buf w4 g U N N := by rw [hw4]; (repeat (first | assumption | refine Buf.alloc ?_ _ | refine Buf.drew ?_ | refine Buf.setCell ?_ (by omega) _ _ | exact cb3_0.below (by (repeat' (first | (with_reducible exact Below.refl _ _) | (with_reducible assumption) | (with_reducible refine Below.alloc ?_ ?_ _) | (with_reducible refine Below.drew ?_) | (with_reducible refine below_drewN ?_ _) | (with_reducible refine Below.setCell ?_ ?_ _) | (with_reducible refine below_step (by with_reducible assumption) ?_ ?_) | (with_reducible exact Below.size (by with_reducible assumption)) | go_size)))))
  have cm4_0 : w4.cell? ⟨w3.heap.size, 0, none⟩ = some (.int .i64 (E)) := by (first | (rw [hw4]; assumption) | (simp [go_sem, *]; done))
  have cm4_1 : w4.cell? ⟨w3.heap.size, 1, none⟩ = some (.slice (some ⟨g, 0, none⟩) N N) := by (first | (rw [hw4]; assumption) | (simp [go_sem, *]; done))
  have hz40 : w.heap.size < w4.heap.size := by (first | (rw [hw4]; simp; omega) | (rw [hw4]; simp; done) | (rw [hw4]; omega))
  have hz41 : w.heap.size + 1 < w4.heap.size := by (first | (rw [hw4]; simp; omega) | (rw [hw4]; simp; done) | (rw [hw4]; omega))
  have hz42 : w3.heap.size < w4.heap.size := by (first | (rw [hw4]; simp; omega) | (rw [hw4]; simp; done) | (rw [hw4]; omega))
  have hz43 : g < w4.heap.size := by (first | (rw [hw4]; simp; omega) | (rw [hw4]; simp; done) | (rw [hw4]; omega))
  clear cx3_0 cx3_1 cx3_2 cx3_3
  clear cp3_0 cp3_1
  clear cb3_0
  clear hw4
  refine (KC.out _ _ cb4_0).mono ?_
  rintro e w5 ⟨g5, c5, rfl, hb5, hw5⟩
  obtain ⟨hcw5, hfw5, hlw5, hmw5, hnw5⟩ := bcell3 hw5
  have hzw5 := hw5.size
  have cx5_0 : w5.cell? ⟨w.heap.size, 0, none⟩ = some (.int .i64 (E)) := (hcw5 (w.heap.size) (0) (by first | omega | (simp only [World.size_alloc, World.size_drew, World.size_setCell, size_drewN]; omega))).trans (by first | assumption | (simp [go_sem, *]; done)); have cx5_1 : w5.cell? ⟨w.heap.size, 1, none⟩ = some (.slice qS n cS) := (hcw5 (w.heap.size) (1) (by first | omega | (simp only [World.size_alloc, World.size_drew, World.size_setCell, size_drewN]; omega))).trans (by first | assumption | (simp [go_sem, *]; done)); have cx5_2 : w5.cell? ⟨w.heap.size, 2, none⟩ = some (.slice qR m cR) := (hcw5 (w.heap.size) (2) (by first | omega | (simp only [World.size_alloc, World.size_drew, World.size_setCell, size_drewN]; omega))).trans (by first | assumption | (simp [go_sem, *]; done)); have cx5_3 : w5.cell? ⟨w.heap.size, 3, none⟩ = some (.int .i64 (M)) := (hcw5 (w.heap.size) (3) (by first | omega | (simp only [World.size_alloc, World.size_drew, World.size_setCell, size_drewN]; omega))).trans (by first | assumption | (simp [go_sem, *]; done)); have ox5 : w.heap.size < w5.heap.size := (by omega)
  clear cx4_0 cx4_1 cx4_2 cx4_3
  have cp5_0 : w5.cell? ⟨w.heap.size + 1, 0, none⟩ = some (.int .i64 (pa)) := (hcw5 (w.heap.size + 1) (0) (by first | omega | (simp only [World.size_alloc, World.size_drew, World.size_setCell, size_drewN]; omega))).trans (by first | assumption | (simp [go_sem, *]; done)); have cp5_1 : w5.cell? ⟨w.heap.size + 1, 1, none⟩ = some (.int .i64 (pb)) := (hcw5 (w.heap.size + 1) (1) (by first | omega | (simp only [World.size_alloc, World.size_drew, World.size_setCell, size_drewN]; omega))).trans (by first | assumption | (simp [go_sem, *]; done)); have op5 : w.heap.size + 1 < w5.heap.size := (by omega)
  clear cp4_0 cp4_1
  have cb5_0 : Buf w5 g U N N := (by first | exact Buf.below (by assumption) hw5 | exact Buf.below (by assumption) (by (repeat' (first | (with_reducible exact Below.refl _ _) | (with_reducible assumption) | (with_reducible refine Below.alloc ?_ ?_ _) | (with_reducible refine Below.drew ?_) | (with_reducible refine below_drewN ?_ _) | (with_reducible refine Below.setCell ?_ ?_ _) | (with_reducible refine below_step (by with_reducible assumption) ?_ ?_) | (with_reducible exact Below.size (by with_reducible assumption)) | go_size))))
  clear cb4_0
  have cm5_0 : w5.cell? ⟨w3.heap.size, 0, none⟩ = some (.int .i64 (E)) := (hcw5 (w3.heap.size) (0) (by first | omega | (simp only [World.size_alloc, World.size_drew, World.size_setCell, size_drewN]; omega))).trans (by first | assumption | (simp [go_sem, *]; done)); have cm5_1 : w5.cell? ⟨w3.heap.size, 1, none⟩ = some (.slice (some ⟨g, 0, none⟩) N N) := (hcw5 (w3.heap.size) (1) (by first | omega | (simp only [World.size_alloc, World.size_drew, World.size_setCell, size_drewN]; omega))).trans (by first | assumption | (simp [go_sem, *]; done)); have om5 : w3.heap.size < w5.heap.size := (by omega)
  clear cm4_0 cm4_1
  clear hcw5 hfw5 hlw5 hmw5 hnw5
  go_wp2_with fail; (refine (KK.out _ _ _ (Lib.hid hb5)).mono ?_; rintro e w6 ⟨rfl, hw6⟩; obtain ⟨hcw6, hfw6, hlw6, hmw6, hnw6⟩ := bcell3 hw6; have hzw6 := hw6.size; (try simp only [World.size_alloc, World.size_setCell, World.size_drew, size_drewN] at hzw6))
  have cx6_0 : w6.cell? ⟨w.heap.size, 0, none⟩ = some (.int .i64 (E)) := (hcw6 (w.heap.size) (0) (by first | omega | (simp only [World.size_alloc, World.size_drew, World.size_setCell, size_drewN]; omega))).trans (by first | assumption | (simp [go_sem, *]; done)); have cx6_1 : w6.cell? ⟨w.heap.size, 1, none⟩ = some (.slice qS n cS) := (hcw6 (w.heap.size) (1) (by first | omega | (simp only [World.size_alloc, World.size_drew, World.size_setCell, size_drewN]; omega))).trans (by first | assumption | (simp [go_sem, *]; done)); have cx6_2 : w6.cell? ⟨w.heap.size, 2, none⟩ = some (.slice qR m cR) := (hcw6 (w.heap.size) (2) (by first | omega | (simp only [World.size_alloc, World.size_drew, World.size_setCell, size_drewN]; omega))).trans (by first | assumption | (simp [go_sem, *]; done)); have cx6_3 : w6.cell? ⟨w.heap.size, 3, none⟩ = some (.int .i64 (M)) := (hcw6 (w.heap.size) (3) (by first | omega | (simp only [World.size_alloc, World.size_drew, World.size_setCell, size_drewN]; omega))).trans (by first | assumption | (simp [go_sem, *]; done)); have ox6 : w.heap.size < w6.heap.size := (by omega)
  clear cx5_0 cx5_1 cx5_2 cx5_3
  have cp6_0 : w6.cell? ⟨w.heap.size + 1, 0, none⟩ = some (.int .i64 (pa)) := (hcw6 (w.heap.size + 1) (0) (by first | omega | (simp only [World.size_alloc, World.size_drew, World.size_setCell, size_drewN]; omega))).trans (by first | assumption | (simp [go_sem, *]; done)); have cp6_1 : w6.cell? ⟨w.heap.size + 1, 1, none⟩ = some (.int .i64 (pb)) := (hcw6 (w.heap.size + 1) (1) (by first | omega | (simp only [World.size_alloc, World.size_drew, World.size_setCell, size_drewN]; omega))).trans (by first | assumption | (simp [go_sem, *]; done)); have op6 : w.heap.size + 1 < w6.heap.size := (by omega)
  clear cp5_0 cp5_1
  have cb6_0 : Buf w6 g U N N := (by first | exact Buf.below (by assumption) hw6 | exact Buf.below (by assumption) (by (repeat' (first | (with_reducible exact Below.refl _ _) | (with_reducible assumption) | (with_reducible refine Below.alloc ?_ ?_ _) | (with_reducible refine Below.drew ?_) | (with_reducible refine below_drewN ?_ _) | (with_reducible refine Below.setCell ?_ ?_ _) | (with_reducible refine below_step (by with_reducible assumption) ?_ ?_) | (with_reducible exact Below.size (by with_reducible assumption)) | go_size))))
  clear cb5_0
  have cm6_0 : w6.cell? ⟨w3.heap.size, 0, none⟩ = some (.int .i64 (E)) := (hcw6 (w3.heap.size) (0) (by first | omega | (simp only [World.size_alloc, World.size_drew, World.size_setCell, size_drewN]; omega))).trans (by first | assumption | (simp [go_sem, *]; done)); have cm6_1 : w6.cell? ⟨w3.heap.size, 1, none⟩ = some (.slice (some ⟨g, 0, none⟩) N N) := (hcw6 (w3.heap.size) (1) (by first | omega | (simp only [World.size_alloc, World.size_drew, World.size_setCell, size_drewN]; omega))).trans (by first | assumption | (simp [go_sem, *]; done)); have om6 : w3.heap.size < w6.heap.size := (by omega)
  clear cm5_0 cm5_1
  clear hcw6 hfw6 hlw6 hmw6 hnw6
  go_wp2
  have hgl6 : g < w6.heap.size := by omega
  refine wp_region_held_drew (S := fun w' => Buf w' g U N N ∧ w'.cell? ⟨w.heap.size, 0, none⟩ = some (.int .i64 (E)) ∧ w'.cell? ⟨w.heap.size, 1, none⟩ = some (.slice qS n cS) ∧ w'.cell? ⟨w.heap.size, 2, none⟩ = some (.slice qR m cR) ∧ w'.cell? ⟨w.heap.size, 3, none⟩ = some (.int .i64 (M)) ∧ w'.cell? ⟨w.heap.size + 1, 0, none⟩ = some (.int .i64 (pa)) ∧ w'.cell? ⟨w.heap.size + 1, 1, none⟩ = some (.int .i64 (pb)) ∧ w'.cell? ⟨w3.heap.size, 0, none⟩ = some (.int .i64 (E)) ∧ w'.cell? ⟨w3.heap.size, 1, none⟩ = some (.slice (some ⟨g, 0, none⟩) N N)) (by kernel_rfl) ?_ (fun hH1 => ?_)
  · (refine ⟨?_, ?_, ?_, ?_, ?_, ?_, ?_, ?_, ?_⟩ <;> (first | assumption | ((repeat (first | assumption | (refine heap_alloc_at ?_; (first | rfl | (simp only [World.size_alloc, World.size_drew, World.size_setCell, size_drewN]; done))) | refine block_alloc ?_ | refine (block_setCell_other (by omega)).trans ?_ | refine Buf.alloc ?_ _ | refine Buf.drew ?_ | refine Buf.setCell ?_ (by omega) _ _)); done) | (go_keep; done) | (simp [*, go_sem]; done)))
  refine wpAnyH_pure (i := 0) (v := ?_) rfl (by kernel_rfl) (by kernel_rfl) (by kernel_rfl) (fun _ _ _ h => h) (by rfl) (by assumption) ?_ ?_
  rotate_left
  · (intro w hSw; (try dsimp only at hSw); go_simp; (try with_reducible rfl))
  simp only [Act.put, List.getElem_toArray, List.getElem_cons_succ, List.getElem_cons_zero, List.setIfInBounds_toArray, List.set_cons_zero, List.set_cons_succ]
  refine wpAnyH_pure (i := 2) (v := ?_) rfl (by kernel_rfl) (by kernel_rfl) (by kernel_rfl) (fun _ _ _ h => h) (by rfl) (by assumption) ?_ ?_
  rotate_left
  · (intro w hSw; (try dsimp only at hSw); go_simp; (try with_reducible rfl))
  simp only [Act.put, List.getElem_toArray, List.getElem_cons_succ, List.getElem_cons_zero, List.setIfInBounds_toArray, List.set_cons_zero, List.set_cons_succ]
  refine wpAnyH_dagC0 (fun a0 l0 l a W => ((Buf W g U N N ∧ W.cell? ⟨w.heap.size, 0, none⟩ = some (.int .i64 (E)) ∧ W.cell? ⟨w.heap.size, 1, none⟩ = some (.slice qS n cS) ∧ W.cell? ⟨w.heap.size, 2, none⟩ = some (.slice qR m cR) ∧ W.cell? ⟨w.heap.size, 3, none⟩ = some (.int .i64 (M)) ∧ W.cell? ⟨w.heap.size + 1, 0, none⟩ = some (.int .i64 (pa)) ∧ W.cell? ⟨w.heap.size + 1, 1, none⟩ = some (.int .i64 (pb)) ∧ W.cell? ⟨w3.heap.size, 0, none⟩ = some (.int .i64 (E)) ∧ W.cell? ⟨w3.heap.size, 1, none⟩ = some (.slice (some ⟨g, 0, none⟩) N N)) ∧ Below w.heap.size w W ∧ (w6.heap.size) ≤ W.heap.size) ∧ (((l = l0) ∧ (a = a0)) ∨ (∃ g7 c7, (l = (l0.setIfInBounds 1 true)) ∧ (a = (a0.put (some 27) (.agg #[.int .i64 E, .slice (some ⟨g7, 0, none⟩) N c7]))) ∧ (Buf W g7 U N c7)) ∨ (∃ n8, (l = (l0.setIfInBounds 7 true)) ∧ (a = (a0.put (some 8) (.pointer (some ⟨n8, 0, none⟩)))) ∧ (((w6.heap.size) ≤ n8 ∧ n8 < W.heap.size) ∧ W.heap[n8]? = some (.cells (z) 26 (0, 0)))) ∨ (∃ g7 c7, (l = ((l0.setIfInBounds 1 true).setIfInBounds 3 true)) ∧ (a = ((a0.put (some 27) (.agg #[.int .i64 E, .slice (some ⟨g7, 0, none⟩) N c7])).put (some 29) (.tuple #[.agg z, .int .i64 q]))) ∧ (Buf W g7 U N c7)) ∨ (∃ g7 c7 n8, (l = ((l0.setIfInBounds 1 true).setIfInBounds 7 true)) ∧ (a = ((a0.put (some 27) (.agg #[.int .i64 E, .slice (some ⟨g7, 0, none⟩) N c7])).put (some 8) (.pointer (some ⟨n8, 0, none⟩)))) ∧ (((w6.heap.size) ≤ n8 ∧ n8 < W.heap.size) ∧ W.heap[n8]? = some (.cells (z) 26 (0, 0))) ∧ (Buf W g7 U N c7)) ∨ (∃ g7 c7, (l = (((((l0.setIfInBounds 1 true).setIfInBounds 3 true).setIfInBounds 4 true).setIfInBounds 5 true).setIfInBounds 6 true)) ∧ (a = (((((a0.put (some 27) (.agg #[.int .i64 E, .slice (some ⟨g7, 0, none⟩) N c7])).put (some 29) (.tuple #[.agg z, .int .i64 q])).put (some 25) (.tuple #[.agg z, .int .i64 q])).put (some 30) (.agg z)).put (some 31) (.int .i64 q))) ∧ (Buf W g7 U N c7)) ∨ (∃ g7 c7 n8, (l = (((l0.setIfInBounds 1 true).setIfInBounds 3 true).setIfInBounds 7 true)) ∧ (a = (((a0.put (some 27) (.agg #[.int .i64 E, .slice (some ⟨g7, 0, none⟩) N c7])).put (some 29) (.tuple #[.agg z, .int .i64 q])).put (some 8) (.pointer (some ⟨n8, 0, none⟩)))) ∧ (((w6.heap.size) ≤ n8 ∧ n8 < W.heap.size) ∧ W.heap[n8]? = some (.cells (z) 26 (0, 0))) ∧ (Buf W g7 U N c7)) ∨ (∃ g7 c7 n8, (l = ((((((l0.setIfInBounds 1 true).setIfInBounds 3 true).setIfInBounds 4 true).setIfInBounds 5 true).setIfInBounds 6 true).setIfInBounds 7 true)) ∧ (a = ((((((a0.put (some 27) (.agg #[.int .i64 E, .slice (some ⟨g7, 0, none⟩) N c7])).put (some 29) (.tuple #[.agg z, .int .i64 q])).put (some 25) (.tuple #[.agg z, .int .i64 q])).put (some 30) (.agg z)).put (some 31) (.int .i64 q)).put (some 8) (.pointer (some ⟨n8, 0, none⟩)))) ∧ (((w6.heap.size) ≤ n8 ∧ n8 < W.heap.size) ∧ W.heap[n8]? = some (.cells (z) 26 (0, 0))) ∧ (Buf W g7 U N c7)))) (by rfl) ?_ ?_ ?_
  · exact ⟨⟨hH1, by (repeat' (first | (with_reducible exact Below.refl _ _) | (with_reducible assumption) | (with_reducible refine Below.alloc ?_ ?_ _) | (with_reducible refine Below.drew ?_) | (with_reducible refine below_drewN ?_ _) | (with_reducible refine Below.setCell ?_ ?_ _) | (with_reducible refine below_step (by with_reducible assumption) ?_ ?_) | (with_reducible exact Below.size (by with_reducible assumption)) | go_size)), by first | omega | (simp only [World.size_alloc, World.size_setCell, World.size_drew, size_drewN]; omega)⟩, (Or.inl ⟨rfl, rfl⟩)⟩
  · intro l a W hI; exact hI.1.1
  intro l a W hI
  obtain ⟨⟨hSW, hB, hZ⟩, hI⟩ := hI
  have hSW' := hSW
  obtain ⟨cS0, cS1, cS2, cS3, cS4, cS5, cS6, cS7, cS8⟩ := hSW
  rcases hI with ⟨rfl, rfl⟩ | ⟨g7, c7, rfl, rfl, q1_0⟩ | ⟨n8, rfl, rfl, ⟨⟨zn8, yn8⟩, d7_0⟩⟩ | ⟨g7, c7, rfl, rfl, q1_0⟩ | ⟨g7, c7, n8, rfl, rfl, ⟨⟨zn8, yn8⟩, d7_0⟩, q1_0⟩ | ⟨g7, c7, rfl, rfl, q1_0⟩ | ⟨g7, c7, n8, rfl, rfl, ⟨⟨zn8, yn8⟩, d7_0⟩, q1_0⟩ | ⟨g7, c7, n8, rfl, rfl, ⟨⟨zn8, yn8⟩, d7_0⟩, q1_0⟩
  · left
    refine ⟨[1, 7], by kernel_rfl, by simp, ?_⟩
    simp only [Act.put, List.getElem_toArray, List.getElem_cons_succ, List.getElem_cons_zero, List.setIfInBounds_toArray, List.set_cons_zero, List.set_cons_succ]
    refine all_cons ?_ (all_cons ?_ (all_nil))
    · refine wpOp_step rfl (fun Kq hKq => ?_)
      go_simp
      refine (KC.out _ _ cS0).mono ?_
      rintro e W1 ⟨g7, c7, rfl, q1_0, hw1⟩
      have hz1 := hw1.size
      have hc1 := (bcell hw1).1
      have hf1 := (bcell hw1).2
      refine hKq _ _ ?_
      exact ⟨⟨⟨(cS0.below hw1), (hc1 _ _ (by omega)).trans cS1, (hc1 _ _ (by omega)).trans cS2, (hc1 _ _ (by omega)).trans cS3, (hc1 _ _ (by omega)).trans cS4, (hc1 _ _ (by omega)).trans cS5, (hc1 _ _ (by omega)).trans cS6, (hc1 _ _ (by omega)).trans cS7, (hc1 _ _ (by omega)).trans cS8⟩, below_step hw1 hB (by have := hB.size; omega), by omega⟩, (Or.inr (Or.inl ⟨g7, c7, by rfl, by rfl, q1_0⟩))⟩
    · refine wpOp_step rfl (fun Kq hKq => ?_)
      rw [if_pos (by rfl)]
      refine wp_alloc_row 26 (z) rfl (HZ.out _) ?_
      have hw1 : Below W.heap.size W (W.alloc (.cells (z) 26)) := by (repeat' (first | (with_reducible exact Below.refl _ _) | (with_reducible assumption) | (with_reducible refine Below.alloc ?_ ?_ _) | (with_reducible refine Below.drew ?_) | (with_reducible refine below_drewN ?_ _) | (with_reducible refine Below.setCell ?_ ?_ _) | (with_reducible refine below_step (by with_reducible assumption) ?_ ?_) | (with_reducible exact Below.size (by with_reducible assumption)) | go_size))
      have hz1 : (W.alloc (.cells (z) 26)).heap.size = W.heap.size + 1 := by simp
      have hc1 := (bcell hw1).1
      have hf1 := (bcell hw1).2
      refine hKq _ _ ?_
      exact ⟨⟨⟨(cS0.below hw1), (hc1 _ _ (by omega)).trans cS1, (hc1 _ _ (by omega)).trans cS2, (hc1 _ _ (by omega)).trans cS3, (hc1 _ _ (by omega)).trans cS4, (hc1 _ _ (by omega)).trans cS5, (hc1 _ _ (by omega)).trans cS6, (hc1 _ _ (by omega)).trans cS7, (hc1 _ _ (by omega)).trans cS8⟩, below_step hw1 hB (by have := hB.size; omega), by omega⟩, (Or.inr (Or.inr (Or.inl ⟨W.heap.size, by rfl, by rfl, ⟨⟨by omega, by omega⟩, heap_alloc_last W _⟩⟩)))⟩
  · left
    refine ⟨[3, 7], by kernel_rfl, by simp, ?_⟩
    simp only [Act.put, List.getElem_toArray, List.getElem_cons_succ, List.getElem_cons_zero, List.setIfInBounds_toArray, List.set_cons_zero, List.set_cons_succ]
    refine all_cons ?_ (all_cons ?_ (all_nil))
    · refine wpOp_step rfl (fun Kq hKq => ?_)
      go_simp
      refine (KT.out _ _ _ (Lib.hid q1_0)).mono ?_
      rintro e W1 ⟨rfl, hw1⟩
      have hz1 := hw1.size
      have hc1 := (bcell hw1).1
      have hf1 := (bcell hw1).2
      refine hKq _ _ ?_
      exact ⟨⟨⟨(cS0.below hw1), (hc1 _ _ (by omega)).trans cS1, (hc1 _ _ (by omega)).trans cS2, (hc1 _ _ (by omega)).trans cS3, (hc1 _ _ (by omega)).trans cS4, (hc1 _ _ (by omega)).trans cS5, (hc1 _ _ (by omega)).trans cS6, (hc1 _ _ (by omega)).trans cS7, (hc1 _ _ (by omega)).trans cS8⟩, below_step hw1 hB (by have := hB.size; omega), by omega⟩, (Or.inr (Or.inr (Or.inr (Or.inl ⟨g7, c7, by rfl, by rfl, (q1_0.below hw1)⟩))))⟩
    · refine wpOp_step rfl (fun Kq hKq => ?_)
      rw [if_pos (by rfl)]
      refine wp_alloc_row 26 (z) rfl (HZ.out _) ?_
      have hw1 : Below W.heap.size W (W.alloc (.cells (z) 26)) := by (repeat' (first | (with_reducible exact Below.refl _ _) | (with_reducible assumption) | (with_reducible refine Below.alloc ?_ ?_ _) | (with_reducible refine Below.drew ?_) | (with_reducible refine below_drewN ?_ _) | (with_reducible refine Below.setCell ?_ ?_ _) | (with_reducible refine below_step (by with_reducible assumption) ?_ ?_) | (with_reducible exact Below.size (by with_reducible assumption)) | go_size))
      have hz1 : (W.alloc (.cells (z) 26)).heap.size = W.heap.size + 1 := by simp
      have hc1 := (bcell hw1).1
      have hf1 := (bcell hw1).2
      refine hKq _ _ ?_
      exact ⟨⟨⟨(cS0.below hw1), (hc1 _ _ (by omega)).trans cS1, (hc1 _ _ (by omega)).trans cS2, (hc1 _ _ (by omega)).trans cS3, (hc1 _ _ (by omega)).trans cS4, (hc1 _ _ (by omega)).trans cS5, (hc1 _ _ (by omega)).trans cS6, (hc1 _ _ (by omega)).trans cS7, (hc1 _ _ (by omega)).trans cS8⟩, below_step hw1 hB (by have := hB.size; omega), by omega⟩, (Or.inr (Or.inr (Or.inr (Or.inr (Or.inl ⟨g7, c7, W.heap.size, by rfl, by rfl, ⟨⟨by omega, by omega⟩, heap_alloc_last W _⟩, (q1_0.below hw1)⟩)))))⟩
  · left
    refine ⟨[1], by kernel_rfl, by simp, ?_⟩
    simp only [Act.put, List.getElem_toArray, List.getElem_cons_succ, List.getElem_cons_zero, List.setIfInBounds_toArray, List.set_cons_zero, List.set_cons_succ]
    refine all_cons ?_ (all_nil)
    · refine wpOp_step rfl (fun Kq hKq => ?_)
      go_simp
      refine (KC.out _ _ cS0).mono ?_
      rintro e W1 ⟨g7, c7, rfl, q1_0, hw1⟩
      have hz1 := hw1.size
      have hc1 := (bcell hw1).1
      have hf1 := (bcell hw1).2
      refine hKq _ _ ?_
      exact ⟨⟨⟨(cS0.below hw1), (hc1 _ _ (by omega)).trans cS1, (hc1 _ _ (by omega)).trans cS2, (hc1 _ _ (by omega)).trans cS3, (hc1 _ _ (by omega)).trans cS4, (hc1 _ _ (by omega)).trans cS5, (hc1 _ _ (by omega)).trans cS6, (hc1 _ _ (by omega)).trans cS7, (hc1 _ _ (by omega)).trans cS8⟩, below_step hw1 hB (by have := hB.size; omega), by omega⟩, (Or.inr (Or.inr (Or.inr (Or.inr (Or.inl ⟨g7, c7, n8, by rfl, by rfl, ⟨⟨zn8, by omega⟩, block_below0 hw1 d7_0⟩, q1_0⟩)))))⟩
  · right; left
    apply jump_intro
    · intro hh; refine wpAnyH_fuel 6 (by rfl) ?_
      refine wpAnyH_pure (i := 4) (v := ?_) rfl (by kernel_rfl) (by kernel_rfl) (by kernel_rfl) (fun _ _ _ h => h) (by rfl) (by assumption) ?_ ?_
      rotate_left
      · (intro w hSw; (try dsimp only at hSw); go_simp; (try with_reducible rfl))
      refine wpAnyH_pure (i := 5) (v := ?_) rfl (by kernel_rfl) (by kernel_rfl) (by kernel_rfl) (fun _ _ _ h => h) (by rfl) (by assumption) ?_ ?_
      rotate_left
      · (intro w hSw; (try dsimp only at hSw); go_simp; (try with_reducible rfl))
      refine wpAnyH_pure (i := 6) (v := ?_) rfl (by kernel_rfl) (by kernel_rfl) (by kernel_rfl) (fun _ _ _ h => h) (by rfl) (by assumption) ?_ ?_
      rotate_left
      · (intro w hSw; (try dsimp only at hSw); go_simp; (try with_reducible rfl))
      exact wpAnyH_fuel _ (by kernel_rfl) hh
    · exact of_decide_eq_true (by kernel_rfl)
    · exact ⟨⟨hSW', hB, hZ⟩, (Or.inr (Or.inr (Or.inr (Or.inr (Or.inr (Or.inl ⟨g7, c7, by kernel_rfl, by kernel_rfl, q1_0⟩))))))⟩
  · left
    refine ⟨[3], by kernel_rfl, by simp, ?_⟩
    simp only [Act.put, List.getElem_toArray, List.getElem_cons_succ, List.getElem_cons_zero, List.setIfInBounds_toArray, List.set_cons_zero, List.set_cons_succ]
    refine all_cons ?_ (all_nil)
    · refine wpOp_step rfl (fun Kq hKq => ?_)
      go_simp
      refine (KT.out _ _ _ (Lib.hid q1_0)).mono ?_
      rintro e W1 ⟨rfl, hw1⟩
      have hz1 := hw1.size
      have hc1 := (bcell hw1).1
      have hf1 := (bcell hw1).2
      refine hKq _ _ ?_
      exact ⟨⟨⟨(cS0.below hw1), (hc1 _ _ (by omega)).trans cS1, (hc1 _ _ (by omega)).trans cS2, (hc1 _ _ (by omega)).trans cS3, (hc1 _ _ (by omega)).trans cS4, (hc1 _ _ (by omega)).trans cS5, (hc1 _ _ (by omega)).trans cS6, (hc1 _ _ (by omega)).trans cS7, (hc1 _ _ (by omega)).trans cS8⟩, below_step hw1 hB (by have := hB.size; omega), by omega⟩, (Or.inr (Or.inr (Or.inr (Or.inr (Or.inr (Or.inr (Or.inl ⟨g7, c7, n8, by rfl, by rfl, ⟨⟨zn8, by omega⟩, block_below0 hw1 d7_0⟩, (q1_0.below hw1)⟩)))))))⟩
  · left
    refine ⟨[7], by kernel_rfl, by simp, ?_⟩
    simp only [Act.put, List.getElem_toArray, List.getElem_cons_succ, List.getElem_cons_zero, List.setIfInBounds_toArray, List.set_cons_zero, List.set_cons_succ]
    refine all_cons ?_ (all_nil)
    · refine wpOp_step rfl (fun Kq hKq => ?_)
      rw [if_pos (by rfl)]
      refine wp_alloc_row 26 (z) rfl (HZ.out _) ?_
      have hw1 : Below W.heap.size W (W.alloc (.cells (z) 26)) := by (repeat' (first | (with_reducible exact Below.refl _ _) | (with_reducible assumption) | (with_reducible refine Below.alloc ?_ ?_ _) | (with_reducible refine Below.drew ?_) | (with_reducible refine below_drewN ?_ _) | (with_reducible refine Below.setCell ?_ ?_ _) | (with_reducible refine below_step (by with_reducible assumption) ?_ ?_) | (with_reducible exact Below.size (by with_reducible assumption)) | go_size))
      have hz1 : (W.alloc (.cells (z) 26)).heap.size = W.heap.size + 1 := by simp
      have hc1 := (bcell hw1).1
      have hf1 := (bcell hw1).2
      refine hKq _ _ ?_
      exact ⟨⟨⟨(cS0.below hw1), (hc1 _ _ (by omega)).trans cS1, (hc1 _ _ (by omega)).trans cS2, (hc1 _ _ (by omega)).trans cS3, (hc1 _ _ (by omega)).trans cS4, (hc1 _ _ (by omega)).trans cS5, (hc1 _ _ (by omega)).trans cS6, (hc1 _ _ (by omega)).trans cS7, (hc1 _ _ (by omega)).trans cS8⟩, below_step hw1 hB (by have := hB.size; omega), by omega⟩, (Or.inr (Or.inr (Or.inr (Or.inr (Or.inr (Or.inr (Or.inr ⟨g7, c7, W.heap.size, by rfl, by rfl, ⟨⟨by omega, by omega⟩, heap_alloc_last W _⟩, (q1_0.below hw1)⟩)))))))⟩
  · right; left
    apply jump_intro
    · intro hh; refine wpAnyH_fuel 5 (by rfl) ?_
      refine wpAnyH_pure (i := 4) (v := ?_) rfl (by kernel_rfl) (by kernel_rfl) (by kernel_rfl) (fun _ _ _ h => h) (by rfl) (by assumption) ?_ ?_
      rotate_left
      · (intro w hSw; (try dsimp only at hSw); go_simp; (try with_reducible rfl))
      refine wpAnyH_pure (i := 5) (v := ?_) rfl (by kernel_rfl) (by kernel_rfl) (by kernel_rfl) (fun _ _ _ h => h) (by rfl) (by assumption) ?_ ?_
      rotate_left
      · (intro w hSw; (try dsimp only at hSw); go_simp; (try with_reducible rfl))
      refine wpAnyH_pure (i := 6) (v := ?_) rfl (by kernel_rfl) (by kernel_rfl) (by kernel_rfl) (fun _ _ _ h => h) (by rfl) (by assumption) ?_ ?_
      rotate_left
      · (intro w hSw; (try dsimp only at hSw); go_simp; (try with_reducible rfl))
      exact wpAnyH_fuel _ (by kernel_rfl) hh
    · exact of_decide_eq_true (by kernel_rfl)
    · exact ⟨⟨hSW', hB, hZ⟩, (Or.inr (Or.inr (Or.inr (Or.inr (Or.inr (Or.inr (Or.inr ⟨g7, c7, n8, by kernel_rfl, by kernel_rfl, ⟨⟨zn8, yn8⟩, d7_0⟩, q1_0⟩)))))))⟩
  right; right
  refine wpAnyH_fuel 2 (by rfl) ?_
  simp only [Act.put, List.getElem_toArray, List.getElem_cons_succ, List.getElem_cons_zero, List.setIfInBounds_toArray, List.set_cons_zero, List.set_cons_succ]
  have : ¬ n8 = w.heap.size := by omega
  have : ¬ w.heap.size = n8 := by omega
  have : ¬ n8 = w.heap.size + 1 := by omega
  have : ¬ w.heap.size + 1 = n8 := by omega
  have : ¬ n8 = g := by omega
  have : ¬ g = n8 := by omega
  have : ¬ n8 = w3.heap.size := by omega
  have : ¬ w3.heap.size = n8 := by omega
  clear hH1
  refine wpAnyH_ready (rs := [8]) (by kernel_rfl) (by simp) ?_
  refine AllReadyH.cons rfl (fun Kq hKq => ?_) AllReadyH.nil
  rw [if_pos (by rfl)]
  refine wp_store_row 26 26 _ _ n8 (z) (z) rfl rfl rfl (by rw [hzs.out]; exact infoTrace) rfl hzo.out (d7_0) ?_
  refine hKq.out _ _ ?_ (fun hH2 => ?_)
  · exact ⟨(cS0.setRow (by assumption) _), (cell_of (block_setRow_other (by assumption))).trans cS1, (cell_of (block_setRow_other (by assumption))).trans cS2, (cell_of (block_setRow_other (by assumption))).trans cS3, (cell_of (block_setRow_other (by assumption))).trans cS4, (cell_of (block_setRow_other (by assumption))).trans cS5, (cell_of (block_setRow_other (by assumption))).trans cS6, (cell_of (block_setRow_other (by assumption))).trans cS7, (cell_of (block_setRow_other (by assumption))).trans cS8⟩
  clear hKq Kq
  have hH2k := hH2
  obtain ⟨cS0hH2, cS1hH2, cS2hH2, cS3hH2, cS4hH2, cS5hH2, cS6hH2, cS7hH2, cS8hH2⟩ := hH2k
  refine wpAnyH_pure (i := 9) (v := ?_) rfl (by kernel_rfl) (by kernel_rfl) (by kernel_rfl) (fun _ _ _ h => h) (by rfl) (by assumption) ?_ ?_
  rotate_left
  · (intro w hSw; (try dsimp only at hSw); go_simp; (try with_reducible rfl))
  simp only [Act.put, List.getElem_toArray, List.getElem_cons_succ, List.getElem_cons_zero, List.setIfInBounds_toArray, List.set_cons_zero, List.set_cons_succ]
  refine wpAnyH_fin (T := fun W => (Buf W g U N N ∧ W.cell? ⟨w.heap.size, 0, none⟩ = some (.int .i64 (E)) ∧ W.cell? ⟨w.heap.size, 1, none⟩ = some (.slice qS n cS) ∧ W.cell? ⟨w.heap.size, 2, none⟩ = some (.slice qR m cR) ∧ W.cell? ⟨w.heap.size, 3, none⟩ = some (.int .i64 (M)) ∧ W.cell? ⟨w.heap.size + 1, 0, none⟩ = some (.int .i64 (pa)) ∧ W.cell? ⟨w.heap.size + 1, 1, none⟩ = some (.int .i64 (pb)) ∧ W.cell? ⟨w3.heap.size, 0, none⟩ = some (.int .i64 (E)) ∧ W.cell? ⟨w3.heap.size, 1, none⟩ = some (.slice (some ⟨g, 0, none⟩) N N)) ∧ (W.heap[n8]? = some (.cells (z) 26 (0, 0))) ∧ (((w6.heap.size) ≤ n8 ∧ n8 < W.heap.size) ∧ (w6.heap.size) ≤ W.heap.size) ∧ Below w.heap.size w W) (by kernel_rfl) ⟨hH2, ?_, ?_, ?_⟩ (fun W1 hT => ?_)
  · exact block_setRow (d7_0)
  · exact ⟨⟨zn8, (Array.getElem?_eq_some_iff.1 (block_setRow (d7_0))).1⟩, Nat.le_of_lt (Nat.lt_of_le_of_lt zn8 ((Array.getElem?_eq_some_iff.1 (block_setRow (d7_0))).1))⟩
  · exact (below_setRow hB (z) (by omega))
  obtain ⟨⟨gS0, gS1, gS2, gS3, gS4, gS5, gS6, gS7, gS8⟩, gF0, ⟨⟨zln8, gZ0⟩, gZ1⟩, hB1⟩ := hT
  clear hSW' hH2 hB hZ cS0hH2 cS1hH2 cS2hH2 cS3hH2 cS4hH2 cS5hH2 cS6hH2 cS7hH2 cS8hH2 zn8 yn8 d7_0
  have hBd := hB1
  have hzB := hBd.size
  go_wp2_with fail; (refine (KKR.out _ _ gS0).mono ?_; rintro e w8 ⟨rfl, hw8⟩; obtain ⟨hcw8, hfw8, hlw8, hmw8, hnw8⟩ := bcell3 hw8; have hzw8 := hw8.size; (try simp only [World.size_alloc, World.size_setCell, World.size_drew, size_drewN] at hzw8))
  have cx8_0 : w8.cell? ⟨w.heap.size, 0, none⟩ = some (.int .i64 (E)) := (hcw8 (w.heap.size) (0) (by first | omega | (simp only [World.size_alloc, World.size_drew, World.size_setCell, size_drewN]; omega))).trans (by first | assumption | (simp [go_sem, *]; done)); have cx8_1 : w8.cell? ⟨w.heap.size, 1, none⟩ = some (.slice qS n cS) := (hcw8 (w.heap.size) (1) (by first | omega | (simp only [World.size_alloc, World.size_drew, World.size_setCell, size_drewN]; omega))).trans (by first | assumption | (simp [go_sem, *]; done)); have cx8_2 : w8.cell? ⟨w.heap.size, 2, none⟩ = some (.slice qR m cR) := (hcw8 (w.heap.size) (2) (by first | omega | (simp only [World.size_alloc, World.size_drew, World.size_setCell, size_drewN]; omega))).trans (by first | assumption | (simp [go_sem, *]; done)); have cx8_3 : w8.cell? ⟨w.heap.size, 3, none⟩ = some (.int .i64 (M)) := (hcw8 (w.heap.size) (3) (by first | omega | (simp only [World.size_alloc, World.size_drew, World.size_setCell, size_drewN]; omega))).trans (by first | assumption | (simp [go_sem, *]; done)); have ox8 : w.heap.size < w8.heap.size := (by omega)
  have cp8_0 : w8.cell? ⟨w.heap.size + 1, 0, none⟩ = some (.int .i64 (pa)) := (hcw8 (w.heap.size + 1) (0) (by first | omega | (simp only [World.size_alloc, World.size_drew, World.size_setCell, size_drewN]; omega))).trans (by first | assumption | (simp [go_sem, *]; done)); have cp8_1 : w8.cell? ⟨w.heap.size + 1, 1, none⟩ = some (.int .i64 (pb)) := (hcw8 (w.heap.size + 1) (1) (by first | omega | (simp only [World.size_alloc, World.size_drew, World.size_setCell, size_drewN]; omega))).trans (by first | assumption | (simp [go_sem, *]; done)); have op8 : w.heap.size + 1 < w8.heap.size := (by omega)
  have cb8_0 : Buf w8 g U N N := (by first | exact Buf.below (by assumption) hw8 | exact Buf.below (by assumption) (by (repeat' (first | (with_reducible exact Below.refl _ _) | (with_reducible assumption) | (with_reducible refine Below.alloc ?_ ?_ _) | (with_reducible refine Below.drew ?_) | (with_reducible refine below_drewN ?_ _) | (with_reducible refine Below.setCell ?_ ?_ _) | (with_reducible refine below_step (by with_reducible assumption) ?_ ?_) | (with_reducible exact Below.size (by with_reducible assumption)) | go_size))))
  have cm8_0 : w8.cell? ⟨w3.heap.size, 0, none⟩ = some (.int .i64 (E)) := (hcw8 (w3.heap.size) (0) (by first | omega | (simp only [World.size_alloc, World.size_drew, World.size_setCell, size_drewN]; omega))).trans (by first | assumption | (simp [go_sem, *]; done)); have cm8_1 : w8.cell? ⟨w3.heap.size, 1, none⟩ = some (.slice (some ⟨g, 0, none⟩) N N) := (hcw8 (w3.heap.size) (1) (by first | omega | (simp only [World.size_alloc, World.size_drew, World.size_setCell, size_drewN]; omega))).trans (by first | assumption | (simp [go_sem, *]; done)); have om8 : w3.heap.size < w8.heap.size := (by omega)
  have cn88_0 : w8.heap[n8]? = some (.cells (z) 26 (0, 0)) := block_below0 hw8 (by first | assumption | (repeat (first | assumption | (refine heap_alloc_at ?_; (first | rfl | (simp only [World.size_alloc, World.size_drew, World.size_setCell, size_drewN]; done))) | refine block_alloc ?_)))
  clear hcw8 hfw8 hlw8 hmw8 hnw8
  have h08 : Below w.heap.size w w8 := by (repeat' (first | (with_reducible exact Below.refl _ _) | (with_reducible assumption) | (with_reducible refine Below.alloc ?_ ?_ _) | (with_reducible refine Below.drew ?_) | (with_reducible refine below_drewN ?_ _) | (with_reducible refine Below.setCell ?_ ?_ _) | (with_reducible refine below_step (by with_reducible assumption) ?_ ?_) | (with_reducible exact Below.size (by with_reducible assumption)) | go_size))
  by_cases ho0 : o = 0
  · have hp := HO.out.1 ho0
    rw [hp] at KP
    subst ho0
    clear hp
    go_wp2_with fail
    go_wp2_with fail; (refine (KP.out _ _).mono ?_; rintro e w9 ⟨rfl, hw9⟩; obtain ⟨hcw9, hfw9, hlw9, hmw9, hnw9⟩ := bcell3 hw9; have hzw9 := hw9.size; (try simp only [World.size_alloc, World.size_setCell, World.size_drew, size_drewN] at hzw9))
    have cx9_0 : w9.cell? ⟨w.heap.size, 0, none⟩ = some (.int .i64 (E)) := (hcw9 (w.heap.size) (0) (by first | omega | (simp only [World.size_alloc, World.size_drew, World.size_setCell, size_drewN]; omega))).trans (by first | assumption | (simp [go_sem, *]; done)); have cx9_1 : w9.cell? ⟨w.heap.size, 1, none⟩ = some (.slice qS n cS) := (hcw9 (w.heap.size) (1) (by first | omega | (simp only [World.size_alloc, World.size_drew, World.size_setCell, size_drewN]; omega))).trans (by first | assumption | (simp [go_sem, *]; done)); have cx9_2 : w9.cell? ⟨w.heap.size, 2, none⟩ = some (.slice qR m cR) := (hcw9 (w.heap.size) (2) (by first | omega | (simp only [World.size_alloc, World.size_drew, World.size_setCell, size_drewN]; omega))).trans (by first | assumption | (simp [go_sem, *]; done)); have cx9_3 : w9.cell? ⟨w.heap.size, 3, none⟩ = some (.int .i64 (M)) := (hcw9 (w.heap.size) (3) (by first | omega | (simp only [World.size_alloc, World.size_drew, World.size_setCell, size_drewN]; omega))).trans (by first | assumption | (simp [go_sem, *]; done)); have ox9 : w.heap.size < w9.heap.size := (by omega)
    clear cx8_0 cx8_1 cx8_2 cx8_3
    have cp9_0 : w9.cell? ⟨w.heap.size + 1, 0, none⟩ = some (.int .i64 (pa)) := (hcw9 (w.heap.size + 1) (0) (by first | omega | (simp only [World.size_alloc, World.size_drew, World.size_setCell, size_drewN]; omega))).trans (by first | assumption | (simp [go_sem, *]; done)); have cp9_1 : w9.cell? ⟨w.heap.size + 1, 1, none⟩ = some (.int .i64 (pb)) := (hcw9 (w.heap.size + 1) (1) (by first | omega | (simp only [World.size_alloc, World.size_drew, World.size_setCell, size_drewN]; omega))).trans (by first | assumption | (simp [go_sem, *]; done)); have op9 : w.heap.size + 1 < w9.heap.size := (by omega)
    clear cp8_0 cp8_1
    have cb9_0 : Buf w9 g U N N := (by first | exact Buf.below (by assumption) hw9 | exact Buf.below (by assumption) (by (repeat' (first | (with_reducible exact Below.refl _ _) | (with_reducible assumption) | (with_reducible refine Below.alloc ?_ ?_ _) | (with_reducible refine Below.drew ?_) | (with_reducible refine below_drewN ?_ _) | (with_reducible refine Below.setCell ?_ ?_ _) | (with_reducible refine below_step (by with_reducible assumption) ?_ ?_) | (with_reducible exact Below.size (by with_reducible assumption)) | go_size))))
    clear cb8_0
    have cm9_0 : w9.cell? ⟨w3.heap.size, 0, none⟩ = some (.int .i64 (E)) := (hcw9 (w3.heap.size) (0) (by first | omega | (simp only [World.size_alloc, World.size_drew, World.size_setCell, size_drewN]; omega))).trans (by first | assumption | (simp [go_sem, *]; done)); have cm9_1 : w9.cell? ⟨w3.heap.size, 1, none⟩ = some (.slice (some ⟨g, 0, none⟩) N N) := (hcw9 (w3.heap.size) (1) (by first | omega | (simp only [World.size_alloc, World.size_drew, World.size_setCell, size_drewN]; omega))).trans (by first | assumption | (simp [go_sem, *]; done)); have om9 : w3.heap.size < w9.heap.size := (by omega)
    clear cm8_0 cm8_1
    have cn89_0 : w9.heap[n8]? = some (.cells (z) 26 (0, 0)) := block_below0 hw9 (by first | assumption | (repeat (first | assumption | (refine heap_alloc_at ?_; (first | rfl | (simp only [World.size_alloc, World.size_drew, World.size_setCell, size_drewN]; done))) | refine block_alloc ?_)))
    clear cn88_0
    clear hcw9 hfw9 hlw9 hmw9 hnw9
    go_wp2_with (first | (refine wpl_loadg rfl 26 26 _ n8 z (0, 0) _ rfl rfl Try.underlying26 rfl (by rw [hzs.out]; exact infoTrace) (cn89_0) ?_) | (refine wpl_build0g rfl 26 (sz := 1) z rfl (HZ.out _) Try.underlying26 (by kernel_rfl) ?_))
    go_wp2_with fail; (refine (KS.out _).mono ?_; rintro e w10 ⟨rfl, hw10⟩; obtain ⟨hcw10, hfw10, hlw10, hmw10, hnw10⟩ := bcell3 hw10; have hzw10 := hw10.size; (try simp only [World.size_alloc, World.size_setCell, World.size_drew, size_drewN] at hzw10))
    go_wp2
    go_ret
    exact ⟨rfl, by (repeat' (first | (with_reducible exact Below.refl _ _) | (with_reducible assumption) | (with_reducible refine Below.alloc ?_ ?_ _) | (with_reducible refine Below.drew ?_) | (with_reducible refine below_drewN ?_ _) | (with_reducible refine Below.setCell ?_ ?_ _) | (with_reducible refine below_step (by with_reducible assumption) ?_ ?_) | (with_reducible exact Below.size (by with_reducible assumption)) | go_size))⟩
  · obtain rfl := HO.out.2 ho0
    have ho1 : (o == 0) = false := by simpa using ho0
    go_wp2_with (first | (refine wpl_loadg rfl 26 26 _ n8 z (0, 0) _ rfl rfl Try.underlying26 rfl (by rw [hzs.out]; exact infoTrace) (cn88_0) ?_) | (refine wpl_build0g rfl 26 (sz := 1) z rfl (HZ.out _) Try.underlying26 (by kernel_rfl) ?_))
    go_wp2_with fail; (refine (KS.out _).mono ?_; rintro e w10 ⟨rfl, hw10⟩; obtain ⟨hcw10, hfw10, hlw10, hmw10, hnw10⟩ := bcell3 hw10; have hzw10 := hw10.size; (try simp only [World.size_alloc, World.size_setCell, World.size_drew, size_drewN] at hzw10))
    go_wp2
    go_ret
    exact ⟨rfl, by (repeat' (first | (with_reducible exact Below.refl _ _) | (with_reducible assumption) | (with_reducible refine Below.alloc ?_ ?_ _) | (with_reducible refine Below.drew ?_) | (with_reducible refine below_drewN ?_ _) | (with_reducible refine Below.setCell ?_ ?_ _) | (with_reducible refine below_step (by with_reducible assumption) ?_ ?_) | (with_reducible exact Below.size (by with_reducible assumption)) | go_size))⟩
set_option maxRecDepth 100000 in
set_option maxHeartbeats 4000000 in
theorem traceMat_ok (E M pa pb : Int) (vS vR : Value) (s : Nat → Int × Int) (n : Nat) (r : Nat → Nat) (m : Nat) (w : World) (hS : Hid (PRow w vS s n)) (hR : Hid (FRow w vR r m)) (h : n ≤ 40 ∧ m ≤ 200)
    (ho : oE E (mU E M s n r m) (mN E M) = 0) (hp : pE pa pb E = 0) :
    Calls Try.prog 4 #[.agg #[.int .i64 E, vS, vR, .int .i64 M], .agg #[.int .i64 pa, .int .i64 pb]] w fun e w' => e = .returned (.bool true) ∧ Below w.heap.size w w' := by
  have hN : mN E M ≤ 20000 := by have := mN_bd E M; omega
  have KA := Lib.hid awake3_any
  have KX := Lib.hid (fun (W : World) (hB : Below w.heap.size w W) => matrix_any E M vS vR s n r m W (Lib.hid (hS.out.below hB)) (Lib.hid (hR.out.below hB)))
  have HM := Lib.hid (fun (W : World) (g : Nat) hg => mbuf_of (w := W) (E := E) (M := M) (s := s) (n := n) (g := g) (hR.out.choose_spec.choose_spec.2.2.1) hg)
  obtain ⟨qS, cS, rfl, -, -, -⟩ := hS.out
  obtain ⟨qR, cR, rfl, -, -, -⟩ := hR.out
  have KF := Lib.hid (fun W => few_any E M qS qR n cS m cR W)
  rw [decide_eq_true h] at KF
  obtain ⟨hE, hN2, hx⟩ := oE_zero ho
  obtain ⟨hpa, hpb⟩ := pE_in hE hp
  clear hS hR h
  generalize mU E M s n r m = U at *
  generalize mN E M = N at *
  have KC := Lib.hid (fun W g (hb : Buf W g U N N) => (copyMatrix_any E U g N N W hN (Lib.hid hb)).mono (R' := fun e w' => ∃ g' c', e = .returned (.agg #[.int .i64 E, .slice (some ⟨g', 0, none⟩) N c']) ∧ Buf w' g' U N c' ∧ Below W.heap.size W w') fun e w' ⟨g', c', h1, h2, h3⟩ => ⟨g', c', h1, h2.out, h3⟩)
  have KK := Lib.hid (fun W g c (hb : Hid (Buf W g U N c)) => checkMatrix_any E U g N c W hN hb)
  have KKR := Lib.hid (fun W g (hb : Buf W g U N N) => checkMatrixR_any E U g N N W hN (Lib.hid hb))
  have KT := Lib.hid (fun W g c (hb : Hid (Buf W g U N c)) => traceOf_ok E pa pb U g N c W hN hb (by unfold tpE; rw [ho, hp]; rfl) hE hpa hpb hN2 (Lib.hid hx))
  have KRT := Lib.hid (fun W g (hb : Buf W g U N N) => traceOfR_any E pa pb U g N N W (Lib.hid hb) hE hpa hpb hN2 (Lib.hid hx))
  rw [ho] at KK KKR
  have KP := Lib.hid (fun (v : Value) W => pairErr_any E pa pb v W)
  rw [hp] at KP
  have hzs := Lib.hid (tC_size fun _ => 0)
  have hzo := Lib.hid (tC_one fun _ => 0)
  have HZ := Lib.hid zero_trace
  have hsc := Lib.hid (tC_size (atX U (frm pa pb E)))
  have hoc := Lib.hid (tC_one (atX U (frm pa pb E)))
  have HIC := Lib.hid (show (Try.prog.info? 26).map (·.size) = some (tC (atX U (frm pa pb E))).size by rw [tC_size]; exact infoTrace)
  have KS := Lib.hid (fun W => sameTrace_eq (atX U (frm pa pb E)) W)
  clear ho hp hN hE hN2 hx hpa hpb
  generalize tC (atX U (frm pa pb E)) = c at *
  generalize oN E U N = oo at *
  generalize hcc : (tC fun _ => 0) = z at *
  have HCC := Lib.hid hcc
  clear hcc
  go_enter Try.func4, Try.ntmps4
  go_wp2_with fail; (refine (KA.out _).mono ?_; rintro e w1 ⟨rfl, hw1⟩; obtain ⟨hcw1, hfw1, hlw1, hmw1, hnw1⟩ := bcell3 hw1; have hzw1 := hw1.size; (try simp only [World.size_alloc, World.size_setCell, World.size_drew, size_drewN] at hzw1))
  have cx1_0 : w1.cell? ⟨w.heap.size, 0, none⟩ = some (.int .i64 (E)) := (hcw1 (w.heap.size) (0) (by first | omega | (simp only [World.size_alloc, World.size_drew, World.size_setCell, size_drewN]; omega))).trans (by first | assumption | (simp [go_sem, *]; done)); have cx1_1 : w1.cell? ⟨w.heap.size, 1, none⟩ = some (.slice qS n cS) := (hcw1 (w.heap.size) (1) (by first | omega | (simp only [World.size_alloc, World.size_drew, World.size_setCell, size_drewN]; omega))).trans (by first | assumption | (simp [go_sem, *]; done)); have cx1_2 : w1.cell? ⟨w.heap.size, 2, none⟩ = some (.slice qR m cR) := (hcw1 (w.heap.size) (2) (by first | omega | (simp only [World.size_alloc, World.size_drew, World.size_setCell, size_drewN]; omega))).trans (by first | assumption | (simp [go_sem, *]; done)); have cx1_3 : w1.cell? ⟨w.heap.size, 3, none⟩ = some (.int .i64 (M)) := (hcw1 (w.heap.size) (3) (by first | omega | (simp only [World.size_alloc, World.size_drew, World.size_setCell, size_drewN]; omega))).trans (by first | assumption | (simp [go_sem, *]; done)); have ox1 : w.heap.size < w1.heap.size := (by omega)
  have cp1_0 : w1.cell? ⟨w.heap.size + 1, 0, none⟩ = some (.int .i64 (pa)) := (hcw1 (w.heap.size + 1) (0) (by first | omega | (simp only [World.size_alloc, World.size_drew, World.size_setCell, size_drewN]; omega))).trans (by first | assumption | (simp [go_sem, *]; done)); have cp1_1 : w1.cell? ⟨w.heap.size + 1, 1, none⟩ = some (.int .i64 (pb)) := (hcw1 (w.heap.size + 1) (1) (by first | omega | (simp only [World.size_alloc, World.size_drew, World.size_setCell, size_drewN]; omega))).trans (by first | assumption | (simp [go_sem, *]; done)); have op1 : w.heap.size + 1 < w1.heap.size := (by omega)
  clear hcw1 hfw1 hlw1 hmw1 hnw1
  go_wp2_with fail; (refine (KF.out _).mono ?_; rintro e w2 ⟨rfl, hw2⟩; obtain ⟨hcw2, hfw2, hlw2, hmw2, hnw2⟩ := bcell3 hw2; have hzw2 := hw2.size; (try simp only [World.size_alloc, World.size_setCell, World.size_drew, size_drewN] at hzw2))
  have cx2_0 : w2.cell? ⟨w.heap.size, 0, none⟩ = some (.int .i64 (E)) := (hcw2 (w.heap.size) (0) (by first | omega | (simp only [World.size_alloc, World.size_drew, World.size_setCell, size_drewN]; omega))).trans (by first | assumption | (simp [go_sem, *]; done)); have cx2_1 : w2.cell? ⟨w.heap.size, 1, none⟩ = some (.slice qS n cS) := (hcw2 (w.heap.size) (1) (by first | omega | (simp only [World.size_alloc, World.size_drew, World.size_setCell, size_drewN]; omega))).trans (by first | assumption | (simp [go_sem, *]; done)); have cx2_2 : w2.cell? ⟨w.heap.size, 2, none⟩ = some (.slice qR m cR) := (hcw2 (w.heap.size) (2) (by first | omega | (simp only [World.size_alloc, World.size_drew, World.size_setCell, size_drewN]; omega))).trans (by first | assumption | (simp [go_sem, *]; done)); have cx2_3 : w2.cell? ⟨w.heap.size, 3, none⟩ = some (.int .i64 (M)) := (hcw2 (w.heap.size) (3) (by first | omega | (simp only [World.size_alloc, World.size_drew, World.size_setCell, size_drewN]; omega))).trans (by first | assumption | (simp [go_sem, *]; done)); have ox2 : w.heap.size < w2.heap.size := (by omega)
  clear cx1_0 cx1_1 cx1_2 cx1_3
  have cp2_0 : w2.cell? ⟨w.heap.size + 1, 0, none⟩ = some (.int .i64 (pa)) := (hcw2 (w.heap.size + 1) (0) (by first | omega | (simp only [World.size_alloc, World.size_drew, World.size_setCell, size_drewN]; omega))).trans (by first | assumption | (simp [go_sem, *]; done)); have cp2_1 : w2.cell? ⟨w.heap.size + 1, 1, none⟩ = some (.int .i64 (pb)) := (hcw2 (w.heap.size + 1) (1) (by first | omega | (simp only [World.size_alloc, World.size_drew, World.size_setCell, size_drewN]; omega))).trans (by first | assumption | (simp [go_sem, *]; done)); have op2 : w.heap.size + 1 < w2.heap.size := (by omega)
  clear cp1_0 cp1_1
  clear hcw2 hfw2 hlw2 hmw2 hnw2
  go_wp2_with fail
  refine (KX.out _ (by (repeat' (first | (with_reducible exact Below.refl _ _) | (with_reducible assumption) | (with_reducible refine Below.alloc ?_ ?_ _) | (with_reducible refine Below.drew ?_) | (with_reducible refine below_drewN ?_ _) | (with_reducible refine Below.setCell ?_ ?_ _) | (with_reducible refine below_step (by with_reducible assumption) ?_ ?_) | (with_reducible exact Below.size (by with_reducible assumption)) | go_size)))).mono ?_
  rintro e w3 ⟨g, rfl, ⟨hzg, hg⟩, hw3⟩
  obtain ⟨hcw3, hfw3, hlw3, hmw3, hnw3⟩ := bcell3 hw3
  have hzw3 := hw3.size
  have cx3_0 : w3.cell? ⟨w.heap.size, 0, none⟩ = some (.int .i64 (E)) := (hcw3 (w.heap.size) (0) (by first | omega | (simp only [World.size_alloc, World.size_drew, World.size_setCell, size_drewN]; omega))).trans (by first | assumption | (simp [go_sem, *]; done)); have cx3_1 : w3.cell? ⟨w.heap.size, 1, none⟩ = some (.slice qS n cS) := (hcw3 (w.heap.size) (1) (by first | omega | (simp only [World.size_alloc, World.size_drew, World.size_setCell, size_drewN]; omega))).trans (by first | assumption | (simp [go_sem, *]; done)); have cx3_2 : w3.cell? ⟨w.heap.size, 2, none⟩ = some (.slice qR m cR) := (hcw3 (w.heap.size) (2) (by first | omega | (simp only [World.size_alloc, World.size_drew, World.size_setCell, size_drewN]; omega))).trans (by first | assumption | (simp [go_sem, *]; done)); have cx3_3 : w3.cell? ⟨w.heap.size, 3, none⟩ = some (.int .i64 (M)) := (hcw3 (w.heap.size) (3) (by first | omega | (simp only [World.size_alloc, World.size_drew, World.size_setCell, size_drewN]; omega))).trans (by first | assumption | (simp [go_sem, *]; done)); have ox3 : w.heap.size < w3.heap.size := (by omega)
  clear cx2_0 cx2_1 cx2_2 cx2_3
  have cp3_0 : w3.cell? ⟨w.heap.size + 1, 0, none⟩ = some (.int .i64 (pa)) := (hcw3 (w.heap.size + 1) (0) (by first | omega | (simp only [World.size_alloc, World.size_drew, World.size_setCell, size_drewN]; omega))).trans (by first | assumption | (simp [go_sem, *]; done)); have cp3_1 : w3.cell? ⟨w.heap.size + 1, 1, none⟩ = some (.int .i64 (pb)) := (hcw3 (w.heap.size + 1) (1) (by first | omega | (simp only [World.size_alloc, World.size_drew, World.size_setCell, size_drewN]; omega))).trans (by first | assumption | (simp [go_sem, *]; done)); have op3 : w.heap.size + 1 < w3.heap.size := (by omega)
  clear cp2_0 cp2_1
  clear hcw3 hfw3 hlw3 hmw3 hnw3
  have cb3_0 := HM.out _ _ hg
  have hgl3 := cb3_0.2.1
  clear hg
  go_wp2_with fail
  first | refine abs_calls (fun w4 hw4 => ?_) | refine abs_last (fun w4 hw4 => ?_)
  have hw40 : Below w.heap.size w w4 := by rw [hw4]; (repeat' (first | (with_reducible exact Below.refl _ _) | (with_reducible assumption) | (with_reducible refine Below.alloc ?_ ?_ _) | (with_reducible refine Below.drew ?_) | (with_reducible refine below_drewN ?_ _) | (with_reducible refine Below.setCell ?_ ?_ _) | (with_reducible refine below_step (by with_reducible assumption) ?_ ?_) | (with_reducible exact Below.size (by with_reducible assumption)) | go_size))
  have hzz4 := hw40.size
  have cx4_0 : w4.cell? ⟨w.heap.size, 0, none⟩ = some (.int .i64 (E)) := by (first | (rw [hw4]; assumption) | (simp [go_sem, *]; done))
  have cx4_1 : w4.cell? ⟨w.heap.size, 1, none⟩ = some (.slice qS n cS) := by (first | (rw [hw4]; assumption) | (simp [go_sem, *]; done))
  have cx4_2 : w4.cell? ⟨w.heap.size, 2, none⟩ = some (.slice qR m cR) := by (first | (rw [hw4]; assumption) | (simp [go_sem, *]; done))
  have cx4_3 : w4.cell? ⟨w.heap.size, 3, none⟩ = some (.int .i64 (M)) := by (first | (rw [hw4]; assumption) | (simp [go_sem, *]; done))
  have cp4_0 : w4.cell? ⟨w.heap.size + 1, 0, none⟩ = some (.int .i64 (pa)) := by (first | (rw [hw4]; assumption) | (simp [go_sem, *]; done))
  have cp4_1 : w4.cell? ⟨w.heap.size + 1, 1, none⟩ = some (.int .i64 (pb)) := by (first | (rw [hw4]; assumption) | (simp [go_sem, *]; done))
  have cb4_0 : Buf w4 g U N N := by rw [hw4]; (repeat (first | assumption | refine Buf.alloc ?_ _ | refine Buf.drew ?_ | refine Buf.setCell ?_ (by omega) _ _ | exact cb3_0.below (by (repeat' (first | (with_reducible exact Below.refl _ _) | (with_reducible assumption) | (with_reducible refine Below.alloc ?_ ?_ _) | (with_reducible refine Below.drew ?_) | (with_reducible refine below_drewN ?_ _) | (with_reducible refine Below.setCell ?_ ?_ _) | (with_reducible refine below_step (by with_reducible assumption) ?_ ?_) | (with_reducible exact Below.size (by with_reducible assumption)) | go_size)))))
  have cm4_0 : w4.cell? ⟨w3.heap.size, 0, none⟩ = some (.int .i64 (E)) := by (first | (rw [hw4]; assumption) | (simp [go_sem, *]; done))
  have cm4_1 : w4.cell? ⟨w3.heap.size, 1, none⟩ = some (.slice (some ⟨g, 0, none⟩) N N) := by (first | (rw [hw4]; assumption) | (simp [go_sem, *]; done))
  have hz40 : w.heap.size < w4.heap.size := by (first | (rw [hw4]; simp; omega) | (rw [hw4]; simp; done) | (rw [hw4]; omega))
  have hz41 : w.heap.size + 1 < w4.heap.size := by (first | (rw [hw4]; simp; omega) | (rw [hw4]; simp; done) | (rw [hw4]; omega))
  have hz42 : w3.heap.size < w4.heap.size := by (first | (rw [hw4]; simp; omega) | (rw [hw4]; simp; done) | (rw [hw4]; omega))
  have hz43 : g < w4.heap.size := by (first | (rw [hw4]; simp; omega) | (rw [hw4]; simp; done) | (rw [hw4]; omega))
  clear cx3_0 cx3_1 cx3_2 cx3_3
  clear cp3_0 cp3_1
  clear cb3_0
  clear hw4
  refine (KC.out _ _ cb4_0).mono ?_
  rintro e w5 ⟨g5, c5, rfl, hb5, hw5⟩
  obtain ⟨hcw5, hfw5, hlw5, hmw5, hnw5⟩ := bcell3 hw5
  have hzw5 := hw5.size
  have cx5_0 : w5.cell? ⟨w.heap.size, 0, none⟩ = some (.int .i64 (E)) := (hcw5 (w.heap.size) (0) (by first | omega | (simp only [World.size_alloc, World.size_drew, World.size_setCell, size_drewN]; omega))).trans (by first | assumption | (simp [go_sem, *]; done)); have cx5_1 : w5.cell? ⟨w.heap.size, 1, none⟩ = some (.slice qS n cS) := (hcw5 (w.heap.size) (1) (by first | omega | (simp only [World.size_alloc, World.size_drew, World.size_setCell, size_drewN]; omega))).trans (by first | assumption | (simp [go_sem, *]; done)); have cx5_2 : w5.cell? ⟨w.heap.size, 2, none⟩ = some (.slice qR m cR) := (hcw5 (w.heap.size) (2) (by first | omega | (simp only [World.size_alloc, World.size_drew, World.size_setCell, size_drewN]; omega))).trans (by first | assumption | (simp [go_sem, *]; done)); have cx5_3 : w5.cell? ⟨w.heap.size, 3, none⟩ = some (.int .i64 (M)) := (hcw5 (w.heap.size) (3) (by first | omega | (simp only [World.size_alloc, World.size_drew, World.size_setCell, size_drewN]; omega))).trans (by first | assumption | (simp [go_sem, *]; done)); have ox5 : w.heap.size < w5.heap.size := (by omega)
  clear cx4_0 cx4_1 cx4_2 cx4_3
  have cp5_0 : w5.cell? ⟨w.heap.size + 1, 0, none⟩ = some (.int .i64 (pa)) := (hcw5 (w.heap.size + 1) (0) (by first | omega | (simp only [World.size_alloc, World.size_drew, World.size_setCell, size_drewN]; omega))).trans (by first | assumption | (simp [go_sem, *]; done)); have cp5_1 : w5.cell? ⟨w.heap.size + 1, 1, none⟩ = some (.int .i64 (pb)) := (hcw5 (w.heap.size + 1) (1) (by first | omega | (simp only [World.size_alloc, World.size_drew, World.size_setCell, size_drewN]; omega))).trans (by first | assumption | (simp [go_sem, *]; done)); have op5 : w.heap.size + 1 < w5.heap.size := (by omega)
  clear cp4_0 cp4_1
  have cb5_0 : Buf w5 g U N N := (by first | exact Buf.below (by assumption) hw5 | exact Buf.below (by assumption) (by (repeat' (first | (with_reducible exact Below.refl _ _) | (with_reducible assumption) | (with_reducible refine Below.alloc ?_ ?_ _) | (with_reducible refine Below.drew ?_) | (with_reducible refine below_drewN ?_ _) | (with_reducible refine Below.setCell ?_ ?_ _) | (with_reducible refine below_step (by with_reducible assumption) ?_ ?_) | (with_reducible exact Below.size (by with_reducible assumption)) | go_size))))
  clear cb4_0
  have cm5_0 : w5.cell? ⟨w3.heap.size, 0, none⟩ = some (.int .i64 (E)) := (hcw5 (w3.heap.size) (0) (by first | omega | (simp only [World.size_alloc, World.size_drew, World.size_setCell, size_drewN]; omega))).trans (by first | assumption | (simp [go_sem, *]; done)); have cm5_1 : w5.cell? ⟨w3.heap.size, 1, none⟩ = some (.slice (some ⟨g, 0, none⟩) N N) := (hcw5 (w3.heap.size) (1) (by first | omega | (simp only [World.size_alloc, World.size_drew, World.size_setCell, size_drewN]; omega))).trans (by first | assumption | (simp [go_sem, *]; done)); have om5 : w3.heap.size < w5.heap.size := (by omega)
  clear cm4_0 cm4_1
  clear hcw5 hfw5 hlw5 hmw5 hnw5
  go_wp2_with fail; (refine (KK.out _ _ _ (Lib.hid hb5)).mono ?_; rintro e w6 ⟨rfl, hw6⟩; obtain ⟨hcw6, hfw6, hlw6, hmw6, hnw6⟩ := bcell3 hw6; have hzw6 := hw6.size; (try simp only [World.size_alloc, World.size_setCell, World.size_drew, size_drewN] at hzw6))
  have cx6_0 : w6.cell? ⟨w.heap.size, 0, none⟩ = some (.int .i64 (E)) := (hcw6 (w.heap.size) (0) (by first | omega | (simp only [World.size_alloc, World.size_drew, World.size_setCell, size_drewN]; omega))).trans (by first | assumption | (simp [go_sem, *]; done)); have cx6_1 : w6.cell? ⟨w.heap.size, 1, none⟩ = some (.slice qS n cS) := (hcw6 (w.heap.size) (1) (by first | omega | (simp only [World.size_alloc, World.size_drew, World.size_setCell, size_drewN]; omega))).trans (by first | assumption | (simp [go_sem, *]; done)); have cx6_2 : w6.cell? ⟨w.heap.size, 2, none⟩ = some (.slice qR m cR) := (hcw6 (w.heap.size) (2) (by first | omega | (simp only [World.size_alloc, World.size_drew, World.size_setCell, size_drewN]; omega))).trans (by first | assumption | (simp [go_sem, *]; done)); have cx6_3 : w6.cell? ⟨w.heap.size, 3, none⟩ = some (.int .i64 (M)) := (hcw6 (w.heap.size) (3) (by first | omega | (simp only [World.size_alloc, World.size_drew, World.size_setCell, size_drewN]; omega))).trans (by first | assumption | (simp [go_sem, *]; done)); have ox6 : w.heap.size < w6.heap.size := (by omega)
  clear cx5_0 cx5_1 cx5_2 cx5_3
  have cp6_0 : w6.cell? ⟨w.heap.size + 1, 0, none⟩ = some (.int .i64 (pa)) := (hcw6 (w.heap.size + 1) (0) (by first | omega | (simp only [World.size_alloc, World.size_drew, World.size_setCell, size_drewN]; omega))).trans (by first | assumption | (simp [go_sem, *]; done)); have cp6_1 : w6.cell? ⟨w.heap.size + 1, 1, none⟩ = some (.int .i64 (pb)) := (hcw6 (w.heap.size + 1) (1) (by first | omega | (simp only [World.size_alloc, World.size_drew, World.size_setCell, size_drewN]; omega))).trans (by first | assumption | (simp [go_sem, *]; done)); have op6 : w.heap.size + 1 < w6.heap.size := (by omega)
  clear cp5_0 cp5_1
  have cb6_0 : Buf w6 g U N N := (by first | exact Buf.below (by assumption) hw6 | exact Buf.below (by assumption) (by (repeat' (first | (with_reducible exact Below.refl _ _) | (with_reducible assumption) | (with_reducible refine Below.alloc ?_ ?_ _) | (with_reducible refine Below.drew ?_) | (with_reducible refine below_drewN ?_ _) | (with_reducible refine Below.setCell ?_ ?_ _) | (with_reducible refine below_step (by with_reducible assumption) ?_ ?_) | (with_reducible exact Below.size (by with_reducible assumption)) | go_size))))
  clear cb5_0
  have cm6_0 : w6.cell? ⟨w3.heap.size, 0, none⟩ = some (.int .i64 (E)) := (hcw6 (w3.heap.size) (0) (by first | omega | (simp only [World.size_alloc, World.size_drew, World.size_setCell, size_drewN]; omega))).trans (by first | assumption | (simp [go_sem, *]; done)); have cm6_1 : w6.cell? ⟨w3.heap.size, 1, none⟩ = some (.slice (some ⟨g, 0, none⟩) N N) := (hcw6 (w3.heap.size) (1) (by first | omega | (simp only [World.size_alloc, World.size_drew, World.size_setCell, size_drewN]; omega))).trans (by first | assumption | (simp [go_sem, *]; done)); have om6 : w3.heap.size < w6.heap.size := (by omega)
  clear cm5_0 cm5_1
  clear hcw6 hfw6 hlw6 hmw6 hnw6
  go_wp2
  have hgl6 : g < w6.heap.size := by omega
  refine wp_region_held_drew (S := fun w' => Buf w' g U N N ∧ w'.cell? ⟨w.heap.size, 0, none⟩ = some (.int .i64 (E)) ∧ w'.cell? ⟨w.heap.size, 1, none⟩ = some (.slice qS n cS) ∧ w'.cell? ⟨w.heap.size, 2, none⟩ = some (.slice qR m cR) ∧ w'.cell? ⟨w.heap.size, 3, none⟩ = some (.int .i64 (M)) ∧ w'.cell? ⟨w.heap.size + 1, 0, none⟩ = some (.int .i64 (pa)) ∧ w'.cell? ⟨w.heap.size + 1, 1, none⟩ = some (.int .i64 (pb)) ∧ w'.cell? ⟨w3.heap.size, 0, none⟩ = some (.int .i64 (E)) ∧ w'.cell? ⟨w3.heap.size, 1, none⟩ = some (.slice (some ⟨g, 0, none⟩) N N)) (by kernel_rfl) ?_ (fun hH1 => ?_)
  · (refine ⟨?_, ?_, ?_, ?_, ?_, ?_, ?_, ?_, ?_⟩ <;> (first | assumption | ((repeat (first | assumption | (refine heap_alloc_at ?_; (first | rfl | (simp only [World.size_alloc, World.size_drew, World.size_setCell, size_drewN]; done))) | refine block_alloc ?_ | refine (block_setCell_other (by omega)).trans ?_ | refine Buf.alloc ?_ _ | refine Buf.drew ?_ | refine Buf.setCell ?_ (by omega) _ _)); done) | (go_keep; done) | (simp [*, go_sem]; done)))
  refine wpAnyH_pure (i := 0) (v := ?_) rfl (by kernel_rfl) (by kernel_rfl) (by kernel_rfl) (fun _ _ _ h => h) (by rfl) (by assumption) ?_ ?_
  rotate_left
  · (intro w hSw; (try dsimp only at hSw); go_simp; (try with_reducible rfl))
  simp only [Act.put, List.getElem_toArray, List.getElem_cons_succ, List.getElem_cons_zero, List.setIfInBounds_toArray, List.set_cons_zero, List.set_cons_succ]
  refine wpAnyH_pure (i := 2) (v := ?_) rfl (by kernel_rfl) (by kernel_rfl) (by kernel_rfl) (fun _ _ _ h => h) (by rfl) (by assumption) ?_ ?_
  rotate_left
  · (intro w hSw; (try dsimp only at hSw); go_simp; (try with_reducible rfl))
  simp only [Act.put, List.getElem_toArray, List.getElem_cons_succ, List.getElem_cons_zero, List.setIfInBounds_toArray, List.set_cons_zero, List.set_cons_succ]
  refine wpAnyH_dagC0 (fun a0 l0 l a W => ((Buf W g U N N ∧ W.cell? ⟨w.heap.size, 0, none⟩ = some (.int .i64 (E)) ∧ W.cell? ⟨w.heap.size, 1, none⟩ = some (.slice qS n cS) ∧ W.cell? ⟨w.heap.size, 2, none⟩ = some (.slice qR m cR) ∧ W.cell? ⟨w.heap.size, 3, none⟩ = some (.int .i64 (M)) ∧ W.cell? ⟨w.heap.size + 1, 0, none⟩ = some (.int .i64 (pa)) ∧ W.cell? ⟨w.heap.size + 1, 1, none⟩ = some (.int .i64 (pb)) ∧ W.cell? ⟨w3.heap.size, 0, none⟩ = some (.int .i64 (E)) ∧ W.cell? ⟨w3.heap.size, 1, none⟩ = some (.slice (some ⟨g, 0, none⟩) N N)) ∧ Below w.heap.size w W ∧ (w6.heap.size) ≤ W.heap.size) ∧ (((l = l0) ∧ (a = a0)) ∨ (∃ g7 c7, (l = (l0.setIfInBounds 1 true)) ∧ (a = (a0.put (some 27) (.agg #[.int .i64 E, .slice (some ⟨g7, 0, none⟩) N c7]))) ∧ (Buf W g7 U N c7)) ∨ (∃ n8, (l = (l0.setIfInBounds 7 true)) ∧ (a = (a0.put (some 8) (.pointer (some ⟨n8, 0, none⟩)))) ∧ (((w6.heap.size) ≤ n8 ∧ n8 < W.heap.size) ∧ W.heap[n8]? = some (.cells (z) 26 (0, 0)))) ∨ (∃ g7 c7, (l = ((l0.setIfInBounds 1 true).setIfInBounds 3 true)) ∧ (a = ((a0.put (some 27) (.agg #[.int .i64 E, .slice (some ⟨g7, 0, none⟩) N c7])).put (some 29) (.tuple #[.agg c, .int .i64 0]))) ∧ (Buf W g7 U N c7)) ∨ (∃ g7 c7 n8, (l = ((l0.setIfInBounds 1 true).setIfInBounds 7 true)) ∧ (a = ((a0.put (some 27) (.agg #[.int .i64 E, .slice (some ⟨g7, 0, none⟩) N c7])).put (some 8) (.pointer (some ⟨n8, 0, none⟩)))) ∧ (((w6.heap.size) ≤ n8 ∧ n8 < W.heap.size) ∧ W.heap[n8]? = some (.cells (z) 26 (0, 0))) ∧ (Buf W g7 U N c7)) ∨ (∃ g7 c7, (l = (((((l0.setIfInBounds 1 true).setIfInBounds 3 true).setIfInBounds 4 true).setIfInBounds 5 true).setIfInBounds 6 true)) ∧ (a = (((((a0.put (some 27) (.agg #[.int .i64 E, .slice (some ⟨g7, 0, none⟩) N c7])).put (some 29) (.tuple #[.agg c, .int .i64 0])).put (some 25) (.tuple #[.agg c, .int .i64 0])).put (some 30) (.agg c)).put (some 31) (.int .i64 0))) ∧ (Buf W g7 U N c7)) ∨ (∃ g7 c7 n8, (l = (((l0.setIfInBounds 1 true).setIfInBounds 3 true).setIfInBounds 7 true)) ∧ (a = (((a0.put (some 27) (.agg #[.int .i64 E, .slice (some ⟨g7, 0, none⟩) N c7])).put (some 29) (.tuple #[.agg c, .int .i64 0])).put (some 8) (.pointer (some ⟨n8, 0, none⟩)))) ∧ (((w6.heap.size) ≤ n8 ∧ n8 < W.heap.size) ∧ W.heap[n8]? = some (.cells (z) 26 (0, 0))) ∧ (Buf W g7 U N c7)) ∨ (∃ g7 c7 n8, (l = ((((((l0.setIfInBounds 1 true).setIfInBounds 3 true).setIfInBounds 4 true).setIfInBounds 5 true).setIfInBounds 6 true).setIfInBounds 7 true)) ∧ (a = ((((((a0.put (some 27) (.agg #[.int .i64 E, .slice (some ⟨g7, 0, none⟩) N c7])).put (some 29) (.tuple #[.agg c, .int .i64 0])).put (some 25) (.tuple #[.agg c, .int .i64 0])).put (some 30) (.agg c)).put (some 31) (.int .i64 0)).put (some 8) (.pointer (some ⟨n8, 0, none⟩)))) ∧ (((w6.heap.size) ≤ n8 ∧ n8 < W.heap.size) ∧ W.heap[n8]? = some (.cells (z) 26 (0, 0))) ∧ (Buf W g7 U N c7)))) (by rfl) ?_ ?_ ?_
  · exact ⟨⟨hH1, by (repeat' (first | (with_reducible exact Below.refl _ _) | (with_reducible assumption) | (with_reducible refine Below.alloc ?_ ?_ _) | (with_reducible refine Below.drew ?_) | (with_reducible refine below_drewN ?_ _) | (with_reducible refine Below.setCell ?_ ?_ _) | (with_reducible refine below_step (by with_reducible assumption) ?_ ?_) | (with_reducible exact Below.size (by with_reducible assumption)) | go_size)), by first | omega | (simp only [World.size_alloc, World.size_setCell, World.size_drew, size_drewN]; omega)⟩, (Or.inl ⟨rfl, rfl⟩)⟩
  · intro l a W hI; exact hI.1.1
  intro l a W hI
  obtain ⟨⟨hSW, hB, hZ⟩, hI⟩ := hI
  have hSW' := hSW
  obtain ⟨cS0, cS1, cS2, cS3, cS4, cS5, cS6, cS7, cS8⟩ := hSW
  rcases hI with ⟨rfl, rfl⟩ | ⟨g7, c7, rfl, rfl, q1_0⟩ | ⟨n8, rfl, rfl, ⟨⟨zn8, yn8⟩, d7_0⟩⟩ | ⟨g7, c7, rfl, rfl, q1_0⟩ | ⟨g7, c7, n8, rfl, rfl, ⟨⟨zn8, yn8⟩, d7_0⟩, q1_0⟩ | ⟨g7, c7, rfl, rfl, q1_0⟩ | ⟨g7, c7, n8, rfl, rfl, ⟨⟨zn8, yn8⟩, d7_0⟩, q1_0⟩ | ⟨g7, c7, n8, rfl, rfl, ⟨⟨zn8, yn8⟩, d7_0⟩, q1_0⟩
  · left
    refine ⟨[1, 7], by kernel_rfl, by simp, ?_⟩
    simp only [Act.put, List.getElem_toArray, List.getElem_cons_succ, List.getElem_cons_zero, List.setIfInBounds_toArray, List.set_cons_zero, List.set_cons_succ]
    refine all_cons ?_ (all_cons ?_ (all_nil))
    · refine wpOp_step rfl (fun Kq hKq => ?_)
      go_simp
      refine (KC.out _ _ cS0).mono ?_
      rintro e W1 ⟨g7, c7, rfl, q1_0, hw1⟩
      have hz1 := hw1.size
      have hc1 := (bcell hw1).1
      have hf1 := (bcell hw1).2
      refine hKq _ _ ?_
      exact ⟨⟨⟨(cS0.below hw1), (hc1 _ _ (by omega)).trans cS1, (hc1 _ _ (by omega)).trans cS2, (hc1 _ _ (by omega)).trans cS3, (hc1 _ _ (by omega)).trans cS4, (hc1 _ _ (by omega)).trans cS5, (hc1 _ _ (by omega)).trans cS6, (hc1 _ _ (by omega)).trans cS7, (hc1 _ _ (by omega)).trans cS8⟩, below_step hw1 hB (by have := hB.size; omega), by omega⟩, (Or.inr (Or.inl ⟨g7, c7, by rfl, by rfl, q1_0⟩))⟩
    · refine wpOp_step rfl (fun Kq hKq => ?_)
      rw [if_pos (by rfl)]
      refine wp_alloc_row 26 (z) rfl (HZ.out _) ?_
      have hw1 : Below W.heap.size W (W.alloc (.cells (z) 26)) := by (repeat' (first | (with_reducible exact Below.refl _ _) | (with_reducible assumption) | (with_reducible refine Below.alloc ?_ ?_ _) | (with_reducible refine Below.drew ?_) | (with_reducible refine below_drewN ?_ _) | (with_reducible refine Below.setCell ?_ ?_ _) | (with_reducible refine below_step (by with_reducible assumption) ?_ ?_) | (with_reducible exact Below.size (by with_reducible assumption)) | go_size))
      have hz1 : (W.alloc (.cells (z) 26)).heap.size = W.heap.size + 1 := by simp
      have hc1 := (bcell hw1).1
      have hf1 := (bcell hw1).2
      refine hKq _ _ ?_
      exact ⟨⟨⟨(cS0.below hw1), (hc1 _ _ (by omega)).trans cS1, (hc1 _ _ (by omega)).trans cS2, (hc1 _ _ (by omega)).trans cS3, (hc1 _ _ (by omega)).trans cS4, (hc1 _ _ (by omega)).trans cS5, (hc1 _ _ (by omega)).trans cS6, (hc1 _ _ (by omega)).trans cS7, (hc1 _ _ (by omega)).trans cS8⟩, below_step hw1 hB (by have := hB.size; omega), by omega⟩, (Or.inr (Or.inr (Or.inl ⟨W.heap.size, by rfl, by rfl, ⟨⟨by omega, by omega⟩, heap_alloc_last W _⟩⟩)))⟩
  · left
    refine ⟨[3, 7], by kernel_rfl, by simp, ?_⟩
    simp only [Act.put, List.getElem_toArray, List.getElem_cons_succ, List.getElem_cons_zero, List.setIfInBounds_toArray, List.set_cons_zero, List.set_cons_succ]
    refine all_cons ?_ (all_cons ?_ (all_nil))
    · refine wpOp_step rfl (fun Kq hKq => ?_)
      go_simp
      refine (KT.out _ _ _ (Lib.hid q1_0)).mono ?_
      rintro e W1 ⟨rfl, hw1⟩
      have hz1 := hw1.size
      have hc1 := (bcell hw1).1
      have hf1 := (bcell hw1).2
      refine hKq _ _ ?_
      exact ⟨⟨⟨(cS0.below hw1), (hc1 _ _ (by omega)).trans cS1, (hc1 _ _ (by omega)).trans cS2, (hc1 _ _ (by omega)).trans cS3, (hc1 _ _ (by omega)).trans cS4, (hc1 _ _ (by omega)).trans cS5, (hc1 _ _ (by omega)).trans cS6, (hc1 _ _ (by omega)).trans cS7, (hc1 _ _ (by omega)).trans cS8⟩, below_step hw1 hB (by have := hB.size; omega), by omega⟩, (Or.inr (Or.inr (Or.inr (Or.inl ⟨g7, c7, by rfl, by rfl, (q1_0.below hw1)⟩))))⟩
    · refine wpOp_step rfl (fun Kq hKq => ?_)
      rw [if_pos (by rfl)]
      refine wp_alloc_row 26 (z) rfl (HZ.out _) ?_
      have hw1 : Below W.heap.size W (W.alloc (.cells (z) 26)) := by (repeat' (first | (with_reducible exact Below.refl _ _) | (with_reducible assumption) | (with_reducible refine Below.alloc ?_ ?_ _) | (with_reducible refine Below.drew ?_) | (with_reducible refine below_drewN ?_ _) | (with_reducible refine Below.setCell ?_ ?_ _) | (with_reducible refine below_step (by with_reducible assumption) ?_ ?_) | (with_reducible exact Below.size (by with_reducible assumption)) | go_size))
      have hz1 : (W.alloc (.cells (z) 26)).heap.size = W.heap.size + 1 := by simp
      have hc1 := (bcell hw1).1
      have hf1 := (bcell hw1).2
      refine hKq _ _ ?_
      exact ⟨⟨⟨(cS0.below hw1), (hc1 _ _ (by omega)).trans cS1, (hc1 _ _ (by omega)).trans cS2, (hc1 _ _ (by omega)).trans cS3, (hc1 _ _ (by omega)).trans cS4, (hc1 _ _ (by omega)).trans cS5, (hc1 _ _ (by omega)).trans cS6, (hc1 _ _ (by omega)).trans cS7, (hc1 _ _ (by omega)).trans cS8⟩, below_step hw1 hB (by have := hB.size; omega), by omega⟩, (Or.inr (Or.inr (Or.inr (Or.inr (Or.inl ⟨g7, c7, W.heap.size, by rfl, by rfl, ⟨⟨by omega, by omega⟩, heap_alloc_last W _⟩, (q1_0.below hw1)⟩)))))⟩
  · left
    refine ⟨[1], by kernel_rfl, by simp, ?_⟩
    simp only [Act.put, List.getElem_toArray, List.getElem_cons_succ, List.getElem_cons_zero, List.setIfInBounds_toArray, List.set_cons_zero, List.set_cons_succ]
    refine all_cons ?_ (all_nil)
    · refine wpOp_step rfl (fun Kq hKq => ?_)
      go_simp
      refine (KC.out _ _ cS0).mono ?_
      rintro e W1 ⟨g7, c7, rfl, q1_0, hw1⟩
      have hz1 := hw1.size
      have hc1 := (bcell hw1).1
      have hf1 := (bcell hw1).2
      refine hKq _ _ ?_
      exact ⟨⟨⟨(cS0.below hw1), (hc1 _ _ (by omega)).trans cS1, (hc1 _ _ (by omega)).trans cS2, (hc1 _ _ (by omega)).trans cS3, (hc1 _ _ (by omega)).trans cS4, (hc1 _ _ (by omega)).trans cS5, (hc1 _ _ (by omega)).trans cS6, (hc1 _ _ (by omega)).trans cS7, (hc1 _ _ (by omega)).trans cS8⟩, below_step hw1 hB (by have := hB.size; omega), by omega⟩, (Or.inr (Or.inr (Or.inr (Or.inr (Or.inl ⟨g7, c7, n8, by rfl, by rfl, ⟨⟨zn8, by omega⟩, block_below0 hw1 d7_0⟩, q1_0⟩)))))⟩
  · right; left
    apply jump_intro
    · intro hh; refine wpAnyH_fuel 6 (by rfl) ?_
      refine wpAnyH_pure (i := 4) (v := ?_) rfl (by kernel_rfl) (by kernel_rfl) (by kernel_rfl) (fun _ _ _ h => h) (by rfl) (by assumption) ?_ ?_
      rotate_left
      · (intro w hSw; (try dsimp only at hSw); go_simp; (try with_reducible rfl))
      refine wpAnyH_pure (i := 5) (v := ?_) rfl (by kernel_rfl) (by kernel_rfl) (by kernel_rfl) (fun _ _ _ h => h) (by rfl) (by assumption) ?_ ?_
      rotate_left
      · (intro w hSw; (try dsimp only at hSw); go_simp; (try with_reducible rfl))
      refine wpAnyH_pure (i := 6) (v := ?_) rfl (by kernel_rfl) (by kernel_rfl) (by kernel_rfl) (fun _ _ _ h => h) (by rfl) (by assumption) ?_ ?_
      rotate_left
      · (intro w hSw; (try dsimp only at hSw); go_simp; (try with_reducible rfl))
      exact wpAnyH_fuel _ (by kernel_rfl) hh
    · exact of_decide_eq_true (by kernel_rfl)
    · exact ⟨⟨hSW', hB, hZ⟩, (Or.inr (Or.inr (Or.inr (Or.inr (Or.inr (Or.inl ⟨g7, c7, by kernel_rfl, by kernel_rfl, q1_0⟩))))))⟩
  · left
    refine ⟨[3], by kernel_rfl, by simp, ?_⟩
    simp only [Act.put, List.getElem_toArray, List.getElem_cons_succ, List.getElem_cons_zero, List.setIfInBounds_toArray, List.set_cons_zero, List.set_cons_succ]
    refine all_cons ?_ (all_nil)
    · refine wpOp_step rfl (fun Kq hKq => ?_)
      go_simp
      refine (KT.out _ _ _ (Lib.hid q1_0)).mono ?_
      rintro e W1 ⟨rfl, hw1⟩
      have hz1 := hw1.size
      have hc1 := (bcell hw1).1
      have hf1 := (bcell hw1).2
      refine hKq _ _ ?_
      exact ⟨⟨⟨(cS0.below hw1), (hc1 _ _ (by omega)).trans cS1, (hc1 _ _ (by omega)).trans cS2, (hc1 _ _ (by omega)).trans cS3, (hc1 _ _ (by omega)).trans cS4, (hc1 _ _ (by omega)).trans cS5, (hc1 _ _ (by omega)).trans cS6, (hc1 _ _ (by omega)).trans cS7, (hc1 _ _ (by omega)).trans cS8⟩, below_step hw1 hB (by have := hB.size; omega), by omega⟩, (Or.inr (Or.inr (Or.inr (Or.inr (Or.inr (Or.inr (Or.inl ⟨g7, c7, n8, by rfl, by rfl, ⟨⟨zn8, by omega⟩, block_below0 hw1 d7_0⟩, (q1_0.below hw1)⟩)))))))⟩
  · left
    refine ⟨[7], by kernel_rfl, by simp, ?_⟩
    simp only [Act.put, List.getElem_toArray, List.getElem_cons_succ, List.getElem_cons_zero, List.setIfInBounds_toArray, List.set_cons_zero, List.set_cons_succ]
    refine all_cons ?_ (all_nil)
    · refine wpOp_step rfl (fun Kq hKq => ?_)
      rw [if_pos (by rfl)]
      refine wp_alloc_row 26 (z) rfl (HZ.out _) ?_
      have hw1 : Below W.heap.size W (W.alloc (.cells (z) 26)) := by (repeat' (first | (with_reducible exact Below.refl _ _) | (with_reducible assumption) | (with_reducible refine Below.alloc ?_ ?_ _) | (with_reducible refine Below.drew ?_) | (with_reducible refine below_drewN ?_ _) | (with_reducible refine Below.setCell ?_ ?_ _) | (with_reducible refine below_step (by with_reducible assumption) ?_ ?_) | (with_reducible exact Below.size (by with_reducible assumption)) | go_size))
      have hz1 : (W.alloc (.cells (z) 26)).heap.size = W.heap.size + 1 := by simp
      have hc1 := (bcell hw1).1
      have hf1 := (bcell hw1).2
      refine hKq _ _ ?_
      exact ⟨⟨⟨(cS0.below hw1), (hc1 _ _ (by omega)).trans cS1, (hc1 _ _ (by omega)).trans cS2, (hc1 _ _ (by omega)).trans cS3, (hc1 _ _ (by omega)).trans cS4, (hc1 _ _ (by omega)).trans cS5, (hc1 _ _ (by omega)).trans cS6, (hc1 _ _ (by omega)).trans cS7, (hc1 _ _ (by omega)).trans cS8⟩, below_step hw1 hB (by have := hB.size; omega), by omega⟩, (Or.inr (Or.inr (Or.inr (Or.inr (Or.inr (Or.inr (Or.inr ⟨g7, c7, W.heap.size, by rfl, by rfl, ⟨⟨by omega, by omega⟩, heap_alloc_last W _⟩, (q1_0.below hw1)⟩)))))))⟩
  · right; left
    apply jump_intro
    · intro hh; refine wpAnyH_fuel 5 (by rfl) ?_
      refine wpAnyH_pure (i := 4) (v := ?_) rfl (by kernel_rfl) (by kernel_rfl) (by kernel_rfl) (fun _ _ _ h => h) (by rfl) (by assumption) ?_ ?_
      rotate_left
      · (intro w hSw; (try dsimp only at hSw); go_simp; (try with_reducible rfl))
      refine wpAnyH_pure (i := 5) (v := ?_) rfl (by kernel_rfl) (by kernel_rfl) (by kernel_rfl) (fun _ _ _ h => h) (by rfl) (by assumption) ?_ ?_
      rotate_left
      · (intro w hSw; (try dsimp only at hSw); go_simp; (try with_reducible rfl))
      refine wpAnyH_pure (i := 6) (v := ?_) rfl (by kernel_rfl) (by kernel_rfl) (by kernel_rfl) (fun _ _ _ h => h) (by rfl) (by assumption) ?_ ?_
      rotate_left
      · (intro w hSw; (try dsimp only at hSw); go_simp; (try with_reducible rfl))
      exact wpAnyH_fuel _ (by kernel_rfl) hh
    · exact of_decide_eq_true (by kernel_rfl)
    · exact ⟨⟨hSW', hB, hZ⟩, (Or.inr (Or.inr (Or.inr (Or.inr (Or.inr (Or.inr (Or.inr ⟨g7, c7, n8, by kernel_rfl, by kernel_rfl, ⟨⟨zn8, yn8⟩, d7_0⟩, q1_0⟩)))))))⟩
  right; right
  refine wpAnyH_fuel 2 (by rfl) ?_
  simp only [Act.put, List.getElem_toArray, List.getElem_cons_succ, List.getElem_cons_zero, List.setIfInBounds_toArray, List.set_cons_zero, List.set_cons_succ]
  have : ¬ n8 = w.heap.size := by omega
  have : ¬ w.heap.size = n8 := by omega
  have : ¬ n8 = w.heap.size + 1 := by omega
  have : ¬ w.heap.size + 1 = n8 := by omega
  have : ¬ n8 = g := by omega
  have : ¬ g = n8 := by omega
  have : ¬ n8 = w3.heap.size := by omega
  have : ¬ w3.heap.size = n8 := by omega
  clear hH1
  refine wpAnyH_ready (rs := [8]) (by kernel_rfl) (by simp) ?_
  refine AllReadyH.cons rfl (fun Kq hKq => ?_) AllReadyH.nil
  rw [if_pos (by rfl)]
  refine wp_store_row 26 26 _ _ n8 (z) (c) rfl rfl rfl (by rw [hsc.out]; exact infoTrace) (by rw [hzs.out, hsc.out]) hoc.out (d7_0) ?_
  refine hKq.out _ _ ?_ (fun hH2 => ?_)
  · exact ⟨(cS0.setRow (by assumption) _), (cell_of (block_setRow_other (by assumption))).trans cS1, (cell_of (block_setRow_other (by assumption))).trans cS2, (cell_of (block_setRow_other (by assumption))).trans cS3, (cell_of (block_setRow_other (by assumption))).trans cS4, (cell_of (block_setRow_other (by assumption))).trans cS5, (cell_of (block_setRow_other (by assumption))).trans cS6, (cell_of (block_setRow_other (by assumption))).trans cS7, (cell_of (block_setRow_other (by assumption))).trans cS8⟩
  clear hKq Kq
  have hH2k := hH2
  obtain ⟨cS0hH2, cS1hH2, cS2hH2, cS3hH2, cS4hH2, cS5hH2, cS6hH2, cS7hH2, cS8hH2⟩ := hH2k
  refine wpAnyH_pure (i := 9) (v := ?_) rfl (by kernel_rfl) (by kernel_rfl) (by kernel_rfl) (fun _ _ _ h => h) (by rfl) (by assumption) ?_ ?_
  rotate_left
  · (intro w hSw; (try dsimp only at hSw); go_simp; (try with_reducible rfl))
  simp only [Act.put, List.getElem_toArray, List.getElem_cons_succ, List.getElem_cons_zero, List.setIfInBounds_toArray, List.set_cons_zero, List.set_cons_succ]
  refine wpAnyH_fin (T := fun W => (Buf W g U N N ∧ W.cell? ⟨w.heap.size, 0, none⟩ = some (.int .i64 (E)) ∧ W.cell? ⟨w.heap.size, 1, none⟩ = some (.slice qS n cS) ∧ W.cell? ⟨w.heap.size, 2, none⟩ = some (.slice qR m cR) ∧ W.cell? ⟨w.heap.size, 3, none⟩ = some (.int .i64 (M)) ∧ W.cell? ⟨w.heap.size + 1, 0, none⟩ = some (.int .i64 (pa)) ∧ W.cell? ⟨w.heap.size + 1, 1, none⟩ = some (.int .i64 (pb)) ∧ W.cell? ⟨w3.heap.size, 0, none⟩ = some (.int .i64 (E)) ∧ W.cell? ⟨w3.heap.size, 1, none⟩ = some (.slice (some ⟨g, 0, none⟩) N N)) ∧ (W.heap[n8]? = some (.cells (c) 26 (0, 0))) ∧ (((w6.heap.size) ≤ n8 ∧ n8 < W.heap.size) ∧ (w6.heap.size) ≤ W.heap.size) ∧ Below w.heap.size w W) (by kernel_rfl) ⟨hH2, ?_, ?_, ?_⟩ (fun W1 hT => ?_)
  · exact block_setRow (d7_0)
  · exact ⟨⟨zn8, (Array.getElem?_eq_some_iff.1 (block_setRow (d7_0))).1⟩, Nat.le_of_lt (Nat.lt_of_le_of_lt zn8 ((Array.getElem?_eq_some_iff.1 (block_setRow (d7_0))).1))⟩
  · exact (below_setRow hB (c) (by omega))
  obtain ⟨⟨gS0, gS1, gS2, gS3, gS4, gS5, gS6, gS7, gS8⟩, gF0, ⟨⟨zln8, gZ0⟩, gZ1⟩, hB1⟩ := hT
  clear hSW' hH2 hB hZ cS0hH2 cS1hH2 cS2hH2 cS3hH2 cS4hH2 cS5hH2 cS6hH2 cS7hH2 cS8hH2 zn8 yn8 d7_0
  have hBd := hB1
  have hzB := hBd.size
  go_wp2_with fail; (refine (KKR.out _ _ gS0).mono ?_; rintro e w8 ⟨rfl, hw8⟩; obtain ⟨hcw8, hfw8, hlw8, hmw8, hnw8⟩ := bcell3 hw8; have hzw8 := hw8.size; (try simp only [World.size_alloc, World.size_setCell, World.size_drew, size_drewN] at hzw8))
  have cx8_0 : w8.cell? ⟨w.heap.size, 0, none⟩ = some (.int .i64 (E)) := (hcw8 (w.heap.size) (0) (by first | omega | (simp only [World.size_alloc, World.size_drew, World.size_setCell, size_drewN]; omega))).trans (by first | assumption | (simp [go_sem, *]; done)); have cx8_1 : w8.cell? ⟨w.heap.size, 1, none⟩ = some (.slice qS n cS) := (hcw8 (w.heap.size) (1) (by first | omega | (simp only [World.size_alloc, World.size_drew, World.size_setCell, size_drewN]; omega))).trans (by first | assumption | (simp [go_sem, *]; done)); have cx8_2 : w8.cell? ⟨w.heap.size, 2, none⟩ = some (.slice qR m cR) := (hcw8 (w.heap.size) (2) (by first | omega | (simp only [World.size_alloc, World.size_drew, World.size_setCell, size_drewN]; omega))).trans (by first | assumption | (simp [go_sem, *]; done)); have cx8_3 : w8.cell? ⟨w.heap.size, 3, none⟩ = some (.int .i64 (M)) := (hcw8 (w.heap.size) (3) (by first | omega | (simp only [World.size_alloc, World.size_drew, World.size_setCell, size_drewN]; omega))).trans (by first | assumption | (simp [go_sem, *]; done)); have ox8 : w.heap.size < w8.heap.size := (by omega)
  have cp8_0 : w8.cell? ⟨w.heap.size + 1, 0, none⟩ = some (.int .i64 (pa)) := (hcw8 (w.heap.size + 1) (0) (by first | omega | (simp only [World.size_alloc, World.size_drew, World.size_setCell, size_drewN]; omega))).trans (by first | assumption | (simp [go_sem, *]; done)); have cp8_1 : w8.cell? ⟨w.heap.size + 1, 1, none⟩ = some (.int .i64 (pb)) := (hcw8 (w.heap.size + 1) (1) (by first | omega | (simp only [World.size_alloc, World.size_drew, World.size_setCell, size_drewN]; omega))).trans (by first | assumption | (simp [go_sem, *]; done)); have op8 : w.heap.size + 1 < w8.heap.size := (by omega)
  have cb8_0 : Buf w8 g U N N := (by first | exact Buf.below (by assumption) hw8 | exact Buf.below (by assumption) (by (repeat' (first | (with_reducible exact Below.refl _ _) | (with_reducible assumption) | (with_reducible refine Below.alloc ?_ ?_ _) | (with_reducible refine Below.drew ?_) | (with_reducible refine below_drewN ?_ _) | (with_reducible refine Below.setCell ?_ ?_ _) | (with_reducible refine below_step (by with_reducible assumption) ?_ ?_) | (with_reducible exact Below.size (by with_reducible assumption)) | go_size))))
  have cm8_0 : w8.cell? ⟨w3.heap.size, 0, none⟩ = some (.int .i64 (E)) := (hcw8 (w3.heap.size) (0) (by first | omega | (simp only [World.size_alloc, World.size_drew, World.size_setCell, size_drewN]; omega))).trans (by first | assumption | (simp [go_sem, *]; done)); have cm8_1 : w8.cell? ⟨w3.heap.size, 1, none⟩ = some (.slice (some ⟨g, 0, none⟩) N N) := (hcw8 (w3.heap.size) (1) (by first | omega | (simp only [World.size_alloc, World.size_drew, World.size_setCell, size_drewN]; omega))).trans (by first | assumption | (simp [go_sem, *]; done)); have om8 : w3.heap.size < w8.heap.size := (by omega)
  have cn88_0 : w8.heap[n8]? = some (.cells (c) 26 (0, 0)) := block_below0 hw8 (by first | assumption | (repeat (first | assumption | (refine heap_alloc_at ?_; (first | rfl | (simp only [World.size_alloc, World.size_drew, World.size_setCell, size_drewN]; done))) | refine block_alloc ?_)))
  clear hcw8 hfw8 hlw8 hmw8 hnw8
  have h08 : Below w.heap.size w w8 := by (repeat' (first | (with_reducible exact Below.refl _ _) | (with_reducible assumption) | (with_reducible refine Below.alloc ?_ ?_ _) | (with_reducible refine Below.drew ?_) | (with_reducible refine below_drewN ?_ _) | (with_reducible refine Below.setCell ?_ ?_ _) | (with_reducible refine below_step (by with_reducible assumption) ?_ ?_) | (with_reducible exact Below.size (by with_reducible assumption)) | go_size))
  go_wp2_with fail
  go_wp2_with fail; (refine (KP.out _ _).mono ?_; rintro e w9 ⟨rfl, hw9⟩; obtain ⟨hcw9, hfw9, hlw9, hmw9, hnw9⟩ := bcell3 hw9; have hzw9 := hw9.size; (try simp only [World.size_alloc, World.size_setCell, World.size_drew, size_drewN] at hzw9))
  have cx9_0 : w9.cell? ⟨w.heap.size, 0, none⟩ = some (.int .i64 (E)) := (hcw9 (w.heap.size) (0) (by first | omega | (simp only [World.size_alloc, World.size_drew, World.size_setCell, size_drewN]; omega))).trans (by first | assumption | (simp [go_sem, *]; done)); have cx9_1 : w9.cell? ⟨w.heap.size, 1, none⟩ = some (.slice qS n cS) := (hcw9 (w.heap.size) (1) (by first | omega | (simp only [World.size_alloc, World.size_drew, World.size_setCell, size_drewN]; omega))).trans (by first | assumption | (simp [go_sem, *]; done)); have cx9_2 : w9.cell? ⟨w.heap.size, 2, none⟩ = some (.slice qR m cR) := (hcw9 (w.heap.size) (2) (by first | omega | (simp only [World.size_alloc, World.size_drew, World.size_setCell, size_drewN]; omega))).trans (by first | assumption | (simp [go_sem, *]; done)); have cx9_3 : w9.cell? ⟨w.heap.size, 3, none⟩ = some (.int .i64 (M)) := (hcw9 (w.heap.size) (3) (by first | omega | (simp only [World.size_alloc, World.size_drew, World.size_setCell, size_drewN]; omega))).trans (by first | assumption | (simp [go_sem, *]; done)); have ox9 : w.heap.size < w9.heap.size := (by omega)
  clear cx8_0 cx8_1 cx8_2 cx8_3
  have cp9_0 : w9.cell? ⟨w.heap.size + 1, 0, none⟩ = some (.int .i64 (pa)) := (hcw9 (w.heap.size + 1) (0) (by first | omega | (simp only [World.size_alloc, World.size_drew, World.size_setCell, size_drewN]; omega))).trans (by first | assumption | (simp [go_sem, *]; done)); have cp9_1 : w9.cell? ⟨w.heap.size + 1, 1, none⟩ = some (.int .i64 (pb)) := (hcw9 (w.heap.size + 1) (1) (by first | omega | (simp only [World.size_alloc, World.size_drew, World.size_setCell, size_drewN]; omega))).trans (by first | assumption | (simp [go_sem, *]; done)); have op9 : w.heap.size + 1 < w9.heap.size := (by omega)
  clear cp8_0 cp8_1
  have cb9_0 : Buf w9 g U N N := (by first | exact Buf.below (by assumption) hw9 | exact Buf.below (by assumption) (by (repeat' (first | (with_reducible exact Below.refl _ _) | (with_reducible assumption) | (with_reducible refine Below.alloc ?_ ?_ _) | (with_reducible refine Below.drew ?_) | (with_reducible refine below_drewN ?_ _) | (with_reducible refine Below.setCell ?_ ?_ _) | (with_reducible refine below_step (by with_reducible assumption) ?_ ?_) | (with_reducible exact Below.size (by with_reducible assumption)) | go_size))))
  clear cb8_0
  have cm9_0 : w9.cell? ⟨w3.heap.size, 0, none⟩ = some (.int .i64 (E)) := (hcw9 (w3.heap.size) (0) (by first | omega | (simp only [World.size_alloc, World.size_drew, World.size_setCell, size_drewN]; omega))).trans (by first | assumption | (simp [go_sem, *]; done)); have cm9_1 : w9.cell? ⟨w3.heap.size, 1, none⟩ = some (.slice (some ⟨g, 0, none⟩) N N) := (hcw9 (w3.heap.size) (1) (by first | omega | (simp only [World.size_alloc, World.size_drew, World.size_setCell, size_drewN]; omega))).trans (by first | assumption | (simp [go_sem, *]; done)); have om9 : w3.heap.size < w9.heap.size := (by omega)
  clear cm8_0 cm8_1
  have cn89_0 : w9.heap[n8]? = some (.cells (c) 26 (0, 0)) := block_below0 hw9 (by first | assumption | (repeat (first | assumption | (refine heap_alloc_at ?_; (first | rfl | (simp only [World.size_alloc, World.size_drew, World.size_setCell, size_drewN]; done))) | refine block_alloc ?_)))
  clear cn88_0
  clear hcw9 hfw9 hlw9 hmw9 hnw9
  go_wp2
  refine wp_region_held_drew (S := fun w' => Buf w' g U N N ∧ w'.heap[n8]? = some (.cells (c) 26 (0, 0)) ∧ w'.cell? ⟨w.heap.size, 0, none⟩ = some (.int .i64 (E)) ∧ w'.cell? ⟨w.heap.size, 1, none⟩ = some (.slice qS n cS) ∧ w'.cell? ⟨w.heap.size, 2, none⟩ = some (.slice qR m cR) ∧ w'.cell? ⟨w.heap.size, 3, none⟩ = some (.int .i64 (M)) ∧ w'.cell? ⟨w.heap.size + 1, 0, none⟩ = some (.int .i64 (pa)) ∧ w'.cell? ⟨w.heap.size + 1, 1, none⟩ = some (.int .i64 (pb)) ∧ w'.cell? ⟨w3.heap.size, 0, none⟩ = some (.int .i64 (E)) ∧ w'.cell? ⟨w3.heap.size, 1, none⟩ = some (.slice (some ⟨g, 0, none⟩) N N)) (by kernel_rfl) ?_ (fun hH3 => ?_)
  · (first | assumption | (refine ⟨?_, ?_, ?_, ?_, ?_, ?_, ?_, ?_, ?_, ?_⟩ <;> (first | assumption | ((repeat (first | assumption | (refine heap_alloc_at ?_; (first | rfl | (simp only [World.size_alloc, World.size_drew, World.size_setCell, size_drewN]; done))) | refine block_alloc ?_ | refine Buf.alloc ?_ _ | refine Buf.drew ?_ | refine Buf.setCell ?_ (by omega) _ _)); done) | (go_keep; done) | (simp [*, go_sem]; done))))
  refine wpAnyH_pure (i := 0) (v := ?_) rfl (by kernel_rfl) (by kernel_rfl) (by kernel_rfl) (fun _ _ _ h => h) (by rfl) (by assumption) ?_ ?_
  rotate_left
  · (intro w hSw; (try dsimp only at hSw); go_simp; (try with_reducible rfl))
  simp only [Act.put, List.getElem_toArray, List.getElem_cons_succ, List.getElem_cons_zero, List.setIfInBounds_toArray, List.set_cons_zero, List.set_cons_succ]
  refine wpAnyH_pure (i := 1) (v := ?_) rfl (by kernel_rfl) (by kernel_rfl) (by kernel_rfl) (fun _ _ _ h => h) (by rfl) (by assumption) ?_ ?_
  rotate_left
  · (intro w hSw; (try dsimp only at hSw); go_simp; (try with_reducible rfl))
  simp only [Act.put, List.getElem_toArray, List.getElem_cons_succ, List.getElem_cons_zero, List.setIfInBounds_toArray, List.set_cons_zero, List.set_cons_succ]
  refine wpAnyH_pure (i := 2) (v := ?_) rfl (by kernel_rfl) (by kernel_rfl) (by kernel_rfl) (fun _ _ _ h => h) (by rfl) (by assumption) ?_ ?_
  rotate_left
  · (intro w hSw; (try dsimp only at hSw); go_simp; (try with_reducible rfl))
  simp only [Act.put, List.getElem_toArray, List.getElem_cons_succ, List.getElem_cons_zero, List.setIfInBounds_toArray, List.set_cons_zero, List.set_cons_succ]
  refine wpAnyH_pure (i := 3) (v := ?_) rfl (by kernel_rfl) (by kernel_rfl) (by kernel_rfl) (fun _ _ _ h => h) (by first | rfl | (simp [Region.wanted, yielded, *]; done)) (by assumption) ?_ ?_
  rotate_left
  · (intro w hSw; (try dsimp only at hSw); refine exec_load_arr 26 (p := .tmp 8) (g := n8) ?_ ?_ Try.underlying26 (HIC.out) (by repeat (first | exact hSw | exact hSw.1 | replace hSw := hSw.2)) <;> rfl)
  simp only [Act.put, List.getElem_toArray, List.getElem_cons_succ, List.getElem_cons_zero, List.setIfInBounds_toArray, List.set_cons_zero, List.set_cons_succ]
  refine wpAnyH_pure (i := 4) (v := ?_) rfl (by kernel_rfl) (by kernel_rfl) (by kernel_rfl) (fun _ _ _ h => h) (by first | rfl | (simp [Region.wanted, yielded, *]; done)) (by assumption) ?_ ?_
  rotate_left
  · (intro w hSw; (try dsimp only at hSw); go_simp; (try with_reducible rfl))
  simp only [Act.put, List.getElem_toArray, List.getElem_cons_succ, List.getElem_cons_zero, List.setIfInBounds_toArray, List.set_cons_zero, List.set_cons_succ]
  refine wpAnyH_pure (i := 5) (v := ?_) rfl (by kernel_rfl) (by kernel_rfl) (by kernel_rfl) (fun _ _ _ h => h) (by first | rfl | (simp [Region.wanted, yielded, *]; done)) (by assumption) ?_ ?_
  rotate_left
  · (intro w hSw; (try dsimp only at hSw); go_simp; (try with_reducible rfl))
  simp only [Act.put, List.getElem_toArray, List.getElem_cons_succ, List.getElem_cons_zero, List.setIfInBounds_toArray, List.set_cons_zero, List.set_cons_succ]
  refine wpAnyH_ready (rs := [6]) (by kernel_rfl) (by simp) ?_
  refine AllReadyH.cons rfl (fun Kq hKq => ?_) AllReadyH.nil
  go_simp
  refine (KRT.out _ _ (by assumption)).mono ?_
  (rintro e w10 ⟨rfl, hw10⟩)
  obtain ⟨hcw10, hfw10, hlw10, hmw10, hnw10⟩ := bcell3 hw10
  have hzw10 := hw10.size
  (try simp only [World.size_alloc, World.size_setCell, World.size_drew, size_drewN] at hzw10)
  have cx10_0 : w10.cell? ⟨w.heap.size, 0, none⟩ = some (.int .i64 (E)) := (hcw10 (w.heap.size) (0) (by first | omega | (simp only [World.size_alloc, World.size_drew, World.size_setCell, size_drewN]; omega))).trans (by first | assumption | (simp [go_sem, *]; done)); have cx10_1 : w10.cell? ⟨w.heap.size, 1, none⟩ = some (.slice qS n cS) := (hcw10 (w.heap.size) (1) (by first | omega | (simp only [World.size_alloc, World.size_drew, World.size_setCell, size_drewN]; omega))).trans (by first | assumption | (simp [go_sem, *]; done)); have cx10_2 : w10.cell? ⟨w.heap.size, 2, none⟩ = some (.slice qR m cR) := (hcw10 (w.heap.size) (2) (by first | omega | (simp only [World.size_alloc, World.size_drew, World.size_setCell, size_drewN]; omega))).trans (by first | assumption | (simp [go_sem, *]; done)); have cx10_3 : w10.cell? ⟨w.heap.size, 3, none⟩ = some (.int .i64 (M)) := (hcw10 (w.heap.size) (3) (by first | omega | (simp only [World.size_alloc, World.size_drew, World.size_setCell, size_drewN]; omega))).trans (by first | assumption | (simp [go_sem, *]; done)); have ox10 : w.heap.size < w10.heap.size := (by omega)
  clear cx9_0 cx9_1 cx9_2 cx9_3
  have cp10_0 : w10.cell? ⟨w.heap.size + 1, 0, none⟩ = some (.int .i64 (pa)) := (hcw10 (w.heap.size + 1) (0) (by first | omega | (simp only [World.size_alloc, World.size_drew, World.size_setCell, size_drewN]; omega))).trans (by first | assumption | (simp [go_sem, *]; done)); have cp10_1 : w10.cell? ⟨w.heap.size + 1, 1, none⟩ = some (.int .i64 (pb)) := (hcw10 (w.heap.size + 1) (1) (by first | omega | (simp only [World.size_alloc, World.size_drew, World.size_setCell, size_drewN]; omega))).trans (by first | assumption | (simp [go_sem, *]; done)); have op10 : w.heap.size + 1 < w10.heap.size := (by omega)
  clear cp9_0 cp9_1
  have cb10_0 : Buf w10 g U N N := (by first | exact Buf.below (by assumption) hw10 | exact Buf.below (by assumption) (by (repeat' (first | (with_reducible exact Below.refl _ _) | (with_reducible assumption) | (with_reducible refine Below.alloc ?_ ?_ _) | (with_reducible refine Below.drew ?_) | (with_reducible refine below_drewN ?_ _) | (with_reducible refine Below.setCell ?_ ?_ _) | (with_reducible refine below_step (by with_reducible assumption) ?_ ?_) | (with_reducible exact Below.size (by with_reducible assumption)) | go_size))))
  clear cb9_0
  have cm10_0 : w10.cell? ⟨w3.heap.size, 0, none⟩ = some (.int .i64 (E)) := (hcw10 (w3.heap.size) (0) (by first | omega | (simp only [World.size_alloc, World.size_drew, World.size_setCell, size_drewN]; omega))).trans (by first | assumption | (simp [go_sem, *]; done)); have cm10_1 : w10.cell? ⟨w3.heap.size, 1, none⟩ = some (.slice (some ⟨g, 0, none⟩) N N) := (hcw10 (w3.heap.size) (1) (by first | omega | (simp only [World.size_alloc, World.size_drew, World.size_setCell, size_drewN]; omega))).trans (by first | assumption | (simp [go_sem, *]; done)); have om10 : w3.heap.size < w10.heap.size := (by omega)
  clear cm9_0 cm9_1
  have cn810_0 : w10.heap[n8]? = some (.cells (c) 26 (0, 0)) := block_below0 hw10 (by first | assumption | (repeat (first | assumption | (refine heap_alloc_at ?_; (first | rfl | (simp only [World.size_alloc, World.size_drew, World.size_setCell, size_drewN]; done))) | refine block_alloc ?_)))
  clear cn89_0
  clear hcw10 hfw10 hlw10 hmw10 hnw10
  refine hKq.out _ _ ?_ (fun hH4 => ?_)
  · (first | assumption | (refine ⟨?_, ?_, ?_, ?_, ?_, ?_, ?_, ?_, ?_, ?_⟩ <;> (first | assumption | ((repeat (first | assumption | (refine heap_alloc_at ?_; (first | rfl | (simp only [World.size_alloc, World.size_drew, World.size_setCell, size_drewN]; done))) | refine block_alloc ?_ | refine Buf.alloc ?_ _ | refine Buf.drew ?_ | refine Buf.setCell ?_ (by omega) _ _)); done) | (go_keep; done) | (simp [*, go_sem]; done))))
  clear hKq Kq
  clear hH3
  refine wpAnyH_ready (rs := [7]) (by kernel_rfl) (by simp) ?_
  refine AllReadyH.cons rfl (fun Kq hKq => ?_) AllReadyH.nil
  go_simp
  refine (KS.out _).mono ?_
  (rintro e w11 ⟨rfl, hw11⟩)
  obtain ⟨hcw11, hfw11, hlw11, hmw11, hnw11⟩ := bcell3 hw11
  have hzw11 := hw11.size
  (try simp only [World.size_alloc, World.size_setCell, World.size_drew, size_drewN] at hzw11)
  have cx11_0 : w11.cell? ⟨w.heap.size, 0, none⟩ = some (.int .i64 (E)) := (hcw11 (w.heap.size) (0) (by first | omega | (simp only [World.size_alloc, World.size_drew, World.size_setCell, size_drewN]; omega))).trans (by first | assumption | (simp [go_sem, *]; done)); have cx11_1 : w11.cell? ⟨w.heap.size, 1, none⟩ = some (.slice qS n cS) := (hcw11 (w.heap.size) (1) (by first | omega | (simp only [World.size_alloc, World.size_drew, World.size_setCell, size_drewN]; omega))).trans (by first | assumption | (simp [go_sem, *]; done)); have cx11_2 : w11.cell? ⟨w.heap.size, 2, none⟩ = some (.slice qR m cR) := (hcw11 (w.heap.size) (2) (by first | omega | (simp only [World.size_alloc, World.size_drew, World.size_setCell, size_drewN]; omega))).trans (by first | assumption | (simp [go_sem, *]; done)); have cx11_3 : w11.cell? ⟨w.heap.size, 3, none⟩ = some (.int .i64 (M)) := (hcw11 (w.heap.size) (3) (by first | omega | (simp only [World.size_alloc, World.size_drew, World.size_setCell, size_drewN]; omega))).trans (by first | assumption | (simp [go_sem, *]; done)); have ox11 : w.heap.size < w11.heap.size := (by omega)
  clear cx10_0 cx10_1 cx10_2 cx10_3
  have cp11_0 : w11.cell? ⟨w.heap.size + 1, 0, none⟩ = some (.int .i64 (pa)) := (hcw11 (w.heap.size + 1) (0) (by first | omega | (simp only [World.size_alloc, World.size_drew, World.size_setCell, size_drewN]; omega))).trans (by first | assumption | (simp [go_sem, *]; done)); have cp11_1 : w11.cell? ⟨w.heap.size + 1, 1, none⟩ = some (.int .i64 (pb)) := (hcw11 (w.heap.size + 1) (1) (by first | omega | (simp only [World.size_alloc, World.size_drew, World.size_setCell, size_drewN]; omega))).trans (by first | assumption | (simp [go_sem, *]; done)); have op11 : w.heap.size + 1 < w11.heap.size := (by omega)
  clear cp10_0 cp10_1
  have cb11_0 : Buf w11 g U N N := (by first | exact Buf.below (by assumption) hw11 | exact Buf.below (by assumption) (by (repeat' (first | (with_reducible exact Below.refl _ _) | (with_reducible assumption) | (with_reducible refine Below.alloc ?_ ?_ _) | (with_reducible refine Below.drew ?_) | (with_reducible refine below_drewN ?_ _) | (with_reducible refine Below.setCell ?_ ?_ _) | (with_reducible refine below_step (by with_reducible assumption) ?_ ?_) | (with_reducible exact Below.size (by with_reducible assumption)) | go_size))))
  clear cb10_0
  have cm11_0 : w11.cell? ⟨w3.heap.size, 0, none⟩ = some (.int .i64 (E)) := (hcw11 (w3.heap.size) (0) (by first | omega | (simp only [World.size_alloc, World.size_drew, World.size_setCell, size_drewN]; omega))).trans (by first | assumption | (simp [go_sem, *]; done)); have cm11_1 : w11.cell? ⟨w3.heap.size, 1, none⟩ = some (.slice (some ⟨g, 0, none⟩) N N) := (hcw11 (w3.heap.size) (1) (by first | omega | (simp only [World.size_alloc, World.size_drew, World.size_setCell, size_drewN]; omega))).trans (by first | assumption | (simp [go_sem, *]; done)); have om11 : w3.heap.size < w11.heap.size := (by omega)
  clear cm10_0 cm10_1
  have cn811_0 : w11.heap[n8]? = some (.cells (c) 26 (0, 0)) := block_below0 hw11 (by first | assumption | (repeat (first | assumption | (refine heap_alloc_at ?_; (first | rfl | (simp only [World.size_alloc, World.size_drew, World.size_setCell, size_drewN]; done))) | refine block_alloc ?_)))
  clear cn810_0
  refine hKq.out _ _ ?_ (fun hH5 => ?_)
  · (first | assumption | (refine ⟨?_, ?_, ?_, ?_, ?_, ?_, ?_, ?_, ?_, ?_⟩ <;> (first | assumption | ((repeat (first | assumption | (refine heap_alloc_at ?_; (first | rfl | (simp only [World.size_alloc, World.size_drew, World.size_setCell, size_drewN]; done))) | refine block_alloc ?_ | refine Buf.alloc ?_ _ | refine Buf.drew ?_ | refine Buf.setCell ?_ (by omega) _ _)); done) | (go_keep; done) | (simp [*, go_sem]; done))))
  clear hKq Kq
  clear hH4
  refine wpAnyH_pure (i := 8) (v := ?_) rfl (by kernel_rfl) (by kernel_rfl) (by kernel_rfl) (fun _ _ _ h => h) (by rfl) (by assumption) ?_ ?_
  rotate_left
  · (intro w hSw; (try dsimp only at hSw); go_simp; (try with_reducible rfl))
  simp only [Act.put, List.getElem_toArray, List.getElem_cons_succ, List.getElem_cons_zero, List.setIfInBounds_toArray, List.set_cons_zero, List.set_cons_succ]
  refine wpAnyH_pure (i := 9) (v := ?_) rfl (by kernel_rfl) (by kernel_rfl) (by kernel_rfl) (fun _ _ _ h => h) (by rfl) (by assumption) ?_ ?_
  rotate_left
  · (intro w hSw; (try dsimp only at hSw); go_simp; (try with_reducible rfl))
  simp only [Act.put, List.getElem_toArray, List.getElem_cons_succ, List.getElem_cons_zero, List.setIfInBounds_toArray, List.set_cons_zero, List.set_cons_succ]
  refine wpAnyH_done (by kernel_rfl) ?_ _
  go_wp2
  go_ret
  exact ⟨rfl, by (repeat' (first | (with_reducible exact Below.refl _ _) | (with_reducible assumption) | (with_reducible refine Below.alloc ?_ ?_ _) | (with_reducible refine Below.drew ?_) | (with_reducible refine below_drewN ?_ _) | (with_reducible refine Below.setCell ?_ ?_ _) | (with_reducible refine below_step (by with_reducible assumption) ?_ ?_) | (with_reducible exact Below.size (by with_reducible assumption)) | go_size))⟩
end Go.Proofs.Ythgnemkfaiejbaa
