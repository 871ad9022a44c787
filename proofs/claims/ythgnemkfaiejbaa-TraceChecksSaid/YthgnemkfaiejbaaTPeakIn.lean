/-
  PEAKS: PeakIn of right traces in right gates.
-/
import Derived.Test.YthgnemkfaiejbaaTPeak
set_option linter.unusedVariables false
set_option linter.unusedSimpArgs false
namespace Go.Proofs.Ythgnemkfaiejbaa
open Go.RowKit

theorem maxOf_spec (zs : List Int) : ∀ n, 0 < n → n ≤ zs.length → (∀ j, j < n → zs.getD j 0 ≤ Lib.maxOf (zs.take n)) ∧ ∃ k, k < n ∧ Lib.maxOf (zs.take n) = zs.getD k 0
  | 0, h, _ => absurd h (Nat.lt_irrefl _)
  | 1, _, _ => by
    rw [Lib.maxOf_one]
    exact ⟨fun j hj => by obtain rfl : j = 0 := by omega
                          exact Int.le_refl _, 0, by omega, rfl⟩
  | n + 2, _, hl => by
    obtain ⟨h1, k, hk, h2⟩ := maxOf_spec zs (n + 1) (by omega) (by omega)
    rw [Lib.maxOf_step zs (n + 1) (by omega) (by omega)]
    refine ⟨fun j hj => ?_, ?_⟩
    · rcases Nat.lt_or_ge j (n + 1) with c | c
      · have := h1 j c; omega
      · obtain rfl : j = n + 1 := by omega
        omega
    · by_cases c : zs.getD (n + 1) 0 ≤ Lib.maxOf (zs.take (n + 1))
      · exact ⟨k, by omega, by omega⟩
      · exact ⟨n + 1, by omega, by omega⟩
/-- the first place of the greatest -/
theorem first_max (s : Nat → Int) : ∀ n, 0 < n → ∃ k, k < n ∧ (∀ j, j < n → s j ≤ s k) ∧ ∀ j, j < k → s j < s k
  | 0, h => absurd h (Nat.lt_irrefl _)
  | 1, _ => ⟨0, Nat.zero_lt_one, fun j hj => (by have h0 : j = 0 := by omega
                                                 subst h0; exact Int.le_refl _), fun j hj => absurd hj (Nat.not_lt_zero _)⟩
  | n + 2, _ => by
    obtain ⟨k, hk, h1, h2⟩ := first_max s (n + 1) (by omega)
    by_cases c : s (n + 1) ≤ s k
    · refine ⟨k, by omega, fun j hj => ?_, h2⟩
      rcases Nat.lt_or_ge j (n + 1) with d | d
      · exact h1 j d
      · obtain rfl : j = n + 1 := by omega
        exact c
    · refine ⟨n + 1, by omega, fun j hj => ?_, fun j hj => ?_⟩
      · rcases Nat.lt_or_ge j (n + 1) with d | d
        · have := h1 j d; omega
        · obtain rfl : j = n + 1 := by omega
          exact Int.le_refl _
      · have := h1 j (by omega); omega
set_option maxRecDepth 100000 in
set_option maxHeartbeats 2000000 in
theorem peakIn_ok (x : Nat → Int) (f t k : Nat) (w : World) (hx : Hid (∀ k, k < 64 → (x k).natAbs ≤ 2047)) (ht : f ≤ t ∧ t ≤ 60) (hk : f + k ≤ t)
    (hmost : Hid (∀ j, j < t + 1 - f → anS x (f + j) ≤ anS x (f + k))) (hfirst : Hid (∀ j, j < k → anS x (f + j) < anS x (f + k))) :
    Calls Try.prog 65 #[.agg (tC x), .agg #[.int .i64 (f : Int), .int .i64 (t : Int)]] w fun e w' => e = .returned (.tuple #[.agg #[.int .i64 ((f : Int) + (k : Int)), .int .i64 (anS x (f + k))], .int .i64 0]) ∧ Below w.heap.size w w' := by
  have K := Lib.hid (fun W => squaresIn_ok x f t W hx ht)
  have hs := Lib.hid (tC_size x)
  obtain ⟨zs, hzs⟩ : ∃ zs : List Int, zs = (List.range (t + 1 - f)).map fun j => anS x (f + j) := ⟨_, rfl⟩
  have hlen : zs.length = t + 1 - f := by rw [hzs]; simp
  have hget : ∀ j, j < t + 1 - f → zs.getD j 0 = anS x (f + j) := fun j hj => by
    rw [hzs, List.getD_eq_getElem?_getD, List.getElem?_map, List.getElem?_range hj]; rfl
  have htk : zs.take (t + 1 - f) = zs := by rw [List.take_of_length_le (by omega)]
  have hmax : Lib.maxOf (zs.take (t + 1 - f)) = anS x (f + k) := by
    obtain ⟨h1, j, hj, h2⟩ := maxOf_spec zs (t + 1 - f) (by omega) (by omega)
    have a := h1 k (by omega)
    rw [hget k (by omega)] at a
    rw [hget j hj] at h2
    have b := hmost.out j hj
    omega
  have hidx : Lib.idxOf (zs.take (t + 1 - f)) (anS x (f + k)) = (k : Int) :=
    Lib.idxOf_hit zs (t + 1 - f) k (anS x (f + k)) (by omega) (by omega) (hget k (by omega)) (fun j hj => by rw [hget j (by omega)]; have := hfirst.out j hj; omega)
  have HM : Hid (∀ (b : Nat) (W : World), (∀ j, j < zs.length → W.cell? ⟨b, f + j, none⟩ = some (.int .i64 (zs.getD j 0))) → Calls Try.prog 138 #[.slice (some ⟨b, f, none⟩) (t + 1 - f) (61 - f)] W fun e w' => e = .returned (.int .i64 (anS x (f + k))) ∧ W = w') :=
    Lib.hid fun b W hc => (Try.slices_Max_int b f (t + 1 - f) (61 - f) zs W (by omega) (by omega) (by omega) hc).mono fun e w' h => ⟨by rw [h.1, hmax], h.2.symm⟩
  have HI : Hid (∀ (b : Nat) (W : World), (∀ j, j < zs.length → W.cell? ⟨b, f + j, none⟩ = some (.int .i64 (zs.getD j 0))) → Calls Try.prog 139 #[.slice (some ⟨b, f, none⟩) (t + 1 - f) (61 - f), .int .i64 (anS x (f + k))] W fun e w' => e = .returned (.int .i64 (k : Int)) ∧ W = w') :=
    Lib.hid fun b W hc => (Try.slices_Index_int b f (t + 1 - f) (61 - f) zs (anS x (f + k)) W (by omega) (by omega) hc).mono fun e w' h => ⟨by rw [h.1, hidx], h.2.symm⟩
  have HC : Hid (∀ (b : Nat) (W : World), W.heap[b]? = some (.cells (sC (anS x)) 95 (0, 0)) → ∀ j, j < zs.length → W.cell? ⟨b, f + j, none⟩ = some (.int .i64 (zs.getD j 0))) :=
    Lib.hid fun b W hb j hj => by
      rw [hlen] at hj
      rw [hget j hj]
      exact (cell_block hb).trans (sC_get _ (by omega))
  clear hmost hfirst hzs hlen hget htk hmax hidx
  unfold SqPost at K
  generalize tC x = c at *
  generalize sC (anS x) = S at *
  generalize anS x (f + k) = m at *
  go_enter Try.func65, Try.ntmps65
  go_wp2_with (refine wpl_load rfl 26 26 _ w.heap.size c (0, 0) _ rfl rfl Try.underlying26 rfl (by rw [hs.out]; exact infoTrace) (block_alloc (block_alloc (heap_alloc_last w _))) ?_)
  refine (K.out _).mono ?_
  rintro e w2 ⟨b, rfl, hg, hw2⟩
  obtain ⟨hcw2, hfw2, hlw2, hmw2, hnw2⟩ := bcell3 hw2
  have hz2 := hw2.size
  simp only [World.size_alloc] at hz2
  have cg2_0 : w2.cell? ⟨w.heap.size + 1, 0, none⟩ = some (.int .i64 (f : Int)) := (hcw2 _ _ (by simp)).trans (by simp [go_sem])
  have crz2_0 : w2.cell? ⟨w.heap.size + 1 + 1, 0, none⟩ = some (.int .i64 0) := (hcw2 _ _ (by simp)).trans (by simp [go_sem])
  have crz2_1 : w2.cell? ⟨w.heap.size + 1 + 1, 1, none⟩ = some (.int .i64 0) := (hcw2 _ _ (by simp)).trans (by simp [go_sem])
  have prz2_0 : w2.frozen? ⟨w.heap.size + 1 + 1, 0, none⟩ = false := (hfw2 _ _ (by simp)).trans (by simp [go_sem])
  have prz2_1 : w2.frozen? ⟨w.heap.size + 1 + 1, 1, none⟩ = false := (hfw2 _ _ (by simp)).trans (by simp [go_sem])
  have og2 : w.heap.size + 1 < w2.heap.size := by omega
  have or2 : w.heap.size + 1 + 1 < w2.heap.size := by omega
  have hb2 : Below w.heap.size w w2 := by (repeat' (first | (with_reducible exact Below.refl _ _) | (with_reducible assumption) | (with_reducible refine Below.alloc ?_ ?_ _) | (with_reducible refine Below.drew ?_) | (with_reducible refine below_drewN ?_ _) | (with_reducible refine Below.setCell ?_ ?_ _) | (with_reducible refine below_step (by with_reducible assumption) ?_ ?_) | (with_reducible exact Below.size (by with_reducible assumption)) | go_size))
  clear hcw2 hfw2 hlw2 hmw2 hnw2 hw2
  have HCW := Lib.hid (HC.out b w2 hg)
  have HCD := Lib.hid (HC.out b w2.drew hg)
  go_wp2_with fail
  refine (HM.out b w2 HCW.out).mono ?_
  rintro e w' ⟨rfl, rfl⟩
  have wr1 : IntKind.i64.wrap ((f : Int) + (k : Int)) = (f : Int) + (k : Int) := IntWalk.i64_in _ (by omega)
  go_wp2
  refine wp_region_held_drew (S := fun w' => w'.cell? ⟨w.heap.size + 1, 0, none⟩ = some (.int .i64 ((f : Int)))) (by kernel_rfl) ?_ (fun hH1 => ?_)
  · (first | assumption | (go_keep; done) | (simp [*, go_sem]; done))
  refine wpAnyH_pure (i := 0) (v := ?_) rfl (by kernel_rfl) (by kernel_rfl) (by kernel_rfl) (fun _ _ _ h => h) (by rfl) (by assumption) ?_ ?_
  rotate_left
  · (intro w hSw; (try dsimp only at hSw); go_simp; (try with_reducible rfl))
  simp only [Act.put, List.getElem_toArray, List.getElem_cons_succ, List.getElem_cons_zero, List.setIfInBounds_toArray, List.set_cons_zero, List.set_cons_succ]
  refine wpAnyH_pure (i := 1) (v := ?_) rfl (by kernel_rfl) (by kernel_rfl) (by kernel_rfl) (fun _ _ _ h => h) (by rfl) (by assumption) ?_ ?_
  rotate_left
  · (intro w hSw; (try dsimp only at hSw); go_simp; (try with_reducible rfl))
  simp only [Act.put, List.getElem_toArray, List.getElem_cons_succ, List.getElem_cons_zero, List.setIfInBounds_toArray, List.set_cons_zero, List.set_cons_succ]
  refine wpAnyH_pure (i := 2) (v := ?_) rfl (by kernel_rfl) (by kernel_rfl) (by kernel_rfl) (fun _ _ _ h => h) (by rfl) (by assumption) ?_ ?_
  rotate_left
  · (intro w hSw; (try dsimp only at hSw); go_simp; (try with_reducible rfl))
  simp only [Act.put, List.getElem_toArray, List.getElem_cons_succ, List.getElem_cons_zero, List.setIfInBounds_toArray, List.set_cons_zero, List.set_cons_succ]
  refine wpAnyH_pure (i := 3) (v := ?_) rfl (by kernel_rfl) (by kernel_rfl) (by kernel_rfl) (fun _ _ _ h => h) (by rfl) (by assumption) ?_ ?_
  rotate_left
  · (intro w hSw; (try dsimp only at hSw); go_simp; (try with_reducible rfl))
  simp only [Act.put, List.getElem_toArray, List.getElem_cons_succ, List.getElem_cons_zero, List.setIfInBounds_toArray, List.set_cons_zero, List.set_cons_succ]
  refine wpAnyH_pure (i := 6) (v := ?_) rfl (by kernel_rfl) (by kernel_rfl) (by kernel_rfl) (fun _ _ _ h => h) (by rfl) (by assumption) ?_ ?_
  rotate_left
  · (intro w hSw; (try dsimp only at hSw); go_simp; (try with_reducible rfl))
  simp only [Act.put, List.getElem_toArray, List.getElem_cons_succ, List.getElem_cons_zero, List.setIfInBounds_toArray, List.set_cons_zero, List.set_cons_succ]
  refine wpAnyH_ready (rs := [4]) (by kernel_rfl) (by simp) ?_
  refine AllReadyH.cons rfl (fun Kq hKq => ?_) AllReadyH.nil
  go_simp
  refine (HI.out b _ HCD.out).mono ?_
  (rintro e w' ⟨rfl, rfl⟩)
  refine hKq.out _ _ ?_ (fun hH2 => ?_)
  · (first | assumption | (go_keep; done) | (simp [*, go_sem]; done))
  clear hKq Kq
  clear hH1
  refine wpAnyH_pure (i := 5) (v := ?_) rfl (by kernel_rfl) (by kernel_rfl) (by kernel_rfl) (fun _ _ _ h => h) (by rfl) (by assumption) ?_ ?_
  rotate_left
  · (intro w hSw; (try dsimp only at hSw); go_simp; (try with_reducible rfl))
  simp only [Act.put, List.getElem_toArray, List.getElem_cons_succ, List.getElem_cons_zero, List.setIfInBounds_toArray, List.set_cons_zero, List.set_cons_succ]
  refine wpAnyH_pure (i := 7) (v := ?_) rfl (by kernel_rfl) (by kernel_rfl) (by kernel_rfl) (fun _ _ _ h => h) (by rfl) (by assumption) ?_ ?_
  rotate_left
  · (intro w hSw; (try dsimp only at hSw); go_simp; (try with_reducible rfl))
  simp only [Act.put, List.getElem_toArray, List.getElem_cons_succ, List.getElem_cons_zero, List.setIfInBounds_toArray, List.set_cons_zero, List.set_cons_succ]
  refine wpAnyH_ready (rs := [8]) (by kernel_rfl) (by simp) ?_
  refine AllReadyH.cons rfl (fun Kq hKq => ?_) AllReadyH.nil
  go_simp
  refine hKq.out _ _ ?_ (fun hH3 => ?_)
  · (first | (((repeat (first | refine (World.cell?_setCell_far _ _ _ _ (by dsimp only; omega)).trans ?_ | refine (World.frozen?_setCell _ _ _ _).trans ?_)); with_reducible assumption)) | (go_keep; done) | (simp [*, go_sem]; done))
  clear hKq Kq
  clear hH2
  refine wpAnyH_pure (i := 9) (v := ?_) rfl (by kernel_rfl) (by kernel_rfl) (by kernel_rfl) (fun _ _ _ h => h) (by rfl) (by assumption) ?_ ?_
  rotate_left
  · (intro w hSw; (try dsimp only at hSw); go_simp; (try with_reducible rfl))
  simp only [Act.put, List.getElem_toArray, List.getElem_cons_succ, List.getElem_cons_zero, List.setIfInBounds_toArray, List.set_cons_zero, List.set_cons_succ]
  refine wpAnyH_done (by kernel_rfl) ?_ _
  go_wp2
  refine bodyPost_ret (by simp [results, Try.results65, go_sem, *]; rfl) rfl ?_
  exact ⟨rfl, by (repeat' (first | (with_reducible exact Below.refl _ _) | (with_reducible assumption) | (with_reducible refine Below.alloc ?_ ?_ _) | (with_reducible refine Below.drew ?_) | (with_reducible refine below_drewN ?_ _) | (with_reducible refine Below.setCell ?_ ?_ _) | (with_reducible refine below_step (by with_reducible assumption) ?_ ?_) | (with_reducible exact Below.size (by with_reducible assumption)) | go_size))⟩
end Go.Proofs.Ythgnemkfaiejbaa
