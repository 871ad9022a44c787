/-
  ENVELOPE and ANALYTIC, as the reference has them.
-/
import Derived.Test.YthgnemkfaiejbaaTAnaR
import Derived.Test.YthgnemkfaiejbaaTAnaE
import Derived.Test.YthgnemkfaiejbaaTBase
set_option linter.unusedVariables false
set_option linter.unusedSimpArgs false
namespace Go.Proofs.Ythgnemkfaiejbaa
open Go.RowKit

theorem pL_length (p q : Nat → Int) : ∀ n, (pL p q n).length = n * 2
  | 0 => rfl
  | n + 1 => by rw [pL_succ, List.length_append, pL_length p q n]; simp; omega
theorem pL_get (p q : Nat → Int) {k : Nat} : ∀ {n : Nat}, k < n → (pL p q n)[k * 2]? = some (.int .i64 (p k)) ∧ (pL p q n)[k * 2 + 1]? = some (.int .i64 (q k))
  | 0, h => absurd h (Nat.not_lt_zero _)
  | n + 1, h => by
    rw [pL_succ]
    by_cases e : k = n
    · subst e
      rw [List.getElem?_append_right (by rw [pL_length]; omega), List.getElem?_append_right (by rw [pL_length]; omega), pL_length, Nat.sub_self, show k * 2 + 1 - k * 2 = 1 by omega]
      exact ⟨rfl, rfl⟩
    · rw [List.getElem?_append_left (by rw [pL_length]; omega), List.getElem?_append_left (by rw [pL_length]; omega)]
      exact pL_get p q (by omega)
theorem own_slice2 {w : World} {base : Nat} {t : TypeId} {v : Value} {n : Nat} {xs : List Value} (h : w.ownsRow base t 2 v n xs) (hn : 0 < n) : ∃ g cap, v = .slice (some ⟨g, 0, none⟩) n cap ∧ base ≤ g ∧ g < w.heap.size ∧ n ≤ cap ∧ cap ≤ maxLen := by
  obtain ⟨a, h⟩ := h
  rcases h with ⟨rfl, rfl⟩ | ⟨g, cap, cur, rfl, h1, hg, h2, h3, -⟩
  · simp at a; omega
  · exact ⟨g, cap, rfl, h1, (Array.getElem?_eq_some_iff.1 hg).1, h2, h3⟩
set_option maxRecDepth 100000 in
set_option maxHeartbeats 4000000 in
theorem envelopeR_any (x : Nat → Int) (w : World) (hx : Hid (∀ k, k < 64 → (x k).natAbs ≤ 2047)) :
    Calls Try.prog 63 #[.agg (tC x)] w fun e w' => e = .returned (.agg (sC (anS x))) ∧ Below w.heap.size w w' := by
  have K1 := Lib.hid (fun W => parts_any x W hx)
  have HS := Lib.hid (fun k (h : k < 61) => anS_bd hx.out h)
  have hsc := Lib.hid (tC_size x)
  have hzs := Lib.hid (sC_size fun _ => 0)
  have HZV := Lib.hid zero_sq
  unfold PartsPost at K1
  generalize tC x = c at *
  obtain ⟨z, hz⟩ : ∃ z, z = sC fun _ => 0 := ⟨_, rfl⟩
  rw [← hz] at hzs HZV
  have HZ := Lib.hid hz
  clear hz
  go_enter Try.func63, Try.ntmps63
  go_wp2_with (first | (refine wpl_alloc rfl 95 z rfl (HZV.out _) ?_) | (refine wpl_load rfl 26 26 _ w.heap.size c (0, 0) _ rfl rfl Try.underlying26 rfl (by rw [hsc.out]; exact infoTrace) (block_alloc (heap_alloc_last w _)) ?_))
  refine (K1.out _).mono ?_
  rintro e w1 ⟨vp, rfl, hop, hw1⟩
  have cz := block_below0 hw1 (heap_alloc_last (w.alloc _) _)
  rw [World.size_alloc] at cz
  have hz1 := hw1.size
  have hB1 : Below w.heap.size w w1 := by (repeat' (first | (with_reducible exact Below.refl _ _) | (with_reducible assumption) | (with_reducible refine Below.alloc ?_ ?_ _) | (with_reducible refine Below.drew ?_) | (with_reducible refine below_drewN ?_ _) | (with_reducible refine Below.setCell ?_ ?_ _) | (with_reducible refine below_step (by with_reducible assumption) ?_ ?_) | (with_reducible exact Below.size (by with_reducible assumption)) | go_size))
  simp only [World.size_alloc] at hz1
  obtain ⟨g, cp, rfl, hg, hgs, hcp, hcpm⟩ := own_slice2 hop (by decide)
  have hcell : ∀ i, i < 61 → w1.cell? ⟨g, i * 2, none⟩ = some (.int .i64 (anP x i)) ∧ w1.cell? ⟨g, i * 2 + 1, none⟩ = some (.int .i64 (anQ x i)) := fun i hi =>
    ⟨(hop.cellAt (i * 2) (by omega)).trans (pL_get _ _ hi).1, (hop.cellAt (i * 2 + 1) (by omega)).trans (pL_get _ _ hi).2⟩
  have HC := Lib.hid hcell
  unfold maxLen at hcpm
  clear hw1 hop hcell
  go_wp2_with (refine wpl_alloc rfl 95 z rfl (HZV.out _) ?_)
  have hn2 : (w1.alloc (.cells z 95)).heap[w1.heap.size]? = some (.cells z 95 (0, 0)) := heap_alloc_last w1 _
  generalize hbo : w1.heap.size = bo at *
  have hBw : Below w.heap.size w (w1.alloc (.cells z 95)) := by (repeat' (first | (with_reducible exact Below.refl _ _) | (with_reducible assumption) | (with_reducible refine Below.alloc ?_ ?_ _) | (with_reducible refine Below.drew ?_) | (with_reducible refine below_drewN ?_ _) | (with_reducible refine Below.setCell ?_ ?_ _) | (with_reducible refine below_step (by with_reducible assumption) ?_ ?_) | (with_reducible exact Below.size (by with_reducible assumption)) | go_size))
  have cz2 : (w1.alloc (.cells z 95)).heap[w.heap.size + 1]? = some (.cells z 95 (0, 0)) := block_alloc cz
  have HC2 : Hid (∀ i, i < 61 → (w1.alloc (.cells z 95)).cell? ⟨g, i * 2, none⟩ = some (.int .i64 (anP x i)) ∧ (w1.alloc (.cells z 95)).cell? ⟨g, i * 2 + 1, none⟩ = some (.int .i64 (anQ x i))) :=
    Lib.hid fun i hi => ⟨(World.cell?_alloc_lt _ _ _ (by show g < _; omega)).trans (HC.out i hi).1, (World.cell?_alloc_lt _ _ _ (by show g < _; omega)).trans (HC.out i hi).2⟩
  clear cz hB1 HC
  go_loopw [5] (fun i wr => ∃ k : Nat, k ≤ 61 ∧ i = .int .i64 (k : Int) ∧ Hid (Below w.heap.size w wr) ∧ wr.heap[w.heap.size + 1]? = some (.cells z 95 (0, 0)) ∧ wr.heap[bo]? = some (.cells (sC (tF (anS x) k)) 95 (0, 0)) ∧ Hid (∀ i, i < 61 → wr.cell? ⟨g, i * 2, none⟩ = some (.int .i64 (anP x i)) ∧ wr.cell? ⟨g, i * 2 + 1, none⟩ = some (.int .i64 (anQ x i)))) (fun i _ => 61 - (intOf i).toNat)
  case atStart =>
    refine ⟨0, Nat.zero_le _, rfl, Lib.hid hBw, cz2, ?_, HC2⟩
    rw [hn2, HZ.out]
    rw [sC_congr (s := tF (anS x) 0) (s' := fun _ => 0) (fun i _ => by unfold tF; rw [if_neg (by omega)])]
  case round =>
    clear hBw cz2 hn2 HC2
    obtain ⟨k, hk, rfl, HB, hr, ho, HP⟩ := hrel
    by_cases hlt : k < 61
    · have hbd := HS.out k hlt
      have d0 := (HP.out k hlt).1
      have d1 := (HP.out k hlt).2
      have hq0 : wr.cell? ⟨bo, k, none⟩ = some (.int .i64 (tF (anS x) k k)) := (cell_block ho).trans (sC_get _ hlt)
      have hf0 : wr.frozen? ⟨bo, k, none⟩ = false := frozen_block ho
      have hset := sC_set (anS x) hlt
      rw [show anS x k = anP x k * anP x k + anQ x k * anQ x k from rfl] at hset
      have HSET := Lib.hid hset
      have HR := Lib.hid hr
      have HO := Lib.hid ho
      clear hset hr ho
      generalize anP x k = p at *
      generalize anQ x k = q at *
      generalize tF (anS x) k k = old at *
      obtain ⟨-, b1, b2⟩ := hbd
      have e0 : (0 : Int) ≤ (k : Int) := by omega
      have e1 : (k : Int) < 61 := by omega
      have hne : g ≠ bo := by omega
      have wr1 : IntKind.i64.wrap (p * p) = p * p := IntWalk.i64_in _ (by omega)
      have wr2 : IntKind.i64.wrap (q * q) = q * q := IntWalk.i64_in _ (by omega)
      have wr3 : IntKind.i64.wrap (p * p + q * q) = p * p + q * q := IntWalk.i64_in _ (by omega)
      go_wp2
      refine wp_region_held_drew (S := fun w' => w'.cell? ⟨g, k * 2, none⟩ = some (.int .i64 (p)) ∧ w'.cell? ⟨g, k * 2 + 1, none⟩ = some (.int .i64 (q))) (by kernel_rfl) ?_ (fun hH1 => ?_)
      · (first | assumption | (refine ⟨?_, ?_⟩ <;> assumption) | (go_keep; done) | (simp [*, go_sem]; done))
      refine wpAnyH_pure (i := 0) (v := ?_) rfl (by kernel_rfl) (by kernel_rfl) (by kernel_rfl) (fun _ _ _ h => h) (by rfl) (by assumption) ?_ ?_
      rotate_left
      · (intro w hSw; (try dsimp only at hSw); go_simp; (try with_reducible rfl))
      simp only [Act.put, List.getElem_toArray, List.getElem_cons_succ, List.getElem_cons_zero, List.setIfInBounds_toArray, List.set_cons_zero, List.set_cons_succ]
      refine wpAnyH_pure (i := 1) (v := ?_) rfl (by kernel_rfl) (by kernel_rfl) (by kernel_rfl) (fun _ _ _ h => h) (by rfl) (by assumption) ?_ ?_
      rotate_left
      · (intro w hSw; (try dsimp only at hSw); go_simp; (try with_reducible rfl))
      simp only [Act.put, List.getElem_toArray, List.getElem_cons_succ, List.getElem_cons_zero, List.setIfInBounds_toArray, List.set_cons_zero, List.set_cons_succ]
      refine wpAnyH_pure (i := 2) (v := ?_) rfl (by kernel_rfl) (by kernel_rfl) (by kernel_rfl) (fun _ _ _ h => h) (by rfl) (by assumption) ?_ ?_
      rotate_left
      · (intro w hSw; (try dsimp only at hSw); go_simp; (try with_reducible rfl))
      simp only [Act.put, List.getElem_toArray, List.getElem_cons_succ, List.getElem_cons_zero, List.setIfInBounds_toArray, List.set_cons_zero, List.set_cons_succ]
      refine wpAnyH_pure (i := 3) (v := ?_) rfl (by kernel_rfl) (by kernel_rfl) (by kernel_rfl) (fun _ _ _ h => h) (by rfl) (by assumption) ?_ ?_
      rotate_left
      · (intro w hSw; (try dsimp only at hSw); go_simp; (try with_reducible rfl))
      simp only [Act.put, List.getElem_toArray, List.getElem_cons_succ, List.getElem_cons_zero, List.setIfInBounds_toArray, List.set_cons_zero, List.set_cons_succ]
      refine wpAnyH_pure (i := 4) (v := ?_) rfl (by kernel_rfl) (by kernel_rfl) (by kernel_rfl) (fun _ _ _ h => h) (by rfl) (by assumption) ?_ ?_
      rotate_left
      · (intro w hSw; (try dsimp only at hSw); go_simp; (try with_reducible rfl))
      simp only [Act.put, List.getElem_toArray, List.getElem_cons_succ, List.getElem_cons_zero, List.setIfInBounds_toArray, List.set_cons_zero, List.set_cons_succ]
      refine wpAnyH_pure (i := 5) (v := ?_) rfl (by kernel_rfl) (by kernel_rfl) (by kernel_rfl) (fun _ _ _ h => h) (by rfl) (by assumption) ?_ ?_
      rotate_left
      · (intro w hSw; (try dsimp only at hSw); go_simp; (try with_reducible rfl))
      simp only [Act.put, List.getElem_toArray, List.getElem_cons_succ, List.getElem_cons_zero, List.setIfInBounds_toArray, List.set_cons_zero, List.set_cons_succ]
      refine wpAnyH_pure (i := 6) (v := ?_) rfl (by kernel_rfl) (by kernel_rfl) (by kernel_rfl) (fun _ _ _ h => h) (by rfl) (by assumption) ?_ ?_
      rotate_left
      · (intro w hSw; (try dsimp only at hSw); go_simp; (try with_reducible rfl))
      simp only [Act.put, List.getElem_toArray, List.getElem_cons_succ, List.getElem_cons_zero, List.setIfInBounds_toArray, List.set_cons_zero, List.set_cons_succ]
      refine wpAnyH_pure (i := 7) (v := ?_) rfl (by kernel_rfl) (by kernel_rfl) (by kernel_rfl) (fun _ _ _ h => h) (by rfl) (by assumption) ?_ ?_
      rotate_left
      · (intro w hSw; (try dsimp only at hSw); go_simp; (try with_reducible rfl))
      simp only [Act.put, List.getElem_toArray, List.getElem_cons_succ, List.getElem_cons_zero, List.setIfInBounds_toArray, List.set_cons_zero, List.set_cons_succ]
      refine wpAnyH_pure (i := 8) (v := ?_) rfl (by kernel_rfl) (by kernel_rfl) (by kernel_rfl) (fun _ _ _ h => h) (by rfl) (by assumption) ?_ ?_
      rotate_left
      · (intro w hSw; (try dsimp only at hSw); go_simp; (try with_reducible rfl))
      simp only [Act.put, List.getElem_toArray, List.getElem_cons_succ, List.getElem_cons_zero, List.setIfInBounds_toArray, List.set_cons_zero, List.set_cons_succ]
      refine wpAnyH_pure (i := 9) (v := ?_) rfl (by kernel_rfl) (by kernel_rfl) (by kernel_rfl) (fun _ _ _ h => h) (by rfl) (by assumption) ?_ ?_
      rotate_left
      · (intro w hSw; (try dsimp only at hSw); go_simp; (try with_reducible rfl))
      simp only [Act.put, List.getElem_toArray, List.getElem_cons_succ, List.getElem_cons_zero, List.setIfInBounds_toArray, List.set_cons_zero, List.set_cons_succ]
      refine wpAnyH_pure (i := 10) (v := ?_) rfl (by kernel_rfl) (by kernel_rfl) (by kernel_rfl) (fun _ _ _ h => h) (by rfl) (by assumption) ?_ ?_
      rotate_left
      · (intro w hSw; (try dsimp only at hSw); go_simp; (try with_reducible rfl))
      simp only [Act.put, List.getElem_toArray, List.getElem_cons_succ, List.getElem_cons_zero, List.setIfInBounds_toArray, List.set_cons_zero, List.set_cons_succ]
      refine wpAnyH_pure (i := 11) (v := ?_) rfl (by kernel_rfl) (by kernel_rfl) (by kernel_rfl) (fun _ _ _ h => h) (by rfl) (by assumption) ?_ ?_
      rotate_left
      · (intro w hSw; (try dsimp only at hSw); go_simp; (try with_reducible rfl))
      simp only [Act.put, List.getElem_toArray, List.getElem_cons_succ, List.getElem_cons_zero, List.setIfInBounds_toArray, List.set_cons_zero, List.set_cons_succ]
      refine wpAnyH_pure (i := 12) (v := ?_) rfl (by kernel_rfl) (by kernel_rfl) (by kernel_rfl) (fun _ _ _ h => h) (by rfl) (by assumption) ?_ ?_
      rotate_left
      · (intro w hSw; (try dsimp only at hSw); go_simp; (try with_reducible rfl))
      simp only [Act.put, List.getElem_toArray, List.getElem_cons_succ, List.getElem_cons_zero, List.setIfInBounds_toArray, List.set_cons_zero, List.set_cons_succ]
      refine wpAnyH_pure (i := 13) (v := ?_) rfl (by kernel_rfl) (by kernel_rfl) (by kernel_rfl) (fun _ _ _ h => h) (by rfl) (by assumption) ?_ ?_
      rotate_left
      · (intro w hSw; (try dsimp only at hSw); go_simp; (try with_reducible rfl))
      simp only [Act.put, List.getElem_toArray, List.getElem_cons_succ, List.getElem_cons_zero, List.setIfInBounds_toArray, List.set_cons_zero, List.set_cons_succ]
      refine wpAnyH_pure (i := 14) (v := ?_) rfl (by kernel_rfl) (by kernel_rfl) (by kernel_rfl) (fun _ _ _ h => h) (by rfl) (by assumption) ?_ ?_
      rotate_left
      · (intro w hSw; (try dsimp only at hSw); go_simp; (try with_reducible rfl))
      simp only [Act.put, List.getElem_toArray, List.getElem_cons_succ, List.getElem_cons_zero, List.setIfInBounds_toArray, List.set_cons_zero, List.set_cons_succ]
      refine wpAnyH_pure (i := 15) (v := ?_) rfl (by kernel_rfl) (by kernel_rfl) (by kernel_rfl) (fun _ _ _ h => h) (by rfl) (by assumption) ?_ ?_
      rotate_left
      · (intro w hSw; (try dsimp only at hSw); go_simp; (try with_reducible rfl))
      simp only [Act.put, List.getElem_toArray, List.getElem_cons_succ, List.getElem_cons_zero, List.setIfInBounds_toArray, List.set_cons_zero, List.set_cons_succ]
      refine wpAnyH_pure (i := 16) (v := ?_) rfl (by kernel_rfl) (by kernel_rfl) (by kernel_rfl) (fun _ _ _ h => h) (by rfl) (by assumption) ?_ ?_
      rotate_left
      · (intro w hSw; (try dsimp only at hSw); go_simp; (try with_reducible rfl))
      simp only [Act.put, List.getElem_toArray, List.getElem_cons_succ, List.getElem_cons_zero, List.setIfInBounds_toArray, List.set_cons_zero, List.set_cons_succ]
      refine wpAnyH_pure (i := 17) (v := ?_) rfl (by kernel_rfl) (by kernel_rfl) (by kernel_rfl) (fun _ _ _ h => h) (by rfl) (by assumption) ?_ ?_
      rotate_left
      · (intro w hSw; (try dsimp only at hSw); go_simp; (try with_reducible rfl))
      simp only [Act.put, List.getElem_toArray, List.getElem_cons_succ, List.getElem_cons_zero, List.setIfInBounds_toArray, List.set_cons_zero, List.set_cons_succ]
      refine wpAnyH_pure (i := 18) (v := ?_) rfl (by kernel_rfl) (by kernel_rfl) (by kernel_rfl) (fun _ _ _ h => h) (by rfl) (by assumption) ?_ ?_
      rotate_left
      · (intro w hSw; (try dsimp only at hSw); go_simp; (try with_reducible rfl))
      simp only [Act.put, List.getElem_toArray, List.getElem_cons_succ, List.getElem_cons_zero, List.setIfInBounds_toArray, List.set_cons_zero, List.set_cons_succ]
      refine wpAnyH_pure (i := 19) (v := ?_) rfl (by kernel_rfl) (by kernel_rfl) (by kernel_rfl) (fun _ _ _ h => h) (by rfl) (by assumption) ?_ ?_
      rotate_left
      · (intro w hSw; (try dsimp only at hSw); go_simp; (try with_reducible rfl))
      simp only [Act.put, List.getElem_toArray, List.getElem_cons_succ, List.getElem_cons_zero, List.setIfInBounds_toArray, List.set_cons_zero, List.set_cons_succ]
      refine wpAnyH_pure (i := 20) (v := ?_) rfl (by kernel_rfl) (by kernel_rfl) (by kernel_rfl) (fun _ _ _ h => h) (by rfl) (by assumption) ?_ ?_
      rotate_left
      · (intro w hSw; (try dsimp only at hSw); go_simp; (try with_reducible rfl))
      simp only [Act.put, List.getElem_toArray, List.getElem_cons_succ, List.getElem_cons_zero, List.setIfInBounds_toArray, List.set_cons_zero, List.set_cons_succ]
      refine wpAnyH_pure (i := 21) (v := ?_) rfl (by kernel_rfl) (by kernel_rfl) (by kernel_rfl) (fun _ _ _ h => h) (by rfl) (by assumption) ?_ ?_
      rotate_left
      · (intro w hSw; (try dsimp only at hSw); go_simp; (try with_reducible rfl))
      simp only [Act.put, List.getElem_toArray, List.getElem_cons_succ, List.getElem_cons_zero, List.setIfInBounds_toArray, List.set_cons_zero, List.set_cons_succ]
      refine wpAnyH_pure (i := 22) (v := ?_) rfl (by kernel_rfl) (by kernel_rfl) (by kernel_rfl) (fun _ _ _ h => h) (by rfl) (by assumption) ?_ ?_
      rotate_left
      · (intro w hSw; (try dsimp only at hSw); go_simp; (try with_reducible rfl))
      simp only [Act.put, List.getElem_toArray, List.getElem_cons_succ, List.getElem_cons_zero, List.setIfInBounds_toArray, List.set_cons_zero, List.set_cons_succ]
      refine wpAnyH_pure (i := 23) (v := ?_) rfl (by kernel_rfl) (by kernel_rfl) (by kernel_rfl) (fun _ _ _ h => h) (by rfl) (by assumption) ?_ ?_
      rotate_left
      · (intro w hSw; (try dsimp only at hSw); go_simp; (try with_reducible rfl))
      simp only [Act.put, List.getElem_toArray, List.getElem_cons_succ, List.getElem_cons_zero, List.setIfInBounds_toArray, List.set_cons_zero, List.set_cons_succ]
      refine wpAnyH_pure (i := 24) (v := ?_) rfl (by kernel_rfl) (by kernel_rfl) (by kernel_rfl) (fun _ _ _ h => h) (by rfl) (by assumption) ?_ ?_
      rotate_left
      · (intro w hSw; (try dsimp only at hSw); go_simp; (try with_reducible rfl))
      simp only [Act.put, List.getElem_toArray, List.getElem_cons_succ, List.getElem_cons_zero, List.setIfInBounds_toArray, List.set_cons_zero, List.set_cons_succ]
      refine wpAnyH_ready (rs := [25]) (by kernel_rfl) (by simp) ?_
      refine AllReadyH.cons rfl (fun Kq hKq => ?_) AllReadyH.nil
      go_simp
      refine hKq.out _ _ ?_ (fun hH2 => ?_)
      · (first | (refine ⟨?_, ?_⟩ <;> ((repeat (first | refine (World.cell?_setCell_far _ _ _ _ (by dsimp only; omega)).trans ?_ | refine (World.frozen?_setCell _ _ _ _).trans ?_)); with_reducible assumption)) | (go_keep; done) | (simp [*, go_sem]; done))
      clear hKq Kq
      clear hH1
      refine wpAnyH_done (by kernel_rfl) ?_ _
      clear wr1 wr2 wr3 hq0 hf0 d0 d1
      go_wp2
      go_roundw
      case rel =>
        refine ⟨k + 1, by omega, by go_num, Lib.hid (by have := HB.out; (repeat' (first | (with_reducible exact Below.refl _ _) | (with_reducible assumption) | (with_reducible refine Below.alloc ?_ ?_ _) | (with_reducible refine Below.drew ?_) | (with_reducible refine below_drewN ?_ _) | (with_reducible refine Below.setCell ?_ ?_ _) | (with_reducible refine below_step (by with_reducible assumption) ?_ ?_) | (with_reducible exact Below.size (by with_reducible assumption)) | go_size))), ?_, ?_, Lib.hid fun i hi => ⟨(World.cell?_setCell_far _ _ _ _ (by dsimp only; omega)).trans (HP.out i hi).1, (World.cell?_setCell_far _ _ _ _ (by dsimp only; omega)).trans (HP.out i hi).2⟩⟩
        · rw [heap_drew, block_setCell_other (by omega)]; exact HR.out
        · rw [heap_drew, block_setCell HO.out, HSET.out]
      case measure => simp [intOf]; omega
    · obtain rfl : k = 61 := by omega
      have hsS := Lib.hid (sC_size (tF (anS x) 61))
      have hoS := Lib.hid (sC_one (tF (anS x) 61))
      have heS := Lib.hid (sC_congr (s := tF (anS x) 61) (s' := anS x) (fun i hi => by unfold tF; rw [if_pos hi]))
      generalize sC (tF (anS x) 61) = S at *
      go_wp2_with (first | (refine wpl_load rfl 95 95 _ bo S (0, 0) _ rfl rfl Try.underlying95 rfl (by rw [hsS.out]; exact infoSq) ho ?_) | (refine wpl_store rfl 95 95 _ _ (w.heap.size + 1) z S rfl rfl rfl (by rw [hsS.out]; exact infoSq) (by rw [hsS.out, hzs.out]) hoS.out hr ?_))
      refine bodyPost_ret (v := .agg S) ?_ rfl ⟨by rw [heS.out], below_setRow HB.out S (by omega)⟩
      rw [results_cell1 (p := 2) (ty := 95) rfl]
      change (loadVar 95 ⟨w.heap.size + 1, 0, none⟩).run Try.prog _ = _
      exact run_loadVar_row _ _ 95 95 S (0, 0) _ (block_setRow hr) Try.underlying95 rfl (by rw [hsS.out]; exact infoSq)
set_option maxRecDepth 100000 in
set_option maxHeartbeats 4000000 in
theorem analyticR_any (x : Nat → Int) (w : World) (hx : Hid (∀ k, k < 64 → (x k).natAbs ≤ 2047)) :
    Calls Try.prog 62 #[.agg (tC x)] w fun e w' => e = .returned (.agg (aC (anP x) (anQ x))) ∧ Below w.heap.size w w' := by
  have K1 := Lib.hid (fun W => parts_any x W hx)
  have HS := Lib.hid (fun k (h : k < 61) => anS_bd hx.out h)
  have hsc := Lib.hid (tC_size x)
  have hzs := Lib.hid (aC_size (fun _ => 0) fun _ => 0)
  have HZV := Lib.hid zero_ana
  unfold PartsPost at K1
  generalize tC x = c at *
  obtain ⟨z, hz⟩ : ∃ z, z = aC (fun _ => 0) fun _ => 0 := ⟨_, rfl⟩
  rw [← hz] at hzs HZV
  have HZ := Lib.hid hz
  clear hz
  go_enter Try.func62, Try.ntmps62
  go_wp2_with (first | (refine wpl_alloc rfl 92 z rfl (HZV.out _) ?_) | (refine wpl_load rfl 26 26 _ w.heap.size c (0, 0) _ rfl rfl Try.underlying26 rfl (by rw [hsc.out]; exact infoTrace) (block_alloc (heap_alloc_last w _)) ?_))
  refine (K1.out _).mono ?_
  rintro e w1 ⟨vp, rfl, hop, hw1⟩
  have cz := block_below0 hw1 (heap_alloc_last (w.alloc _) _)
  rw [World.size_alloc] at cz
  have hz1 := hw1.size
  have hB1 : Below w.heap.size w w1 := by (repeat' (first | (with_reducible exact Below.refl _ _) | (with_reducible assumption) | (with_reducible refine Below.alloc ?_ ?_ _) | (with_reducible refine Below.drew ?_) | (with_reducible refine below_drewN ?_ _) | (with_reducible refine Below.setCell ?_ ?_ _) | (with_reducible refine below_step (by with_reducible assumption) ?_ ?_) | (with_reducible exact Below.size (by with_reducible assumption)) | go_size))
  simp only [World.size_alloc] at hz1
  obtain ⟨g, cp, rfl, hg, hgs, hcp, hcpm⟩ := own_slice2 hop (by decide)
  have hcell : ∀ i, i < 61 → w1.cell? ⟨g, i * 2, none⟩ = some (.int .i64 (anP x i)) ∧ w1.cell? ⟨g, i * 2 + 1, none⟩ = some (.int .i64 (anQ x i)) := fun i hi =>
    ⟨(hop.cellAt (i * 2) (by omega)).trans (pL_get _ _ hi).1, (hop.cellAt (i * 2 + 1) (by omega)).trans (pL_get _ _ hi).2⟩
  have HC := Lib.hid hcell
  unfold maxLen at hcpm
  clear hw1 hop hcell
  go_wp2_with (refine wpl_alloc rfl 92 z rfl (HZV.out _) ?_)
  have hn2 : (w1.alloc (.cells z 92)).heap[w1.heap.size]? = some (.cells z 92 (0, 0)) := heap_alloc_last w1 _
  generalize hbo : w1.heap.size = bo at *
  have hBw : Below w.heap.size w (w1.alloc (.cells z 92)) := by (repeat' (first | (with_reducible exact Below.refl _ _) | (with_reducible assumption) | (with_reducible refine Below.alloc ?_ ?_ _) | (with_reducible refine Below.drew ?_) | (with_reducible refine below_drewN ?_ _) | (with_reducible refine Below.setCell ?_ ?_ _) | (with_reducible refine below_step (by with_reducible assumption) ?_ ?_) | (with_reducible exact Below.size (by with_reducible assumption)) | go_size))
  have cz2 : (w1.alloc (.cells z 92)).heap[w.heap.size + 1]? = some (.cells z 92 (0, 0)) := block_alloc cz
  have HC2 : Hid (∀ i, i < 61 → (w1.alloc (.cells z 92)).cell? ⟨g, i * 2, none⟩ = some (.int .i64 (anP x i)) ∧ (w1.alloc (.cells z 92)).cell? ⟨g, i * 2 + 1, none⟩ = some (.int .i64 (anQ x i))) :=
    Lib.hid fun i hi => ⟨(World.cell?_alloc_lt _ _ _ (by show g < _; omega)).trans (HC.out i hi).1, (World.cell?_alloc_lt _ _ _ (by show g < _; omega)).trans (HC.out i hi).2⟩
  clear cz hB1 HC
  go_loopw [5] (fun i wr => ∃ k : Nat, k ≤ 61 ∧ i = .int .i64 (k : Int) ∧ Hid (Below w.heap.size w wr) ∧ wr.heap[w.heap.size + 1]? = some (.cells z 92 (0, 0)) ∧ wr.heap[bo]? = some (.cells (aC (tF (anP x) k) (tF (anQ x) k)) 92 (0, 0)) ∧ Hid (∀ i, i < 61 → wr.cell? ⟨g, i * 2, none⟩ = some (.int .i64 (anP x i)) ∧ wr.cell? ⟨g, i * 2 + 1, none⟩ = some (.int .i64 (anQ x i)))) (fun i _ => 61 - (intOf i).toNat)
  case atStart =>
    refine ⟨0, Nat.zero_le _, rfl, Lib.hid hBw, cz2, ?_, HC2⟩
    rw [hn2, HZ.out]
    rw [aC_congr (p := tF (anP x) 0) (q := tF (anQ x) 0) (p' := fun _ => 0) (q' := fun _ => 0) (fun i _ => ⟨by unfold tF; rw [if_neg (by omega)], by unfold tF; rw [if_neg (by omega)]⟩)]
  case round =>
    clear hBw cz2 hn2 HC2
    obtain ⟨k, hk, rfl, HB, hr, ho, HP⟩ := hrel
    by_cases hlt : k < 61
    · have hbd := HS.out k hlt
      have d0 := (HP.out k hlt).1
      have d1 := (HP.out k hlt).2
      have hq0 : wr.cell? ⟨bo, k, none⟩ = some (c64 (tF (anP x) k k) (tF (anQ x) k k)) := (cell_block ho).trans (aC_get _ _ hlt)
      have hf0 : wr.frozen? ⟨bo, k, none⟩ = false := frozen_block ho
      have hset := aC_set (anP x) (anQ x) hlt
      have HSET := Lib.hid hset
      have HR := Lib.hid hr
      have HO := Lib.hid ho
      clear hset hr ho
      generalize anP x k = p at *
      generalize anQ x k = q at *
      unfold c64 at hq0
      generalize wd Ieee.single (tF (anP x) k k) = old1 at *
      generalize wd Ieee.single (tF (anQ x) k k) = old2 at *
      have KS := Lib.hid (fun W => sample_any p q W (by omega) (by omega))
      unfold c64 at KS HSET
      generalize wd Ieee.single p = s1 at *
      generalize wd Ieee.single q = s2 at *
      have e0 : (0 : Int) ≤ (k : Int) := by omega
      have e1 : (k : Int) < 61 := by omega
      have hne : g ≠ bo := by omega
      go_wp2
      refine wp_region_held_drew (S := fun w' => w'.cell? ⟨g, k * 2, none⟩ = some (.int .i64 (p)) ∧ w'.cell? ⟨g, k * 2 + 1, none⟩ = some (.int .i64 (q))) (by kernel_rfl) ?_ (fun hH1 => ?_)
      · (first | assumption | (refine ⟨?_, ?_⟩ <;> assumption) | (go_keep; done) | (simp [*, go_sem]; done))
      refine wpAnyH_pure (i := 0) (v := ?_) rfl (by kernel_rfl) (by kernel_rfl) (by kernel_rfl) (fun _ _ _ h => h) (by rfl) (by assumption) ?_ ?_
      rotate_left
      · (intro w hSw; (try dsimp only at hSw); go_simp; (try with_reducible rfl))
      simp only [Act.put, List.getElem_toArray, List.getElem_cons_succ, List.getElem_cons_zero, List.setIfInBounds_toArray, List.set_cons_zero, List.set_cons_succ]
      refine wpAnyH_pure (i := 1) (v := ?_) rfl (by kernel_rfl) (by kernel_rfl) (by kernel_rfl) (fun _ _ _ h => h) (by rfl) (by assumption) ?_ ?_
      rotate_left
      · (intro w hSw; (try dsimp only at hSw); go_simp; (try with_reducible rfl))
      simp only [Act.put, List.getElem_toArray, List.getElem_cons_succ, List.getElem_cons_zero, List.setIfInBounds_toArray, List.set_cons_zero, List.set_cons_succ]
      refine wpAnyH_pure (i := 2) (v := ?_) rfl (by kernel_rfl) (by kernel_rfl) (by kernel_rfl) (fun _ _ _ h => h) (by rfl) (by assumption) ?_ ?_
      rotate_left
      · (intro w hSw; (try dsimp only at hSw); go_simp; (try with_reducible rfl))
      simp only [Act.put, List.getElem_toArray, List.getElem_cons_succ, List.getElem_cons_zero, List.setIfInBounds_toArray, List.set_cons_zero, List.set_cons_succ]
      refine wpAnyH_pure (i := 3) (v := ?_) rfl (by kernel_rfl) (by kernel_rfl) (by kernel_rfl) (fun _ _ _ h => h) (by rfl) (by assumption) ?_ ?_
      rotate_left
      · (intro w hSw; (try dsimp only at hSw); go_simp; (try with_reducible rfl))
      simp only [Act.put, List.getElem_toArray, List.getElem_cons_succ, List.getElem_cons_zero, List.setIfInBounds_toArray, List.set_cons_zero, List.set_cons_succ]
      refine wpAnyH_pure (i := 4) (v := ?_) rfl (by kernel_rfl) (by kernel_rfl) (by kernel_rfl) (fun _ _ _ h => h) (by rfl) (by assumption) ?_ ?_
      rotate_left
      · (intro w hSw; (try dsimp only at hSw); go_simp; (try with_reducible rfl))
      simp only [Act.put, List.getElem_toArray, List.getElem_cons_succ, List.getElem_cons_zero, List.setIfInBounds_toArray, List.set_cons_zero, List.set_cons_succ]
      refine wpAnyH_pure (i := 5) (v := ?_) rfl (by kernel_rfl) (by kernel_rfl) (by kernel_rfl) (fun _ _ _ h => h) (by rfl) (by assumption) ?_ ?_
      rotate_left
      · (intro w hSw; (try dsimp only at hSw); go_simp; (try with_reducible rfl))
      simp only [Act.put, List.getElem_toArray, List.getElem_cons_succ, List.getElem_cons_zero, List.setIfInBounds_toArray, List.set_cons_zero, List.set_cons_succ]
      refine wpAnyH_pure (i := 6) (v := ?_) rfl (by kernel_rfl) (by kernel_rfl) (by kernel_rfl) (fun _ _ _ h => h) (by rfl) (by assumption) ?_ ?_
      rotate_left
      · (intro w hSw; (try dsimp only at hSw); go_simp; (try with_reducible rfl))
      simp only [Act.put, List.getElem_toArray, List.getElem_cons_succ, List.getElem_cons_zero, List.setIfInBounds_toArray, List.set_cons_zero, List.set_cons_succ]
      refine wpAnyH_pure (i := 7) (v := ?_) rfl (by kernel_rfl) (by kernel_rfl) (by kernel_rfl) (fun _ _ _ h => h) (by rfl) (by assumption) ?_ ?_
      rotate_left
      · (intro w hSw; (try dsimp only at hSw); go_simp; (try with_reducible rfl))
      simp only [Act.put, List.getElem_toArray, List.getElem_cons_succ, List.getElem_cons_zero, List.setIfInBounds_toArray, List.set_cons_zero, List.set_cons_succ]
      refine wpAnyH_pure (i := 8) (v := ?_) rfl (by kernel_rfl) (by kernel_rfl) (by kernel_rfl) (fun _ _ _ h => h) (by rfl) (by assumption) ?_ ?_
      rotate_left
      · (intro w hSw; (try dsimp only at hSw); go_simp; (try with_reducible rfl))
      simp only [Act.put, List.getElem_toArray, List.getElem_cons_succ, List.getElem_cons_zero, List.setIfInBounds_toArray, List.set_cons_zero, List.set_cons_succ]
      refine wpAnyH_pure (i := 9) (v := ?_) rfl (by kernel_rfl) (by kernel_rfl) (by kernel_rfl) (fun _ _ _ h => h) (by rfl) (by assumption) ?_ ?_
      rotate_left
      · (intro w hSw; (try dsimp only at hSw); go_simp; (try with_reducible rfl))
      simp only [Act.put, List.getElem_toArray, List.getElem_cons_succ, List.getElem_cons_zero, List.setIfInBounds_toArray, List.set_cons_zero, List.set_cons_succ]
      refine wpAnyH_pure (i := 10) (v := ?_) rfl (by kernel_rfl) (by kernel_rfl) (by kernel_rfl) (fun _ _ _ h => h) (by rfl) (by assumption) ?_ ?_
      rotate_left
      · (intro w hSw; (try dsimp only at hSw); go_simp; (try with_reducible rfl))
      simp only [Act.put, List.getElem_toArray, List.getElem_cons_succ, List.getElem_cons_zero, List.setIfInBounds_toArray, List.set_cons_zero, List.set_cons_succ]
      refine wpAnyH_ready (rs := [11]) (by kernel_rfl) (by simp) ?_
      refine AllReadyH.cons rfl (fun Kq hKq => ?_) AllReadyH.nil
      go_simp
      refine (KS.out _).mono ?_
      (rintro e w' ⟨rfl, rfl⟩)
      refine hKq.out _ _ ?_ (fun hH2 => ?_)
      · (first | assumption | (refine ⟨?_, ?_⟩ <;> assumption) | (go_keep; done) | (simp [*, go_sem]; done))
      clear hKq Kq
      clear hH1
      refine wpAnyH_pure (i := 12) (v := ?_) rfl (by kernel_rfl) (by kernel_rfl) (by kernel_rfl) (fun _ _ _ h => h) (by rfl) (by assumption) ?_ ?_
      rotate_left
      · (intro w hSw; (try dsimp only at hSw); go_simp; (try with_reducible rfl))
      simp only [Act.put, List.getElem_toArray, List.getElem_cons_succ, List.getElem_cons_zero, List.setIfInBounds_toArray, List.set_cons_zero, List.set_cons_succ]
      refine wpAnyH_ready (rs := [13]) (by kernel_rfl) (by simp) ?_
      refine AllReadyH.cons rfl (fun Kq hKq => ?_) AllReadyH.nil
      go_simp
      refine hKq.out _ _ ?_ (fun hH3 => ?_)
      · (first | (refine ⟨?_, ?_⟩ <;> ((repeat (first | refine (World.cell?_setCell_far _ _ _ _ (by dsimp only; omega)).trans ?_ | refine (World.frozen?_setCell _ _ _ _).trans ?_)); with_reducible assumption)) | (go_keep; done) | (simp [*, go_sem]; done))
      clear hKq Kq
      clear hH2
      refine wpAnyH_done (by kernel_rfl) ?_ _
      clear hq0 hf0 d0 d1
      go_wp2
      go_roundw
      case rel =>
        refine ⟨k + 1, by omega, by go_num, Lib.hid (by have := HB.out; (repeat' (first | (with_reducible exact Below.refl _ _) | (with_reducible assumption) | (with_reducible refine Below.alloc ?_ ?_ _) | (with_reducible refine Below.drew ?_) | (with_reducible refine below_drewN ?_ _) | (with_reducible refine Below.setCell ?_ ?_ _) | (with_reducible refine below_step (by with_reducible assumption) ?_ ?_) | (with_reducible exact Below.size (by with_reducible assumption)) | go_size))), ?_, ?_, Lib.hid fun i hi => ⟨(World.cell?_setCell_far _ _ _ _ (by dsimp only; omega)).trans (HP.out i hi).1, (World.cell?_setCell_far _ _ _ _ (by dsimp only; omega)).trans (HP.out i hi).2⟩⟩
        · rw [heap_drew, block_setCell_other (by omega)]; exact HR.out
        · rw [heap_drew, block_setCell HO.out, HSET.out]
      case measure => simp [intOf]; omega
    · obtain rfl : k = 61 := by omega
      have hsS := Lib.hid (aC_size (tF (anP x) 61) (tF (anQ x) 61))
      have hoS := Lib.hid (aC_one (tF (anP x) 61) (tF (anQ x) 61))
      have heS := Lib.hid (aC_congr (p := tF (anP x) 61) (q := tF (anQ x) 61) (p' := anP x) (q' := anQ x) (fun i hi => ⟨by unfold tF; rw [if_pos hi], by unfold tF; rw [if_pos hi]⟩))
      generalize aC (tF (anP x) 61) (tF (anQ x) 61) = S at *
      go_wp2_with (first | (refine wpl_load rfl 92 92 _ bo S (0, 0) _ rfl rfl Try.underlying92 rfl (by rw [hsS.out]; exact infoAna) ho ?_) | (refine wpl_store rfl 92 92 _ _ (w.heap.size + 1) z S rfl rfl rfl (by rw [hsS.out]; exact infoAna) (by rw [hsS.out, hzs.out]) hoS.out hr ?_))
      refine bodyPost_ret (v := .agg S) ?_ rfl ⟨by rw [heS.out], below_setRow HB.out S (by omega)⟩
      rw [results_cell1 (p := 2) (ty := 92) rfl]
      change (loadVar 92 ⟨w.heap.size + 1, 0, none⟩).run Try.prog _ = _
      exact run_loadVar_row _ _ 92 92 S (0, 0) _ (block_setRow hr) Try.underlying92 rfl (by rw [hsS.out]; exact infoAna)
end Go.Proofs.Ythgnemkfaiejbaa
