/-
  STEEP: SteepWithin of the reference.
-/
import Derived.Test.YtpphnnbijmoodaaSteepW
set_option linter.unusedVariables false
set_option linter.unusedSimpArgs false
namespace Go.Proofs.Ytpphnnbijmoodaa
open Go.RowKit

def lmE (n d m k : Int) : Int := frst [fE n d, fE m k]
theorem lmE_zero {n d m k : Int} : lmE n d m k = 0 ↔ fE n d = 0 ∧ fE m k = 0 := by
  unfold lmE
  rw [frst_zero]
  simp only [List.mem_cons, List.not_mem_nil, or_false, forall_eq_or_imp, forall_eq]
set_option maxRecDepth 100000 in
set_option maxHeartbeats 1000000 in
theorem rsteep_err (a b n d m k : Int) (w : World) (hn : in64 n ∧ in64 d ∧ in64 m ∧ in64 k) (h : ¬ lmE n d m k = 0) :
    Calls Try.prog 73 #[.agg #[.int .i64 a, .int .i64 b], .agg #[.int .i64 n, .int .i64 d], .agg #[.int .i64 m, .int .i64 k]] w fun e w' => e = .returned (.tuple #[.bool false, .int .i64 (lmE n d m k)]) ∧ Below w.heap.size w w' := by
  have K2 := Lib.hid (fun W => limitErr_any n d W hn.1 hn.2.1)
  have K3 := Lib.hid (fun W => limitErr_any m k W hn.2.2.1 hn.2.2.2)
  have hf : frst [fE n d, fE m k] = lmE n d m k := rfl
  clear hn
  generalize lmE n d m k = g at *
  generalize fE n d = e2 at *
  generalize fE m k = e3 at *
  have HF := Lib.hid hf
  clear hf
  go_enter Try.func73, Try.ntmps73
  go_wp2
  refine wp_region_held_drew (S := fun w' => w'.cell? ⟨w.heap.size + 1, 0, none⟩ = some (.int .i64 (n)) ∧ w'.cell? ⟨w.heap.size + 1, 1, none⟩ = some (.int .i64 (d)) ∧ w'.cell? ⟨w.heap.size + 1 + 1, 0, none⟩ = some (.int .i64 (m)) ∧ w'.cell? ⟨w.heap.size + 1 + 1, 1, none⟩ = some (.int .i64 (k))) (by kernel_rfl) ?_ (fun hH1 => ?_)
  · (first | assumption | (refine ⟨?_, ?_, ?_, ?_⟩ <;> assumption) | (go_keep; done) | (simp [*, go_sem]; done))
  refine wpAnyH_pure (i := 0) (v := ?_) rfl (by kernel_rfl) (by kernel_rfl) (by kernel_rfl) (fun _ _ _ h => h) (by rfl) (by assumption) ?_ ?_
  rotate_left
  · (intro w hSw; (try dsimp only at hSw); go_simp; (try with_reducible rfl))
  simp only [Act.put, List.getElem_toArray, List.getElem_cons_succ, List.getElem_cons_zero, List.setIfInBounds_toArray, List.set_cons_zero, List.set_cons_succ]
  refine wpAnyH_pure (i := 2) (v := ?_) rfl (by kernel_rfl) (by kernel_rfl) (by kernel_rfl) (fun _ _ _ h => h) (by rfl) (by assumption) ?_ ?_
  rotate_left
  · (intro w hSw; (try dsimp only at hSw); go_simp; (try with_reducible rfl))
  simp only [Act.put, List.getElem_toArray, List.getElem_cons_succ, List.getElem_cons_zero, List.setIfInBounds_toArray, List.set_cons_zero, List.set_cons_succ]
  refine wpAnyH_ready (rs := [1]) (by kernel_rfl) (by simp) ?_
  refine AllReadyH.cons rfl (fun Kq hKq => ?_) AllReadyH.nil
  go_simp
  refine (K2.out _).mono ?_
  (rintro e w2 ⟨rfl, hw2⟩)
  obtain ⟨hcw2, hfw2, hlw2, hmw2, hnw2⟩ := bcell3 hw2
  have hzw2 := hw2.size
  (try simp only [World.size_alloc, World.size_setCell, World.size_drew, size_drewN] at hzw2)
  have cb2_0 : w2.cell? ⟨w.heap.size + 1, 0, none⟩ = some (.int .i64 (n)) := (hcw2 (w.heap.size + 1) (0) (by first | omega | (simp only [World.size_alloc, World.size_drew, World.size_setCell, size_drewN]; omega))).trans (by first | assumption | (simp [go_sem, *]; done)); have cb2_1 : w2.cell? ⟨w.heap.size + 1, 1, none⟩ = some (.int .i64 (d)) := (hcw2 (w.heap.size + 1) (1) (by first | omega | (simp only [World.size_alloc, World.size_drew, World.size_setCell, size_drewN]; omega))).trans (by first | assumption | (simp [go_sem, *]; done)); have ob2 : w.heap.size + 1 < w2.heap.size := (by omega)
  have cc2_0 : w2.cell? ⟨w.heap.size + 1 + 1, 0, none⟩ = some (.int .i64 (m)) := (hcw2 (w.heap.size + 1 + 1) (0) (by first | omega | (simp only [World.size_alloc, World.size_drew, World.size_setCell, size_drewN]; omega))).trans (by first | assumption | (simp [go_sem, *]; done)); have cc2_1 : w2.cell? ⟨w.heap.size + 1 + 1, 1, none⟩ = some (.int .i64 (k)) := (hcw2 (w.heap.size + 1 + 1) (1) (by first | omega | (simp only [World.size_alloc, World.size_drew, World.size_setCell, size_drewN]; omega))).trans (by first | assumption | (simp [go_sem, *]; done)); have oc2 : w.heap.size + 1 + 1 < w2.heap.size := (by omega)
  refine hKq.out _ _ ?_ (fun hH2 => ?_)
  · (first | assumption | (refine ⟨?_, ?_, ?_, ?_⟩ <;> assumption) | (go_keep; done) | (simp [*, go_sem]; done))
  clear hKq Kq
  clear hH1
  refine wpAnyH_ready (rs := [3]) (by kernel_rfl) (by simp) ?_
  refine AllReadyH.cons rfl (fun Kq hKq => ?_) AllReadyH.nil
  go_simp
  refine (K3.out _).mono ?_
  (rintro e w3 ⟨rfl, hw3⟩)
  obtain ⟨hcw3, hfw3, hlw3, hmw3, hnw3⟩ := bcell3 hw3
  have hzw3 := hw3.size
  (try simp only [World.size_alloc, World.size_setCell, World.size_drew, size_drewN] at hzw3)
  have cb3_0 : w3.cell? ⟨w.heap.size + 1, 0, none⟩ = some (.int .i64 (n)) := (hcw3 (w.heap.size + 1) (0) (by first | omega | (simp only [World.size_alloc, World.size_drew, World.size_setCell, size_drewN]; omega))).trans (by first | assumption | (simp [go_sem, *]; done)); have cb3_1 : w3.cell? ⟨w.heap.size + 1, 1, none⟩ = some (.int .i64 (d)) := (hcw3 (w.heap.size + 1) (1) (by first | omega | (simp only [World.size_alloc, World.size_drew, World.size_setCell, size_drewN]; omega))).trans (by first | assumption | (simp [go_sem, *]; done)); have ob3 : w.heap.size + 1 < w3.heap.size := (by omega)
  clear cb2_0 cb2_1
  have cc3_0 : w3.cell? ⟨w.heap.size + 1 + 1, 0, none⟩ = some (.int .i64 (m)) := (hcw3 (w.heap.size + 1 + 1) (0) (by first | omega | (simp only [World.size_alloc, World.size_drew, World.size_setCell, size_drewN]; omega))).trans (by first | assumption | (simp [go_sem, *]; done)); have cc3_1 : w3.cell? ⟨w.heap.size + 1 + 1, 1, none⟩ = some (.int .i64 (k)) := (hcw3 (w.heap.size + 1 + 1) (1) (by first | omega | (simp only [World.size_alloc, World.size_drew, World.size_setCell, size_drewN]; omega))).trans (by first | assumption | (simp [go_sem, *]; done)); have oc3 : w.heap.size + 1 + 1 < w3.heap.size := (by omega)
  clear cc2_0 cc2_1
  refine hKq.out _ _ ?_ (fun hH3 => ?_)
  · (first | assumption | (refine ⟨?_, ?_, ?_, ?_⟩ <;> assumption) | (go_keep; done) | (simp [*, go_sem]; done))
  clear hKq Kq
  clear hH2
  refine wpAnyH_ready (rs := [4]) (by kernel_rfl) (by simp) ?_
  refine AllReadyH.cons rfl (fun Kq hKq => ?_) AllReadyH.nil
  go_simp
  refine hKq.out _ _ ?_ (fun hH4 => ?_)
  · (first | assumption | (refine ⟨?_, ?_, ?_, ?_⟩ <;> assumption) | (go_keep; done) | (simp [*, go_sem]; done))
  clear hKq Kq
  clear hH3
  refine wpAnyH_ready (rs := [5]) (by kernel_rfl) (by simp) ?_
  refine AllReadyH.cons rfl (fun Kq hKq => ?_) AllReadyH.nil
  go_simp
  apply Calls.mono
  focus ((apply rfirst2 <;> exact cell_fresh _ _ _ _ _ _ (by first | rfl | simp) rfl); done)
  (rw [HF.out]; rintro e w' ⟨rfl, rfl⟩)
  refine hKq.out _ _ ?_ (fun hH5 => ?_)
  · (first | assumption | (refine ⟨?_, ?_, ?_, ?_⟩ <;> assumption) | (go_keep; done) | (simp [*, go_sem]; done))
  clear hKq Kq
  clear hH4
  refine wpAnyH_pure (i := 6) (v := ?_) rfl (by kernel_rfl) (by kernel_rfl) (by kernel_rfl) (fun _ _ _ h => h) (by rfl) (by assumption) ?_ ?_
  rotate_left
  · (intro w hSw; (try dsimp only at hSw); go_simp; (try with_reducible rfl))
  simp only [Act.put, List.getElem_toArray, List.getElem_cons_succ, List.getElem_cons_zero, List.setIfInBounds_toArray, List.set_cons_zero, List.set_cons_succ]
  refine wpAnyH_done (by kernel_rfl) ?_ _
  go_wp2
  go_ret2
  exact ⟨rfl, by (repeat' (first | (with_reducible exact Below.refl _ _) | (with_reducible assumption) | (with_reducible refine Below.alloc ?_ ?_ _) | (with_reducible refine Below.drew ?_) | (with_reducible refine below_drewN ?_ _) | (with_reducible refine Below.setCell ?_ ?_ _) | (with_reducible refine below_step (by with_reducible assumption) ?_ ?_) | (with_reducible exact Below.size (by with_reducible assumption)) | go_size))⟩
set_option maxRecDepth 100000 in
set_option maxHeartbeats 1000000 in
theorem rsteep_ord (a b n d m k : Int) (w : World) (hn : in64 n ∧ in64 d ∧ in64 m ∧ in64 k) (h : lmE n d m k = 0) (ho : m * d < n * k) :
    Calls Try.prog 73 #[.agg #[.int .i64 a, .int .i64 b], .agg #[.int .i64 n, .int .i64 d], .agg #[.int .i64 m, .int .i64 k]] w fun e w' => e = .returned (.tuple #[.bool false, .int .i64 9]) ∧ Below w.heap.size w w' := by
  have K2 := Lib.hid (fun W => limitErr_any n d W hn.1 hn.2.1)
  have K3 := Lib.hid (fun W => limitErr_any m k W hn.2.2.1 hn.2.2.2)
  obtain ⟨z2, z3⟩ := lmE_zero.1 h
  have b2 := fE_bd z2
  have b3 := fE_bd z3
  have K4 : ∀ W, _ := fun W => bcmp_any n d m k W (by omega) (by omega)
  rw [show cmpV (n * k) (m * d) = 1 by unfold cmpV; rw [if_neg (by omega), if_pos ho]] at K4
  have K4 := Lib.hid K4
  have hf : frst [fE n d, fE m k] = 0 := h
  clear hn h ho z2 z3 b2 b3
  generalize fE n d = e2 at *
  generalize fE m k = e3 at *
  have HF := Lib.hid hf
  clear hf
  go_enter Try.func73, Try.ntmps73
  go_wp2
  refine wp_region_held_drew (S := fun w' => w'.cell? ⟨w.heap.size + 1, 0, none⟩ = some (.int .i64 (n)) ∧ w'.cell? ⟨w.heap.size + 1, 1, none⟩ = some (.int .i64 (d)) ∧ w'.cell? ⟨w.heap.size + 1 + 1, 0, none⟩ = some (.int .i64 (m)) ∧ w'.cell? ⟨w.heap.size + 1 + 1, 1, none⟩ = some (.int .i64 (k))) (by kernel_rfl) ?_ (fun hH1 => ?_)
  · (first | assumption | (refine ⟨?_, ?_, ?_, ?_⟩ <;> assumption) | (go_keep; done) | (simp [*, go_sem]; done))
  refine wpAnyH_pure (i := 0) (v := ?_) rfl (by kernel_rfl) (by kernel_rfl) (by kernel_rfl) (fun _ _ _ h => h) (by rfl) (by assumption) ?_ ?_
  rotate_left
  · (intro w hSw; (try dsimp only at hSw); go_simp; (try with_reducible rfl))
  simp only [Act.put, List.getElem_toArray, List.getElem_cons_succ, List.getElem_cons_zero, List.setIfInBounds_toArray, List.set_cons_zero, List.set_cons_succ]
  refine wpAnyH_pure (i := 2) (v := ?_) rfl (by kernel_rfl) (by kernel_rfl) (by kernel_rfl) (fun _ _ _ h => h) (by rfl) (by assumption) ?_ ?_
  rotate_left
  · (intro w hSw; (try dsimp only at hSw); go_simp; (try with_reducible rfl))
  simp only [Act.put, List.getElem_toArray, List.getElem_cons_succ, List.getElem_cons_zero, List.setIfInBounds_toArray, List.set_cons_zero, List.set_cons_succ]
  refine wpAnyH_ready (rs := [1]) (by kernel_rfl) (by simp) ?_
  refine AllReadyH.cons rfl (fun Kq hKq => ?_) AllReadyH.nil
  go_simp
  refine (K2.out _).mono ?_
  (rintro e w2 ⟨rfl, hw2⟩)
  obtain ⟨hcw2, hfw2, hlw2, hmw2, hnw2⟩ := bcell3 hw2
  have hzw2 := hw2.size
  (try simp only [World.size_alloc, World.size_setCell, World.size_drew, size_drewN] at hzw2)
  have cb2_0 : w2.cell? ⟨w.heap.size + 1, 0, none⟩ = some (.int .i64 (n)) := (hcw2 (w.heap.size + 1) (0) (by first | omega | (simp only [World.size_alloc, World.size_drew, World.size_setCell, size_drewN]; omega))).trans (by first | assumption | (simp [go_sem, *]; done)); have cb2_1 : w2.cell? ⟨w.heap.size + 1, 1, none⟩ = some (.int .i64 (d)) := (hcw2 (w.heap.size + 1) (1) (by first | omega | (simp only [World.size_alloc, World.size_drew, World.size_setCell, size_drewN]; omega))).trans (by first | assumption | (simp [go_sem, *]; done)); have ob2 : w.heap.size + 1 < w2.heap.size := (by omega)
  have cc2_0 : w2.cell? ⟨w.heap.size + 1 + 1, 0, none⟩ = some (.int .i64 (m)) := (hcw2 (w.heap.size + 1 + 1) (0) (by first | omega | (simp only [World.size_alloc, World.size_drew, World.size_setCell, size_drewN]; omega))).trans (by first | assumption | (simp [go_sem, *]; done)); have cc2_1 : w2.cell? ⟨w.heap.size + 1 + 1, 1, none⟩ = some (.int .i64 (k)) := (hcw2 (w.heap.size + 1 + 1) (1) (by first | omega | (simp only [World.size_alloc, World.size_drew, World.size_setCell, size_drewN]; omega))).trans (by first | assumption | (simp [go_sem, *]; done)); have oc2 : w.heap.size + 1 + 1 < w2.heap.size := (by omega)
  refine hKq.out _ _ ?_ (fun hH2 => ?_)
  · (first | assumption | (refine ⟨?_, ?_, ?_, ?_⟩ <;> assumption) | (go_keep; done) | (simp [*, go_sem]; done))
  clear hKq Kq
  clear hH1
  refine wpAnyH_ready (rs := [3]) (by kernel_rfl) (by simp) ?_
  refine AllReadyH.cons rfl (fun Kq hKq => ?_) AllReadyH.nil
  go_simp
  refine (K3.out _).mono ?_
  (rintro e w3 ⟨rfl, hw3⟩)
  obtain ⟨hcw3, hfw3, hlw3, hmw3, hnw3⟩ := bcell3 hw3
  have hzw3 := hw3.size
  (try simp only [World.size_alloc, World.size_setCell, World.size_drew, size_drewN] at hzw3)
  have cb3_0 : w3.cell? ⟨w.heap.size + 1, 0, none⟩ = some (.int .i64 (n)) := (hcw3 (w.heap.size + 1) (0) (by first | omega | (simp only [World.size_alloc, World.size_drew, World.size_setCell, size_drewN]; omega))).trans (by first | assumption | (simp [go_sem, *]; done)); have cb3_1 : w3.cell? ⟨w.heap.size + 1, 1, none⟩ = some (.int .i64 (d)) := (hcw3 (w.heap.size + 1) (1) (by first | omega | (simp only [World.size_alloc, World.size_drew, World.size_setCell, size_drewN]; omega))).trans (by first | assumption | (simp [go_sem, *]; done)); have ob3 : w.heap.size + 1 < w3.heap.size := (by omega)
  clear cb2_0 cb2_1
  have cc3_0 : w3.cell? ⟨w.heap.size + 1 + 1, 0, none⟩ = some (.int .i64 (m)) := (hcw3 (w.heap.size + 1 + 1) (0) (by first | omega | (simp only [World.size_alloc, World.size_drew, World.size_setCell, size_drewN]; omega))).trans (by first | assumption | (simp [go_sem, *]; done)); have cc3_1 : w3.cell? ⟨w.heap.size + 1 + 1, 1, none⟩ = some (.int .i64 (k)) := (hcw3 (w.heap.size + 1 + 1) (1) (by first | omega | (simp only [World.size_alloc, World.size_drew, World.size_setCell, size_drewN]; omega))).trans (by first | assumption | (simp [go_sem, *]; done)); have oc3 : w.heap.size + 1 + 1 < w3.heap.size := (by omega)
  clear cc2_0 cc2_1
  refine hKq.out _ _ ?_ (fun hH3 => ?_)
  · (first | assumption | (refine ⟨?_, ?_, ?_, ?_⟩ <;> assumption) | (go_keep; done) | (simp [*, go_sem]; done))
  clear hKq Kq
  clear hH2
  refine wpAnyH_ready (rs := [4]) (by kernel_rfl) (by simp) ?_
  refine AllReadyH.cons rfl (fun Kq hKq => ?_) AllReadyH.nil
  go_simp
  refine hKq.out _ _ ?_ (fun hH4 => ?_)
  · (first | assumption | (refine ⟨?_, ?_, ?_, ?_⟩ <;> assumption) | (go_keep; done) | (simp [*, go_sem]; done))
  clear hKq Kq
  clear hH3
  refine wpAnyH_ready (rs := [5]) (by kernel_rfl) (by simp) ?_
  refine AllReadyH.cons rfl (fun Kq hKq => ?_) AllReadyH.nil
  go_simp
  apply Calls.mono
  focus ((apply rfirst2 <;> exact cell_fresh _ _ _ _ _ _ (by first | rfl | simp) rfl); done)
  (rw [HF.out]; rintro e w' ⟨rfl, rfl⟩)
  refine hKq.out _ _ ?_ (fun hH5 => ?_)
  · (first | assumption | (refine ⟨?_, ?_, ?_, ?_⟩ <;> assumption) | (go_keep; done) | (simp [*, go_sem]; done))
  clear hKq Kq
  clear hH4
  refine wpAnyH_pure (i := 6) (v := ?_) rfl (by kernel_rfl) (by kernel_rfl) (by kernel_rfl) (fun _ _ _ h => h) (by rfl) (by assumption) ?_ ?_
  rotate_left
  · (intro w hSw; (try dsimp only at hSw); go_simp; (try with_reducible rfl))
  simp only [Act.put, List.getElem_toArray, List.getElem_cons_succ, List.getElem_cons_zero, List.setIfInBounds_toArray, List.set_cons_zero, List.set_cons_succ]
  refine wpAnyH_done (by kernel_rfl) ?_ _
  go_wp2_with fail; (refine (K4.out _).mono ?_; rintro e w4 ⟨rfl, hw4⟩; obtain ⟨hcw4, hfw4, hlw4, hmw4, hnw4⟩ := bcell3 hw4; have hzw4 := hw4.size; (try simp only [World.size_alloc, World.size_setCell, World.size_drew, size_drewN] at hzw4))
  go_wp2
  go_ret2
  exact ⟨rfl, by (repeat' (first | (with_reducible exact Below.refl _ _) | (with_reducible assumption) | (with_reducible refine Below.alloc ?_ ?_ _) | (with_reducible refine Below.drew ?_) | (with_reducible refine below_drewN ?_ _) | (with_reducible refine Below.setCell ?_ ?_ _) | (with_reducible refine below_step (by with_reducible assumption) ?_ ?_) | (with_reducible exact Below.size (by with_reducible assumption)) | go_size))⟩
set_option maxRecDepth 100000 in
set_option maxHeartbeats 2000000 in
theorem rsteep_ok (a b n d m k : Int) (w : World) (hn : in64 n ∧ in64 d ∧ in64 m ∧ in64 k) (h : lmE n d m k = 0) (hd : dE a b = 0) (ho : ¬ m * d < n * k) :
    Calls Try.prog 73 #[.agg #[.int .i64 a, .int .i64 b], .agg #[.int .i64 n, .int .i64 d], .agg #[.int .i64 m, .int .i64 k]] w fun e w' => e = .returned (.tuple #[.bool (decide (n * b ≤ siz a * d) && decide (siz a * k ≤ m * b)), .int .i64 0]) ∧ Below w.heap.size w w' := by
  have K2 := Lib.hid (fun W => limitErr_any n d W hn.1 hn.2.1)
  have K3 := Lib.hid (fun W => limitErr_any m k W hn.2.2.1 hn.2.2.2)
  obtain ⟨z2, z3⟩ := lmE_zero.1 h
  have b1 := dE_bd hd
  have b2 := fE_bd z2
  have b3 := fE_bd z3
  have bs : 0 ≤ siz a ∧ siz a ≤ 1000 := by unfold siz; split <;> (try rw [IntWalk.wrap64_in _ (by omega)]) <;> omega
  have c0 : cmpV (n * k) (m * d) ≤ 0 := by unfold cmpV; rw [if_neg ho]; split <;> omega
  have K4 := Lib.hid (fun W => bcmp_any n d m k W (by omega) (by omega))
  have S := Lib.hid (fun W => bsize_any a W (by omega))
  have hf : frst [fE n d, fE m k] = 0 := h
  have p1 := prod_bd (a := n) (b := b) (A := 1000000000) (B := 1000) (by omega) (by omega) (by omega) (by omega)
  have p2 := prod_bd (a := siz a) (b := d) (A := 1000) (B := 1000000000) (by omega) (by omega) (by omega) (by omega)
  have p3 := prod_bd (a := siz a) (b := k) (A := 1000) (B := 1000000000) (by omega) (by omega) (by omega) (by omega)
  have p4 := prod_bd (a := m) (b := b) (A := 1000000000) (B := 1000) (by omega) (by omega) (by omega) (by omega)
  have q1 : IntKind.i64.wrap (n * b) = n * b := IntWalk.i64_in _ (by omega)
  have q2 : IntKind.i64.wrap (siz a * d) = siz a * d := IntWalk.i64_in _ (by omega)
  have q3 : IntKind.i64.wrap (siz a * k) = siz a * k := IntWalk.i64_in _ (by omega)
  have q4 : IntKind.i64.wrap (m * b) = m * b := IntWalk.i64_in _ (by omega)
  clear hn h ho z2 z3 b1 b2 b3 bs hd
  generalize siz a = s at *
  generalize fE n d = e2 at *
  generalize fE m k = e3 at *
  generalize cmpV (n * k) (m * d) = cc at *
  have HF := Lib.hid hf
  clear hf
  have start : (n * b ≤ s * d ∧ (decide (n * b ≤ s * d) && decide (s * k ≤ m * b)) = decide (s * k ≤ m * b)) ∨ (¬ n * b ≤ s * d ∧ (decide (n * b ≤ s * d) && decide (s * k ≤ m * b)) = false) := by
    by_cases c1 : n * b ≤ s * d
    · exact .inl ⟨c1, by rw [decide_eq_true c1]; rfl⟩
    · exact .inr ⟨c1, by rw [decide_eq_false c1]; rfl⟩
  rcases start with ⟨c1, hr⟩ | ⟨c1, hr⟩
  all_goals
    have HR := Lib.hid hr
    clear hr
    go_enter Try.func73, Try.ntmps73
    go_wp2
    refine wp_region_held_drew (S := fun w' => w'.cell? ⟨w.heap.size, 0, none⟩ = some (.int .i64 (a)) ∧ w'.cell? ⟨w.heap.size, 1, none⟩ = some (.int .i64 (b)) ∧ w'.cell? ⟨w.heap.size + 1, 0, none⟩ = some (.int .i64 (n)) ∧ w'.cell? ⟨w.heap.size + 1, 1, none⟩ = some (.int .i64 (d)) ∧ w'.cell? ⟨w.heap.size + 1 + 1, 0, none⟩ = some (.int .i64 (m)) ∧ w'.cell? ⟨w.heap.size + 1 + 1, 1, none⟩ = some (.int .i64 (k))) (by kernel_rfl) ?_ (fun hH1 => ?_)
    · (first | assumption | (refine ⟨?_, ?_, ?_, ?_, ?_, ?_⟩ <;> assumption) | (go_keep; done) | (simp [*, go_sem]; done))
    refine wpAnyH_pure (i := 0) (v := ?_) rfl (by kernel_rfl) (by kernel_rfl) (by kernel_rfl) (fun _ _ _ h => h) (by rfl) (by assumption) ?_ ?_
    rotate_left
    · (intro w hSw; (try dsimp only at hSw); go_simp; (try with_reducible rfl))
    simp only [Act.put, List.getElem_toArray, List.getElem_cons_succ, List.getElem_cons_zero, List.setIfInBounds_toArray, List.set_cons_zero, List.set_cons_succ]
    refine wpAnyH_pure (i := 2) (v := ?_) rfl (by kernel_rfl) (by kernel_rfl) (by kernel_rfl) (fun _ _ _ h => h) (by rfl) (by assumption) ?_ ?_
    rotate_left
    · (intro w hSw; (try dsimp only at hSw); go_simp; (try with_reducible rfl))
    simp only [Act.put, List.getElem_toArray, List.getElem_cons_succ, List.getElem_cons_zero, List.setIfInBounds_toArray, List.set_cons_zero, List.set_cons_succ]
    refine wpAnyH_ready (rs := [1]) (by kernel_rfl) (by simp) ?_
    refine AllReadyH.cons rfl (fun Kq hKq => ?_) AllReadyH.nil
    go_simp
    refine (K2.out _).mono ?_
    (rintro e w2 ⟨rfl, hw2⟩)
    obtain ⟨hcw2, hfw2, hlw2, hmw2, hnw2⟩ := bcell3 hw2
    have hzw2 := hw2.size
    (try simp only [World.size_alloc, World.size_setCell, World.size_drew, size_drewN] at hzw2)
    have ca2_0 : w2.cell? ⟨w.heap.size, 0, none⟩ = some (.int .i64 (a)) := (hcw2 (w.heap.size) (0) (by first | omega | (simp only [World.size_alloc, World.size_drew, World.size_setCell, size_drewN]; omega))).trans (by first | assumption | (simp [go_sem, *]; done)); have ca2_1 : w2.cell? ⟨w.heap.size, 1, none⟩ = some (.int .i64 (b)) := (hcw2 (w.heap.size) (1) (by first | omega | (simp only [World.size_alloc, World.size_drew, World.size_setCell, size_drewN]; omega))).trans (by first | assumption | (simp [go_sem, *]; done)); have oa2 : w.heap.size < w2.heap.size := (by omega)
    have cb2_0 : w2.cell? ⟨w.heap.size + 1, 0, none⟩ = some (.int .i64 (n)) := (hcw2 (w.heap.size + 1) (0) (by first | omega | (simp only [World.size_alloc, World.size_drew, World.size_setCell, size_drewN]; omega))).trans (by first | assumption | (simp [go_sem, *]; done)); have cb2_1 : w2.cell? ⟨w.heap.size + 1, 1, none⟩ = some (.int .i64 (d)) := (hcw2 (w.heap.size + 1) (1) (by first | omega | (simp only [World.size_alloc, World.size_drew, World.size_setCell, size_drewN]; omega))).trans (by first | assumption | (simp [go_sem, *]; done)); have ob2 : w.heap.size + 1 < w2.heap.size := (by omega)
    have cc2_0 : w2.cell? ⟨w.heap.size + 1 + 1, 0, none⟩ = some (.int .i64 (m)) := (hcw2 (w.heap.size + 1 + 1) (0) (by first | omega | (simp only [World.size_alloc, World.size_drew, World.size_setCell, size_drewN]; omega))).trans (by first | assumption | (simp [go_sem, *]; done)); have cc2_1 : w2.cell? ⟨w.heap.size + 1 + 1, 1, none⟩ = some (.int .i64 (k)) := (hcw2 (w.heap.size + 1 + 1) (1) (by first | omega | (simp only [World.size_alloc, World.size_drew, World.size_setCell, size_drewN]; omega))).trans (by first | assumption | (simp [go_sem, *]; done)); have oc2 : w.heap.size + 1 + 1 < w2.heap.size := (by omega)
    refine hKq.out _ _ ?_ (fun hH2 => ?_)
    · (first | assumption | (refine ⟨?_, ?_, ?_, ?_, ?_, ?_⟩ <;> assumption) | (go_keep; done) | (simp [*, go_sem]; done))
    clear hKq Kq
    clear hH1
    refine wpAnyH_ready (rs := [3]) (by kernel_rfl) (by simp) ?_
    refine AllReadyH.cons rfl (fun Kq hKq => ?_) AllReadyH.nil
    go_simp
    refine (K3.out _).mono ?_
    (rintro e w3 ⟨rfl, hw3⟩)
    obtain ⟨hcw3, hfw3, hlw3, hmw3, hnw3⟩ := bcell3 hw3
    have hzw3 := hw3.size
    (try simp only [World.size_alloc, World.size_setCell, World.size_drew, size_drewN] at hzw3)
    have ca3_0 : w3.cell? ⟨w.heap.size, 0, none⟩ = some (.int .i64 (a)) := (hcw3 (w.heap.size) (0) (by first | omega | (simp only [World.size_alloc, World.size_drew, World.size_setCell, size_drewN]; omega))).trans (by first | assumption | (simp [go_sem, *]; done)); have ca3_1 : w3.cell? ⟨w.heap.size, 1, none⟩ = some (.int .i64 (b)) := (hcw3 (w.heap.size) (1) (by first | omega | (simp only [World.size_alloc, World.size_drew, World.size_setCell, size_drewN]; omega))).trans (by first | assumption | (simp [go_sem, *]; done)); have oa3 : w.heap.size < w3.heap.size := (by omega)
    clear ca2_0 ca2_1
    have cb3_0 : w3.cell? ⟨w.heap.size + 1, 0, none⟩ = some (.int .i64 (n)) := (hcw3 (w.heap.size + 1) (0) (by first | omega | (simp only [World.size_alloc, World.size_drew, World.size_setCell, size_drewN]; omega))).trans (by first | assumption | (simp [go_sem, *]; done)); have cb3_1 : w3.cell? ⟨w.heap.size + 1, 1, none⟩ = some (.int .i64 (d)) := (hcw3 (w.heap.size + 1) (1) (by first | omega | (simp only [World.size_alloc, World.size_drew, World.size_setCell, size_drewN]; omega))).trans (by first | assumption | (simp [go_sem, *]; done)); have ob3 : w.heap.size + 1 < w3.heap.size := (by omega)
    clear cb2_0 cb2_1
    have cc3_0 : w3.cell? ⟨w.heap.size + 1 + 1, 0, none⟩ = some (.int .i64 (m)) := (hcw3 (w.heap.size + 1 + 1) (0) (by first | omega | (simp only [World.size_alloc, World.size_drew, World.size_setCell, size_drewN]; omega))).trans (by first | assumption | (simp [go_sem, *]; done)); have cc3_1 : w3.cell? ⟨w.heap.size + 1 + 1, 1, none⟩ = some (.int .i64 (k)) := (hcw3 (w.heap.size + 1 + 1) (1) (by first | omega | (simp only [World.size_alloc, World.size_drew, World.size_setCell, size_drewN]; omega))).trans (by first | assumption | (simp [go_sem, *]; done)); have oc3 : w.heap.size + 1 + 1 < w3.heap.size := (by omega)
    clear cc2_0 cc2_1
    refine hKq.out _ _ ?_ (fun hH3 => ?_)
    · (first | assumption | (refine ⟨?_, ?_, ?_, ?_, ?_, ?_⟩ <;> assumption) | (go_keep; done) | (simp [*, go_sem]; done))
    clear hKq Kq
    clear hH2
    refine wpAnyH_ready (rs := [4]) (by kernel_rfl) (by simp) ?_
    refine AllReadyH.cons rfl (fun Kq hKq => ?_) AllReadyH.nil
    go_simp
    refine hKq.out _ _ ?_ (fun hH4 => ?_)
    · (first | assumption | (refine ⟨?_, ?_, ?_, ?_, ?_, ?_⟩ <;> assumption) | (go_keep; done) | (simp [*, go_sem]; done))
    clear hKq Kq
    clear hH3
    refine wpAnyH_ready (rs := [5]) (by kernel_rfl) (by simp) ?_
    refine AllReadyH.cons rfl (fun Kq hKq => ?_) AllReadyH.nil
    go_simp
    apply Calls.mono
    focus ((apply rfirst2 <;> exact cell_fresh _ _ _ _ _ _ (by first | rfl | simp) rfl); done)
    (rw [HF.out]; rintro e w' ⟨rfl, rfl⟩)
    refine hKq.out _ _ ?_ (fun hH5 => ?_)
    · (first | assumption | (refine ⟨?_, ?_, ?_, ?_, ?_, ?_⟩ <;> assumption) | (go_keep; done) | (simp [*, go_sem]; done))
    clear hKq Kq
    clear hH4
    refine wpAnyH_pure (i := 6) (v := ?_) rfl (by kernel_rfl) (by kernel_rfl) (by kernel_rfl) (fun _ _ _ h => h) (by rfl) (by assumption) ?_ ?_
    rotate_left
    · (intro w hSw; (try dsimp only at hSw); go_simp; (try with_reducible rfl))
    simp only [Act.put, List.getElem_toArray, List.getElem_cons_succ, List.getElem_cons_zero, List.setIfInBounds_toArray, List.set_cons_zero, List.set_cons_succ]
    refine wpAnyH_done (by kernel_rfl) ?_ _
    go_wp2_with fail; (refine (K4.out _).mono ?_; rintro e w4 ⟨rfl, hw4⟩; obtain ⟨hcw4, hfw4, hlw4, hmw4, hnw4⟩ := bcell3 hw4; have hzw4 := hw4.size; (try simp only [World.size_alloc, World.size_setCell, World.size_drew, size_drewN] at hzw4))
    have ca4_0 : w4.cell? ⟨w.heap.size, 0, none⟩ = some (.int .i64 (a)) := (hcw4 (w.heap.size) (0) (by first | omega | (simp only [World.size_alloc, World.size_drew, World.size_setCell, size_drewN]; omega))).trans (by first | assumption | (simp [go_sem, *]; done)); have ca4_1 : w4.cell? ⟨w.heap.size, 1, none⟩ = some (.int .i64 (b)) := (hcw4 (w.heap.size) (1) (by first | omega | (simp only [World.size_alloc, World.size_drew, World.size_setCell, size_drewN]; omega))).trans (by first | assumption | (simp [go_sem, *]; done)); have oa4 : w.heap.size < w4.heap.size := (by omega)
    clear ca3_0 ca3_1
    have cb4_0 : w4.cell? ⟨w.heap.size + 1, 0, none⟩ = some (.int .i64 (n)) := (hcw4 (w.heap.size + 1) (0) (by first | omega | (simp only [World.size_alloc, World.size_drew, World.size_setCell, size_drewN]; omega))).trans (by first | assumption | (simp [go_sem, *]; done)); have cb4_1 : w4.cell? ⟨w.heap.size + 1, 1, none⟩ = some (.int .i64 (d)) := (hcw4 (w.heap.size + 1) (1) (by first | omega | (simp only [World.size_alloc, World.size_drew, World.size_setCell, size_drewN]; omega))).trans (by first | assumption | (simp [go_sem, *]; done)); have ob4 : w.heap.size + 1 < w4.heap.size := (by omega)
    clear cb3_0 cb3_1
    have cc4_0 : w4.cell? ⟨w.heap.size + 1 + 1, 0, none⟩ = some (.int .i64 (m)) := (hcw4 (w.heap.size + 1 + 1) (0) (by first | omega | (simp only [World.size_alloc, World.size_drew, World.size_setCell, size_drewN]; omega))).trans (by first | assumption | (simp [go_sem, *]; done)); have cc4_1 : w4.cell? ⟨w.heap.size + 1 + 1, 1, none⟩ = some (.int .i64 (k)) := (hcw4 (w.heap.size + 1 + 1) (1) (by first | omega | (simp only [World.size_alloc, World.size_drew, World.size_setCell, size_drewN]; omega))).trans (by first | assumption | (simp [go_sem, *]; done)); have oc4 : w.heap.size + 1 + 1 < w4.heap.size := (by omega)
    clear cc3_0 cc3_1
    go_wp2_with (go_at_call 118; refine (S.out _).mono ?_; rintro e w' ⟨rfl, rfl⟩)
    go_ret2
    exact ⟨by rw [HR.out]; rfl, by (repeat' (first | (with_reducible exact Below.refl _ _) | (with_reducible assumption) | (with_reducible refine Below.alloc ?_ ?_ _) | (with_reducible refine Below.drew ?_) | (with_reducible refine below_drewN ?_ _) | (with_reducible refine Below.setCell ?_ ?_ _) | (with_reducible refine below_step (by with_reducible assumption) ?_ ?_) | (with_reducible exact Below.size (by with_reducible assumption)) | go_size))⟩
end Go.Proofs.Ytpphnnbijmoodaa
