/-
  THE TIME AT A PLACE, in the reference.
-/
import Derived.Test.YtpphnnbijmoodaaTimeAt
import Derived.Test.YtpphnnbijmoodaaReg
set_option linter.unusedVariables false
set_option linter.unusedSimpArgs false
namespace Go.Proofs.Ytpphnnbijmoodaa
open Go.RowKit

set_option maxRecDepth 100000 in
set_option maxHeartbeats 8000000 in
theorem rtimeAt_any (x : Cr) (t : Int) (w : World) (h : okC x) (ht : inC x t) :
    Calls Try.prog 33 #[.agg #[.int .i64 x.X1, .int .i64 x.H1, .int .i64 x.V1, .int .i64 x.X2, .int .i64 x.H2, .int .i64 x.V2], .int .i64 t] w fun e w' => e = .returned (.agg #[.int .i64 (tL x t), .int .i64 (tH x t)]) ∧ Below w.heap.size w w' := by
  obtain ⟨b1, b2, b3, b4⟩ := time_bd h ht
  obtain ⟨h1, h2, h3, h4, h5, h6⟩ := h
  unfold inC at ht
  obtain ⟨s0, s1, s2, s3, s4, s5, -, -⟩ := len_spec (x := t - x.X1) (z := x.H1) (by omega) (by omega)
  obtain ⟨r0, r1, r2, r3, r4, r5, -, -⟩ := len_spec (x := x.X2 - t) (z := x.H2) (by omega) (by omega)
  have K1 := Lib.hid (fun W => rlengthOf_any (t - x.X1) x.H1 W (by omega) (by omega))
  have K2 := Lib.hid (fun W => rlengthOf_any (x.X2 - t) x.H2 W (by omega) (by omega))
  have K3 := Lib.hid (fun W => lasting_any (lLo (t - x.X1) x.H1) (lHi (t - x.X1) x.H1) x.V1 W (by omega) (by omega) (by omega))
  have K4 := Lib.hid (fun W => lasting_any (lLo (x.X2 - t) x.H2) (lHi (x.X2 - t) x.H2) x.V2 W (by omega) (by omega) (by omega))
  have HL := Lib.hid (show tL x t = tdn (lLo (t - x.X1) x.H1) x.V1 + tdn (lLo (x.X2 - t) x.H2) x.V2 from rfl)
  have HH := Lib.hid (show tH x t = tup (lHi (t - x.X1) x.H1) x.V1 + tup (lHi (x.X2 - t) x.H2) x.V2 from rfl)
  have wr1 : IntKind.i64.wrap (t - x.X1) = t - x.X1 := IntWalk.i64_in _ (by omega)
  have wr2 : IntKind.i64.wrap (x.X2 - t) = x.X2 - t := IntWalk.i64_in _ (by omega)
  generalize tdn (lLo (t - x.X1) x.H1) x.V1 = p1 at *
  generalize tdn (lLo (x.X2 - t) x.H2) x.V2 = p2 at *
  generalize tup (lHi (t - x.X1) x.H1) x.V1 = q1 at *
  generalize tup (lHi (x.X2 - t) x.H2) x.V2 = q2 at *
  generalize lLo (t - x.X1) x.H1 = l1 at *
  generalize lLo (x.X2 - t) x.H2 = l2 at *
  generalize lHi (t - x.X1) x.H1 = m1 at *
  generalize lHi (x.X2 - t) x.H2 = m2 at *
  clear s0 s1 s2 s3 s4 s5 r0 r1 r2 r3 r4 r5 h1 h2 h3 h4 h5 h6 ht
  go_enter Try.func33, Try.ntmps33
  go_wp2
  refine wp_region_held_drew (S := fun w' => w'.cell? ⟨w.heap.size, 0, none⟩ = some (.int .i64 (x.X1)) ∧ w'.cell? ⟨w.heap.size, 1, none⟩ = some (.int .i64 (x.H1)) ∧ w'.cell? ⟨w.heap.size, 2, none⟩ = some (.int .i64 (x.V1)) ∧ w'.cell? ⟨w.heap.size, 3, none⟩ = some (.int .i64 (x.X2)) ∧ w'.cell? ⟨w.heap.size, 4, none⟩ = some (.int .i64 (x.H2)) ∧ w'.cell? ⟨w.heap.size, 5, none⟩ = some (.int .i64 (x.V2)) ∧ w'.cell? ⟨w.heap.size + 1, 0, none⟩ = some (.int .i64 (0)) ∧ w'.cell? ⟨w.heap.size + 1, 1, none⟩ = some (.int .i64 (0)) ∧ w'.frozen? ⟨w.heap.size + 1, 0, none⟩ = false ∧ w'.frozen? ⟨w.heap.size + 1, 1, none⟩ = false) (by kernel_rfl) ?_ (fun hH1 => ?_)
  · (first | (go_keep; done) | (simp [*, go_sem]; done))
  refine wpAnyH_pure (i := 0) (v := ?_) rfl (by kernel_rfl) (by kernel_rfl) (by kernel_rfl) (fun _ _ _ h => h) (by rfl) (by assumption) ?_ ?_
  rotate_left
  · (intro w hSw; (try dsimp only at hSw); go_simp; (try with_reducible rfl))
  simp only [Act.put, List.getElem_toArray, List.getElem_cons_succ, List.getElem_cons_zero, List.setIfInBounds_toArray, List.set_cons_zero, List.set_cons_succ]
  refine wpAnyH_pure (i := 1) (v := ?_) rfl (by kernel_rfl) (by kernel_rfl) (by kernel_rfl) (fun _ _ _ h => h) (by rfl) (by assumption) ?_ ?_
  rotate_left
  · (intro w hSw; (try dsimp only at hSw); go_simp; (try with_reducible rfl))
  simp only [Act.put, List.getElem_toArray, List.getElem_cons_succ, List.getElem_cons_zero, List.setIfInBounds_toArray, List.set_cons_zero, List.set_cons_succ]
  refine wpAnyH_pure (i := 2) (v := ?_) rfl (by kernel_rfl) (by kernel_rfl) (by kernel_rfl) (fun _ _ _ h => h) (by rfl) (by assumption) ?_ ?_
  rotate_left
  · (intro w hSw; (try dsimp only at hSw); go_simp; (try with_reducible rfl))
  simp only [Act.put, List.getElem_toArray, List.getElem_cons_succ, List.getElem_cons_zero, List.setIfInBounds_toArray, List.set_cons_zero, List.set_cons_succ]
  refine wpAnyH_pure (i := 3) (v := ?_) rfl (by kernel_rfl) (by kernel_rfl) (by kernel_rfl) (fun _ _ _ h => h) (by rfl) (by assumption) ?_ ?_
  rotate_left
  · (intro w hSw; (try dsimp only at hSw); go_simp; (try with_reducible rfl))
  simp only [Act.put, List.getElem_toArray, List.getElem_cons_succ, List.getElem_cons_zero, List.setIfInBounds_toArray, List.set_cons_zero, List.set_cons_succ]
  refine wpAnyH_pure (i := 4) (v := ?_) rfl (by kernel_rfl) (by kernel_rfl) (by kernel_rfl) (fun _ _ _ h => h) (by rfl) (by assumption) ?_ ?_
  rotate_left
  · (intro w hSw; (try dsimp only at hSw); go_simp; (try with_reducible rfl))
  simp only [Act.put, List.getElem_toArray, List.getElem_cons_succ, List.getElem_cons_zero, List.setIfInBounds_toArray, List.set_cons_zero, List.set_cons_succ]
  refine wpAnyH_pure (i := 5) (v := ?_) rfl (by kernel_rfl) (by kernel_rfl) (by kernel_rfl) (fun _ _ _ h => h) (by rfl) (by assumption) ?_ ?_
  rotate_left
  · (intro w hSw; (try dsimp only at hSw); go_simp; (try with_reducible rfl))
  simp only [Act.put, List.getElem_toArray, List.getElem_cons_succ, List.getElem_cons_zero, List.setIfInBounds_toArray, List.set_cons_zero, List.set_cons_succ]
  refine wpAnyH_pure (i := 7) (v := ?_) rfl (by kernel_rfl) (by kernel_rfl) (by kernel_rfl) (fun _ _ _ h => h) (by rfl) (by assumption) ?_ ?_
  rotate_left
  · (intro w hSw; (try dsimp only at hSw); go_simp; (try with_reducible rfl))
  simp only [Act.put, List.getElem_toArray, List.getElem_cons_succ, List.getElem_cons_zero, List.setIfInBounds_toArray, List.set_cons_zero, List.set_cons_succ]
  refine wpAnyH_pure (i := 8) (v := ?_) rfl (by kernel_rfl) (by kernel_rfl) (by kernel_rfl) (fun _ _ _ h => h) (by rfl) (by assumption) ?_ ?_
  rotate_left
  · (intro w hSw; (try dsimp only at hSw); go_simp; (try with_reducible rfl))
  simp only [Act.put, List.getElem_toArray, List.getElem_cons_succ, List.getElem_cons_zero, List.setIfInBounds_toArray, List.set_cons_zero, List.set_cons_succ]
  refine wpAnyH_pure (i := 10) (v := ?_) rfl (by kernel_rfl) (by kernel_rfl) (by kernel_rfl) (fun _ _ _ h => h) (by rfl) (by assumption) ?_ ?_
  rotate_left
  · (intro w hSw; (try dsimp only at hSw); go_simp; (try with_reducible rfl))
  simp only [Act.put, List.getElem_toArray, List.getElem_cons_succ, List.getElem_cons_zero, List.setIfInBounds_toArray, List.set_cons_zero, List.set_cons_succ]
  refine wpAnyH_pure (i := 11) (v := ?_) rfl (by kernel_rfl) (by kernel_rfl) (by kernel_rfl) (fun _ _ _ h => h) (by rfl) (by assumption) ?_ ?_
  rotate_left
  · (intro w hSw; (try dsimp only at hSw); go_simp; (try with_reducible rfl))
  simp only [Act.put, List.getElem_toArray, List.getElem_cons_succ, List.getElem_cons_zero, List.setIfInBounds_toArray, List.set_cons_zero, List.set_cons_succ]
  refine wpAnyH_pure (i := 12) (v := ?_) rfl (by kernel_rfl) (by kernel_rfl) (by kernel_rfl) (fun _ _ _ h => h) (by rfl) (by assumption) ?_ ?_
  rotate_left
  · (intro w hSw; (try dsimp only at hSw); go_simp; (try with_reducible rfl))
  simp only [Act.put, List.getElem_toArray, List.getElem_cons_succ, List.getElem_cons_zero, List.setIfInBounds_toArray, List.set_cons_zero, List.set_cons_succ]
  refine wpAnyH_pure (i := 13) (v := ?_) rfl (by kernel_rfl) (by kernel_rfl) (by kernel_rfl) (fun _ _ _ h => h) (by rfl) (by assumption) ?_ ?_
  rotate_left
  · (intro w hSw; (try dsimp only at hSw); go_simp; (try with_reducible rfl))
  simp only [Act.put, List.getElem_toArray, List.getElem_cons_succ, List.getElem_cons_zero, List.setIfInBounds_toArray, List.set_cons_zero, List.set_cons_succ]
  refine wpAnyH_pure (i := 14) (v := ?_) rfl (by kernel_rfl) (by kernel_rfl) (by kernel_rfl) (fun _ _ _ h => h) (by rfl) (by assumption) ?_ ?_
  rotate_left
  · (intro w hSw; (try dsimp only at hSw); go_simp; (try with_reducible rfl))
  simp only [Act.put, List.getElem_toArray, List.getElem_cons_succ, List.getElem_cons_zero, List.setIfInBounds_toArray, List.set_cons_zero, List.set_cons_succ]
  refine wpAnyH_pure (i := 15) (v := ?_) rfl (by kernel_rfl) (by kernel_rfl) (by kernel_rfl) (fun _ _ _ h => h) (by rfl) (by assumption) ?_ ?_
  rotate_left
  · (intro w hSw; (try dsimp only at hSw); go_simp; (try with_reducible rfl))
  simp only [Act.put, List.getElem_toArray, List.getElem_cons_succ, List.getElem_cons_zero, List.setIfInBounds_toArray, List.set_cons_zero, List.set_cons_succ]
  refine wpAnyH_pure (i := 17) (v := ?_) rfl (by kernel_rfl) (by kernel_rfl) (by kernel_rfl) (fun _ _ _ h => h) (by rfl) (by assumption) ?_ ?_
  rotate_left
  · (intro w hSw; (try dsimp only at hSw); go_simp; (try with_reducible rfl))
  simp only [Act.put, List.getElem_toArray, List.getElem_cons_succ, List.getElem_cons_zero, List.setIfInBounds_toArray, List.set_cons_zero, List.set_cons_succ]
  refine wpAnyH_pure (i := 18) (v := ?_) rfl (by kernel_rfl) (by kernel_rfl) (by kernel_rfl) (fun _ _ _ h => h) (by rfl) (by assumption) ?_ ?_
  rotate_left
  · (intro w hSw; (try dsimp only at hSw); go_simp; (try with_reducible rfl))
  simp only [Act.put, List.getElem_toArray, List.getElem_cons_succ, List.getElem_cons_zero, List.setIfInBounds_toArray, List.set_cons_zero, List.set_cons_succ]
  refine wpAnyH_dag0 (fun a0 l0 l a W => ((W.cell? ⟨w.heap.size, 0, none⟩ = some (.int .i64 (x.X1)) ∧ W.cell? ⟨w.heap.size, 1, none⟩ = some (.int .i64 (x.H1)) ∧ W.cell? ⟨w.heap.size, 2, none⟩ = some (.int .i64 (x.V1)) ∧ W.cell? ⟨w.heap.size, 3, none⟩ = some (.int .i64 (x.X2)) ∧ W.cell? ⟨w.heap.size, 4, none⟩ = some (.int .i64 (x.H2)) ∧ W.cell? ⟨w.heap.size, 5, none⟩ = some (.int .i64 (x.V2)) ∧ W.cell? ⟨w.heap.size + 1, 0, none⟩ = some (.int .i64 (0)) ∧ W.cell? ⟨w.heap.size + 1, 1, none⟩ = some (.int .i64 (0)) ∧ W.frozen? ⟨w.heap.size + 1, 0, none⟩ = false ∧ W.frozen? ⟨w.heap.size + 1, 1, none⟩ = false) ∧ Below w.heap.size w W ∧ (w.heap.size + 1 + 1) ≤ W.heap.size) ∧ (((l = l0) ∧ (a = a0)) ∨ ((l = (l0.setIfInBounds 6 true)) ∧ (a = (a0.put (some 13) (.agg #[.int .i64 l1, .int .i64 m1])))) ∨ (∃ n5 : Nat, (l = (l0.setIfInBounds 20 true)) ∧ (a = (a0.put (some 5) (.pointer (some ⟨n5, 0, none⟩)))) ∧ (((w.heap.size + 1 + 1) ≤ n5 ∧ n5 < W.heap.size) ∧ W.cell? ⟨n5, 0, none⟩ = some (.int .i64 0) ∧ W.frozen? ⟨n5, 0, none⟩ = false ∧ W.cell? ⟨n5, 1, none⟩ = some (.int .i64 0) ∧ W.frozen? ⟨n5, 1, none⟩ = false)) ∨ (∃ n6 : Nat, (l = (l0.setIfInBounds 21 true)) ∧ (a = (a0.put (some 6) (.pointer (some ⟨n6, 0, none⟩)))) ∧ (((w.heap.size + 1 + 1) ≤ n6 ∧ n6 < W.heap.size) ∧ W.cell? ⟨n6, 0, none⟩ = some (.int .i64 0) ∧ W.frozen? ⟨n6, 0, none⟩ = false ∧ W.cell? ⟨n6, 1, none⟩ = some (.int .i64 0) ∧ W.frozen? ⟨n6, 1, none⟩ = false)) ∨ ((l = ((l0.setIfInBounds 6 true).setIfInBounds 9 true)) ∧ (a = ((a0.put (some 13) (.agg #[.int .i64 l1, .int .i64 m1])).put (some 16) (.agg #[.int .i64 p1, .int .i64 q1])))) ∨ (∃ n5 : Nat, (l = ((l0.setIfInBounds 6 true).setIfInBounds 20 true)) ∧ (a = ((a0.put (some 13) (.agg #[.int .i64 l1, .int .i64 m1])).put (some 5) (.pointer (some ⟨n5, 0, none⟩)))) ∧ (((w.heap.size + 1 + 1) ≤ n5 ∧ n5 < W.heap.size) ∧ W.cell? ⟨n5, 0, none⟩ = some (.int .i64 0) ∧ W.frozen? ⟨n5, 0, none⟩ = false ∧ W.cell? ⟨n5, 1, none⟩ = some (.int .i64 0) ∧ W.frozen? ⟨n5, 1, none⟩ = false)) ∨ (∃ n6 : Nat, (l = ((l0.setIfInBounds 6 true).setIfInBounds 21 true)) ∧ (a = ((a0.put (some 13) (.agg #[.int .i64 l1, .int .i64 m1])).put (some 6) (.pointer (some ⟨n6, 0, none⟩)))) ∧ (((w.heap.size + 1 + 1) ≤ n6 ∧ n6 < W.heap.size) ∧ W.cell? ⟨n6, 0, none⟩ = some (.int .i64 0) ∧ W.frozen? ⟨n6, 0, none⟩ = false ∧ W.cell? ⟨n6, 1, none⟩ = some (.int .i64 0) ∧ W.frozen? ⟨n6, 1, none⟩ = false)) ∨ (∃ n5 n6 : Nat, (l = ((l0.setIfInBounds 20 true).setIfInBounds 21 true)) ∧ (a = ((a0.put (some 5) (.pointer (some ⟨n5, 0, none⟩))).put (some 6) (.pointer (some ⟨n6, 0, none⟩)))) ∧ (((w.heap.size + 1 + 1) ≤ n5 ∧ n5 < W.heap.size) ∧ W.cell? ⟨n5, 0, none⟩ = some (.int .i64 0) ∧ W.frozen? ⟨n5, 0, none⟩ = false ∧ W.cell? ⟨n5, 1, none⟩ = some (.int .i64 0) ∧ W.frozen? ⟨n5, 1, none⟩ = false) ∧ (((w.heap.size + 1 + 1) ≤ n6 ∧ n6 < W.heap.size) ∧ W.cell? ⟨n6, 0, none⟩ = some (.int .i64 0) ∧ W.frozen? ⟨n6, 0, none⟩ = false ∧ W.cell? ⟨n6, 1, none⟩ = some (.int .i64 0) ∧ W.frozen? ⟨n6, 1, none⟩ = false) ∧ (n5 ≠ n6)) ∨ ((l = (((l0.setIfInBounds 6 true).setIfInBounds 9 true).setIfInBounds 16 true)) ∧ (a = (((a0.put (some 13) (.agg #[.int .i64 l1, .int .i64 m1])).put (some 16) (.agg #[.int .i64 p1, .int .i64 q1])).put (some 23) (.agg #[.int .i64 l2, .int .i64 m2])))) ∨ (∃ n5 : Nat, (l = (((l0.setIfInBounds 6 true).setIfInBounds 9 true).setIfInBounds 20 true)) ∧ (a = (((a0.put (some 13) (.agg #[.int .i64 l1, .int .i64 m1])).put (some 16) (.agg #[.int .i64 p1, .int .i64 q1])).put (some 5) (.pointer (some ⟨n5, 0, none⟩)))) ∧ (((w.heap.size + 1 + 1) ≤ n5 ∧ n5 < W.heap.size) ∧ W.cell? ⟨n5, 0, none⟩ = some (.int .i64 0) ∧ W.frozen? ⟨n5, 0, none⟩ = false ∧ W.cell? ⟨n5, 1, none⟩ = some (.int .i64 0) ∧ W.frozen? ⟨n5, 1, none⟩ = false)) ∨ (∃ n6 : Nat, (l = (((l0.setIfInBounds 6 true).setIfInBounds 9 true).setIfInBounds 21 true)) ∧ (a = (((a0.put (some 13) (.agg #[.int .i64 l1, .int .i64 m1])).put (some 16) (.agg #[.int .i64 p1, .int .i64 q1])).put (some 6) (.pointer (some ⟨n6, 0, none⟩)))) ∧ (((w.heap.size + 1 + 1) ≤ n6 ∧ n6 < W.heap.size) ∧ W.cell? ⟨n6, 0, none⟩ = some (.int .i64 0) ∧ W.frozen? ⟨n6, 0, none⟩ = false ∧ W.cell? ⟨n6, 1, none⟩ = some (.int .i64 0) ∧ W.frozen? ⟨n6, 1, none⟩ = false)) ∨ (∃ n5 n6 : Nat, (l = (((l0.setIfInBounds 6 true).setIfInBounds 20 true).setIfInBounds 21 true)) ∧ (a = (((a0.put (some 13) (.agg #[.int .i64 l1, .int .i64 m1])).put (some 5) (.pointer (some ⟨n5, 0, none⟩))).put (some 6) (.pointer (some ⟨n6, 0, none⟩)))) ∧ (((w.heap.size + 1 + 1) ≤ n5 ∧ n5 < W.heap.size) ∧ W.cell? ⟨n5, 0, none⟩ = some (.int .i64 0) ∧ W.frozen? ⟨n5, 0, none⟩ = false ∧ W.cell? ⟨n5, 1, none⟩ = some (.int .i64 0) ∧ W.frozen? ⟨n5, 1, none⟩ = false) ∧ (((w.heap.size + 1 + 1) ≤ n6 ∧ n6 < W.heap.size) ∧ W.cell? ⟨n6, 0, none⟩ = some (.int .i64 0) ∧ W.frozen? ⟨n6, 0, none⟩ = false ∧ W.cell? ⟨n6, 1, none⟩ = some (.int .i64 0) ∧ W.frozen? ⟨n6, 1, none⟩ = false) ∧ (n5 ≠ n6)) ∨ ((l = ((((l0.setIfInBounds 6 true).setIfInBounds 9 true).setIfInBounds 16 true).setIfInBounds 19 true)) ∧ (a = ((((a0.put (some 13) (.agg #[.int .i64 l1, .int .i64 m1])).put (some 16) (.agg #[.int .i64 p1, .int .i64 q1])).put (some 23) (.agg #[.int .i64 l2, .int .i64 m2])).put (some 26) (.agg #[.int .i64 p2, .int .i64 q2])))) ∨ (∃ n5 : Nat, (l = ((((l0.setIfInBounds 6 true).setIfInBounds 9 true).setIfInBounds 16 true).setIfInBounds 20 true)) ∧ (a = ((((a0.put (some 13) (.agg #[.int .i64 l1, .int .i64 m1])).put (some 16) (.agg #[.int .i64 p1, .int .i64 q1])).put (some 23) (.agg #[.int .i64 l2, .int .i64 m2])).put (some 5) (.pointer (some ⟨n5, 0, none⟩)))) ∧ (((w.heap.size + 1 + 1) ≤ n5 ∧ n5 < W.heap.size) ∧ W.cell? ⟨n5, 0, none⟩ = some (.int .i64 0) ∧ W.frozen? ⟨n5, 0, none⟩ = false ∧ W.cell? ⟨n5, 1, none⟩ = some (.int .i64 0) ∧ W.frozen? ⟨n5, 1, none⟩ = false)) ∨ (∃ n6 : Nat, (l = ((((l0.setIfInBounds 6 true).setIfInBounds 9 true).setIfInBounds 16 true).setIfInBounds 21 true)) ∧ (a = ((((a0.put (some 13) (.agg #[.int .i64 l1, .int .i64 m1])).put (some 16) (.agg #[.int .i64 p1, .int .i64 q1])).put (some 23) (.agg #[.int .i64 l2, .int .i64 m2])).put (some 6) (.pointer (some ⟨n6, 0, none⟩)))) ∧ (((w.heap.size + 1 + 1) ≤ n6 ∧ n6 < W.heap.size) ∧ W.cell? ⟨n6, 0, none⟩ = some (.int .i64 0) ∧ W.frozen? ⟨n6, 0, none⟩ = false ∧ W.cell? ⟨n6, 1, none⟩ = some (.int .i64 0) ∧ W.frozen? ⟨n6, 1, none⟩ = false)) ∨ (∃ n5 n6 : Nat, (l = ((((l0.setIfInBounds 6 true).setIfInBounds 9 true).setIfInBounds 20 true).setIfInBounds 21 true)) ∧ (a = ((((a0.put (some 13) (.agg #[.int .i64 l1, .int .i64 m1])).put (some 16) (.agg #[.int .i64 p1, .int .i64 q1])).put (some 5) (.pointer (some ⟨n5, 0, none⟩))).put (some 6) (.pointer (some ⟨n6, 0, none⟩)))) ∧ (((w.heap.size + 1 + 1) ≤ n5 ∧ n5 < W.heap.size) ∧ W.cell? ⟨n5, 0, none⟩ = some (.int .i64 0) ∧ W.frozen? ⟨n5, 0, none⟩ = false ∧ W.cell? ⟨n5, 1, none⟩ = some (.int .i64 0) ∧ W.frozen? ⟨n5, 1, none⟩ = false) ∧ (((w.heap.size + 1 + 1) ≤ n6 ∧ n6 < W.heap.size) ∧ W.cell? ⟨n6, 0, none⟩ = some (.int .i64 0) ∧ W.frozen? ⟨n6, 0, none⟩ = false ∧ W.cell? ⟨n6, 1, none⟩ = some (.int .i64 0) ∧ W.frozen? ⟨n6, 1, none⟩ = false) ∧ (n5 ≠ n6)) ∨ (∃ n5 : Nat, (l = (((((l0.setIfInBounds 6 true).setIfInBounds 9 true).setIfInBounds 16 true).setIfInBounds 19 true).setIfInBounds 20 true)) ∧ (a = (((((a0.put (some 13) (.agg #[.int .i64 l1, .int .i64 m1])).put (some 16) (.agg #[.int .i64 p1, .int .i64 q1])).put (some 23) (.agg #[.int .i64 l2, .int .i64 m2])).put (some 26) (.agg #[.int .i64 p2, .int .i64 q2])).put (some 5) (.pointer (some ⟨n5, 0, none⟩)))) ∧ (((w.heap.size + 1 + 1) ≤ n5 ∧ n5 < W.heap.size) ∧ W.cell? ⟨n5, 0, none⟩ = some (.int .i64 0) ∧ W.frozen? ⟨n5, 0, none⟩ = false ∧ W.cell? ⟨n5, 1, none⟩ = some (.int .i64 0) ∧ W.frozen? ⟨n5, 1, none⟩ = false)) ∨ (∃ n6 : Nat, (l = (((((l0.setIfInBounds 6 true).setIfInBounds 9 true).setIfInBounds 16 true).setIfInBounds 19 true).setIfInBounds 21 true)) ∧ (a = (((((a0.put (some 13) (.agg #[.int .i64 l1, .int .i64 m1])).put (some 16) (.agg #[.int .i64 p1, .int .i64 q1])).put (some 23) (.agg #[.int .i64 l2, .int .i64 m2])).put (some 26) (.agg #[.int .i64 p2, .int .i64 q2])).put (some 6) (.pointer (some ⟨n6, 0, none⟩)))) ∧ (((w.heap.size + 1 + 1) ≤ n6 ∧ n6 < W.heap.size) ∧ W.cell? ⟨n6, 0, none⟩ = some (.int .i64 0) ∧ W.frozen? ⟨n6, 0, none⟩ = false ∧ W.cell? ⟨n6, 1, none⟩ = some (.int .i64 0) ∧ W.frozen? ⟨n6, 1, none⟩ = false)) ∨ (∃ n5 n6 : Nat, (l = (((((l0.setIfInBounds 6 true).setIfInBounds 9 true).setIfInBounds 16 true).setIfInBounds 20 true).setIfInBounds 21 true)) ∧ (a = (((((a0.put (some 13) (.agg #[.int .i64 l1, .int .i64 m1])).put (some 16) (.agg #[.int .i64 p1, .int .i64 q1])).put (some 23) (.agg #[.int .i64 l2, .int .i64 m2])).put (some 5) (.pointer (some ⟨n5, 0, none⟩))).put (some 6) (.pointer (some ⟨n6, 0, none⟩)))) ∧ (((w.heap.size + 1 + 1) ≤ n5 ∧ n5 < W.heap.size) ∧ W.cell? ⟨n5, 0, none⟩ = some (.int .i64 0) ∧ W.frozen? ⟨n5, 0, none⟩ = false ∧ W.cell? ⟨n5, 1, none⟩ = some (.int .i64 0) ∧ W.frozen? ⟨n5, 1, none⟩ = false) ∧ (((w.heap.size + 1 + 1) ≤ n6 ∧ n6 < W.heap.size) ∧ W.cell? ⟨n6, 0, none⟩ = some (.int .i64 0) ∧ W.frozen? ⟨n6, 0, none⟩ = false ∧ W.cell? ⟨n6, 1, none⟩ = some (.int .i64 0) ∧ W.frozen? ⟨n6, 1, none⟩ = false) ∧ (n5 ≠ n6)) ∨ (∃ n5 n6 : Nat, (l = ((((((l0.setIfInBounds 6 true).setIfInBounds 9 true).setIfInBounds 16 true).setIfInBounds 19 true).setIfInBounds 20 true).setIfInBounds 21 true)) ∧ (a = ((((((a0.put (some 13) (.agg #[.int .i64 l1, .int .i64 m1])).put (some 16) (.agg #[.int .i64 p1, .int .i64 q1])).put (some 23) (.agg #[.int .i64 l2, .int .i64 m2])).put (some 26) (.agg #[.int .i64 p2, .int .i64 q2])).put (some 5) (.pointer (some ⟨n5, 0, none⟩))).put (some 6) (.pointer (some ⟨n6, 0, none⟩)))) ∧ (((w.heap.size + 1 + 1) ≤ n5 ∧ n5 < W.heap.size) ∧ W.cell? ⟨n5, 0, none⟩ = some (.int .i64 0) ∧ W.frozen? ⟨n5, 0, none⟩ = false ∧ W.cell? ⟨n5, 1, none⟩ = some (.int .i64 0) ∧ W.frozen? ⟨n5, 1, none⟩ = false) ∧ (((w.heap.size + 1 + 1) ≤ n6 ∧ n6 < W.heap.size) ∧ W.cell? ⟨n6, 0, none⟩ = some (.int .i64 0) ∧ W.frozen? ⟨n6, 0, none⟩ = false ∧ W.cell? ⟨n6, 1, none⟩ = some (.int .i64 0) ∧ W.frozen? ⟨n6, 1, none⟩ = false) ∧ (n5 ≠ n6)))) (by rfl) ?_ ?_ ?_
  · exact ⟨⟨hH1, by (repeat' (first | (with_reducible exact Below.refl _ _) | (with_reducible assumption) | (with_reducible refine Below.alloc ?_ ?_ _) | (with_reducible refine Below.drew ?_) | (with_reducible refine below_drewN ?_ _) | (with_reducible refine Below.setCell ?_ ?_ _) | (with_reducible refine below_step (by with_reducible assumption) ?_ ?_) | (with_reducible exact Below.size (by with_reducible assumption)) | go_size)), by first | omega | (simp only [World.size_alloc, World.size_setCell, World.size_drew, size_drewN]; omega)⟩, (Or.inl ⟨rfl, rfl⟩)⟩
  · intro l a W hI; exact hI.1.1
  intro l a W hI
  obtain ⟨⟨hSW, hB, hZ⟩, hI⟩ := hI
  have hSW' := hSW
  obtain ⟨cS0, cS1, cS2, cS3, cS4, cS5, cS6, cS7, cS8, cS9⟩ := hSW
  rcases hI with ⟨rfl, rfl⟩ | ⟨rfl, rfl⟩ | ⟨n5, rfl, rfl, ⟨⟨zn5, yn5⟩, dn5_0, fn5_0, dn5_1, fn5_1⟩⟩ | ⟨n6, rfl, rfl, ⟨⟨zn6, yn6⟩, dn6_0, fn6_0, dn6_1, fn6_1⟩⟩ | ⟨rfl, rfl⟩ | ⟨n5, rfl, rfl, ⟨⟨zn5, yn5⟩, dn5_0, fn5_0, dn5_1, fn5_1⟩⟩ | ⟨n6, rfl, rfl, ⟨⟨zn6, yn6⟩, dn6_0, fn6_0, dn6_1, fn6_1⟩⟩ | ⟨n5, n6, rfl, rfl, ⟨⟨zn5, yn5⟩, dn5_0, fn5_0, dn5_1, fn5_1⟩, ⟨⟨zn6, yn6⟩, dn6_0, fn6_0, dn6_1, fn6_1⟩, hne0⟩ | ⟨rfl, rfl⟩ | ⟨n5, rfl, rfl, ⟨⟨zn5, yn5⟩, dn5_0, fn5_0, dn5_1, fn5_1⟩⟩ | ⟨n6, rfl, rfl, ⟨⟨zn6, yn6⟩, dn6_0, fn6_0, dn6_1, fn6_1⟩⟩ | ⟨n5, n6, rfl, rfl, ⟨⟨zn5, yn5⟩, dn5_0, fn5_0, dn5_1, fn5_1⟩, ⟨⟨zn6, yn6⟩, dn6_0, fn6_0, dn6_1, fn6_1⟩, hne0⟩ | ⟨rfl, rfl⟩ | ⟨n5, rfl, rfl, ⟨⟨zn5, yn5⟩, dn5_0, fn5_0, dn5_1, fn5_1⟩⟩ | ⟨n6, rfl, rfl, ⟨⟨zn6, yn6⟩, dn6_0, fn6_0, dn6_1, fn6_1⟩⟩ | ⟨n5, n6, rfl, rfl, ⟨⟨zn5, yn5⟩, dn5_0, fn5_0, dn5_1, fn5_1⟩, ⟨⟨zn6, yn6⟩, dn6_0, fn6_0, dn6_1, fn6_1⟩, hne0⟩ | ⟨n5, rfl, rfl, ⟨⟨zn5, yn5⟩, dn5_0, fn5_0, dn5_1, fn5_1⟩⟩ | ⟨n6, rfl, rfl, ⟨⟨zn6, yn6⟩, dn6_0, fn6_0, dn6_1, fn6_1⟩⟩ | ⟨n5, n6, rfl, rfl, ⟨⟨zn5, yn5⟩, dn5_0, fn5_0, dn5_1, fn5_1⟩, ⟨⟨zn6, yn6⟩, dn6_0, fn6_0, dn6_1, fn6_1⟩, hne0⟩ | ⟨n5, n6, rfl, rfl, ⟨⟨zn5, yn5⟩, dn5_0, fn5_0, dn5_1, fn5_1⟩, ⟨⟨zn6, yn6⟩, dn6_0, fn6_0, dn6_1, fn6_1⟩, hne0⟩
  · left
    refine ⟨[6, 20, 21], by kernel_rfl, by simp, ?_⟩
    simp only [Act.put, List.getElem_toArray, List.getElem_cons_succ, List.getElem_cons_zero, List.setIfInBounds_toArray, List.set_cons_zero, List.set_cons_succ]
    refine all_cons ?_ (all_cons ?_ (all_cons ?_ (all_nil)))
    · refine wpOp_step rfl (fun Kq hKq => ?_)
      go_simp
      refine (K1.out _).mono ?_
      rintro e W1 ⟨rfl, hw1⟩
      have hz1 := hw1.size
      have hc1 := (bcell hw1).1
      have hf1 := (bcell hw1).2
      refine hKq _ _ ?_
      exact ⟨⟨⟨(hc1 _ _ (by omega)).trans cS0, (hc1 _ _ (by omega)).trans cS1, (hc1 _ _ (by omega)).trans cS2, (hc1 _ _ (by omega)).trans cS3, (hc1 _ _ (by omega)).trans cS4, (hc1 _ _ (by omega)).trans cS5, (hc1 _ _ (by omega)).trans cS6, (hc1 _ _ (by omega)).trans cS7, (hf1 _ _ (by omega)).trans cS8, (hf1 _ _ (by omega)).trans cS9⟩, below_step hw1 hB (by have := hB.size; omega), by omega⟩, (Or.inr (Or.inl ⟨by rfl, by rfl⟩))⟩
    · refine wpOp_step rfl (fun Kq hKq => ?_)
      go_simp
      have hw1 : Below W.heap.size W (W.alloc (.cells #[.int .i64 0, .int .i64 0] 26)) := by (repeat' (first | (with_reducible exact Below.refl _ _) | (with_reducible assumption) | (with_reducible refine Below.alloc ?_ ?_ _) | (with_reducible refine Below.drew ?_) | (with_reducible refine below_drewN ?_ _) | (with_reducible refine Below.setCell ?_ ?_ _) | (with_reducible refine below_step (by with_reducible assumption) ?_ ?_) | (with_reducible exact Below.size (by with_reducible assumption)) | go_size))
      have hz1 : (W.alloc (.cells #[.int .i64 0, .int .i64 0] 26)).heap.size = W.heap.size + 1 := by simp
      have hc1 := (bcell hw1).1
      have hf1 := (bcell hw1).2
      refine hKq _ _ ?_
      exact ⟨⟨⟨(hc1 _ _ (by omega)).trans cS0, (hc1 _ _ (by omega)).trans cS1, (hc1 _ _ (by omega)).trans cS2, (hc1 _ _ (by omega)).trans cS3, (hc1 _ _ (by omega)).trans cS4, (hc1 _ _ (by omega)).trans cS5, (hc1 _ _ (by omega)).trans cS6, (hc1 _ _ (by omega)).trans cS7, (hf1 _ _ (by omega)).trans cS8, (hf1 _ _ (by omega)).trans cS9⟩, below_step hw1 hB (by have := hB.size; omega), by omega⟩, (Or.inr (Or.inr (Or.inl ⟨W.heap.size, by rfl, by rfl, ⟨⟨by omega, by omega⟩, by simp [go_sem], by simp [go_sem], by simp [go_sem], by simp [go_sem]⟩⟩)))⟩
    · refine wpOp_step rfl (fun Kq hKq => ?_)
      go_simp
      have hw1 : Below W.heap.size W (W.alloc (.cells #[.int .i64 0, .int .i64 0] 26)) := by (repeat' (first | (with_reducible exact Below.refl _ _) | (with_reducible assumption) | (with_reducible refine Below.alloc ?_ ?_ _) | (with_reducible refine Below.drew ?_) | (with_reducible refine below_drewN ?_ _) | (with_reducible refine Below.setCell ?_ ?_ _) | (with_reducible refine below_step (by with_reducible assumption) ?_ ?_) | (with_reducible exact Below.size (by with_reducible assumption)) | go_size))
      have hz1 : (W.alloc (.cells #[.int .i64 0, .int .i64 0] 26)).heap.size = W.heap.size + 1 := by simp
      have hc1 := (bcell hw1).1
      have hf1 := (bcell hw1).2
      refine hKq _ _ ?_
      exact ⟨⟨⟨(hc1 _ _ (by omega)).trans cS0, (hc1 _ _ (by omega)).trans cS1, (hc1 _ _ (by omega)).trans cS2, (hc1 _ _ (by omega)).trans cS3, (hc1 _ _ (by omega)).trans cS4, (hc1 _ _ (by omega)).trans cS5, (hc1 _ _ (by omega)).trans cS6, (hc1 _ _ (by omega)).trans cS7, (hf1 _ _ (by omega)).trans cS8, (hf1 _ _ (by omega)).trans cS9⟩, below_step hw1 hB (by have := hB.size; omega), by omega⟩, (Or.inr (Or.inr (Or.inr (Or.inl ⟨W.heap.size, by rfl, by rfl, ⟨⟨by omega, by omega⟩, by simp [go_sem], by simp [go_sem], by simp [go_sem], by simp [go_sem]⟩⟩))))⟩
  · left
    refine ⟨[9, 20, 21], by kernel_rfl, by simp, ?_⟩
    simp only [Act.put, List.getElem_toArray, List.getElem_cons_succ, List.getElem_cons_zero, List.setIfInBounds_toArray, List.set_cons_zero, List.set_cons_succ]
    refine all_cons ?_ (all_cons ?_ (all_cons ?_ (all_nil)))
    · refine wpOp_step rfl (fun Kq hKq => ?_)
      go_simp
      refine (K3.out _).mono ?_
      rintro e W1 ⟨rfl, hw1⟩
      have hz1 := hw1.size
      have hc1 := (bcell hw1).1
      have hf1 := (bcell hw1).2
      refine hKq _ _ ?_
      exact ⟨⟨⟨(hc1 _ _ (by omega)).trans cS0, (hc1 _ _ (by omega)).trans cS1, (hc1 _ _ (by omega)).trans cS2, (hc1 _ _ (by omega)).trans cS3, (hc1 _ _ (by omega)).trans cS4, (hc1 _ _ (by omega)).trans cS5, (hc1 _ _ (by omega)).trans cS6, (hc1 _ _ (by omega)).trans cS7, (hf1 _ _ (by omega)).trans cS8, (hf1 _ _ (by omega)).trans cS9⟩, below_step hw1 hB (by have := hB.size; omega), by omega⟩, (Or.inr (Or.inr (Or.inr (Or.inr (Or.inl ⟨by rfl, by rfl⟩)))))⟩
    · refine wpOp_step rfl (fun Kq hKq => ?_)
      go_simp
      have hw1 : Below W.heap.size W (W.alloc (.cells #[.int .i64 0, .int .i64 0] 26)) := by (repeat' (first | (with_reducible exact Below.refl _ _) | (with_reducible assumption) | (with_reducible refine Below.alloc ?_ ?_ _) | (with_reducible refine Below.drew ?_) | (with_reducible refine below_drewN ?_ _) | (with_reducible refine Below.setCell ?_ ?_ _) | (with_reducible refine below_step (by with_reducible assumption) ?_ ?_) | (with_reducible exact Below.size (by with_reducible assumption)) | go_size))
      have hz1 : (W.alloc (.cells #[.int .i64 0, .int .i64 0] 26)).heap.size = W.heap.size + 1 := by simp
      have hc1 := (bcell hw1).1
      have hf1 := (bcell hw1).2
      refine hKq _ _ ?_
      exact ⟨⟨⟨(hc1 _ _ (by omega)).trans cS0, (hc1 _ _ (by omega)).trans cS1, (hc1 _ _ (by omega)).trans cS2, (hc1 _ _ (by omega)).trans cS3, (hc1 _ _ (by omega)).trans cS4, (hc1 _ _ (by omega)).trans cS5, (hc1 _ _ (by omega)).trans cS6, (hc1 _ _ (by omega)).trans cS7, (hf1 _ _ (by omega)).trans cS8, (hf1 _ _ (by omega)).trans cS9⟩, below_step hw1 hB (by have := hB.size; omega), by omega⟩, (Or.inr (Or.inr (Or.inr (Or.inr (Or.inr (Or.inl ⟨W.heap.size, by rfl, by rfl, ⟨⟨by omega, by omega⟩, by simp [go_sem], by simp [go_sem], by simp [go_sem], by simp [go_sem]⟩⟩))))))⟩
    · refine wpOp_step rfl (fun Kq hKq => ?_)
      go_simp
      have hw1 : Below W.heap.size W (W.alloc (.cells #[.int .i64 0, .int .i64 0] 26)) := by (repeat' (first | (with_reducible exact Below.refl _ _) | (with_reducible assumption) | (with_reducible refine Below.alloc ?_ ?_ _) | (with_reducible refine Below.drew ?_) | (with_reducible refine below_drewN ?_ _) | (with_reducible refine Below.setCell ?_ ?_ _) | (with_reducible refine below_step (by with_reducible assumption) ?_ ?_) | (with_reducible exact Below.size (by with_reducible assumption)) | go_size))
      have hz1 : (W.alloc (.cells #[.int .i64 0, .int .i64 0] 26)).heap.size = W.heap.size + 1 := by simp
      have hc1 := (bcell hw1).1
      have hf1 := (bcell hw1).2
      refine hKq _ _ ?_
      exact ⟨⟨⟨(hc1 _ _ (by omega)).trans cS0, (hc1 _ _ (by omega)).trans cS1, (hc1 _ _ (by omega)).trans cS2, (hc1 _ _ (by omega)).trans cS3, (hc1 _ _ (by omega)).trans cS4, (hc1 _ _ (by omega)).trans cS5, (hc1 _ _ (by omega)).trans cS6, (hc1 _ _ (by omega)).trans cS7, (hf1 _ _ (by omega)).trans cS8, (hf1 _ _ (by omega)).trans cS9⟩, below_step hw1 hB (by have := hB.size; omega), by omega⟩, (Or.inr (Or.inr (Or.inr (Or.inr (Or.inr (Or.inr (Or.inl ⟨W.heap.size, by rfl, by rfl, ⟨⟨by omega, by omega⟩, by simp [go_sem], by simp [go_sem], by simp [go_sem], by simp [go_sem]⟩⟩)))))))⟩
  · left
    refine ⟨[6, 21], by kernel_rfl, by simp, ?_⟩
    simp only [Act.put, List.getElem_toArray, List.getElem_cons_succ, List.getElem_cons_zero, List.setIfInBounds_toArray, List.set_cons_zero, List.set_cons_succ]
    refine all_cons ?_ (all_cons ?_ (all_nil))
    · refine wpOp_step rfl (fun Kq hKq => ?_)
      go_simp
      refine (K1.out _).mono ?_
      rintro e W1 ⟨rfl, hw1⟩
      have hz1 := hw1.size
      have hc1 := (bcell hw1).1
      have hf1 := (bcell hw1).2
      refine hKq _ _ ?_
      exact ⟨⟨⟨(hc1 _ _ (by omega)).trans cS0, (hc1 _ _ (by omega)).trans cS1, (hc1 _ _ (by omega)).trans cS2, (hc1 _ _ (by omega)).trans cS3, (hc1 _ _ (by omega)).trans cS4, (hc1 _ _ (by omega)).trans cS5, (hc1 _ _ (by omega)).trans cS6, (hc1 _ _ (by omega)).trans cS7, (hf1 _ _ (by omega)).trans cS8, (hf1 _ _ (by omega)).trans cS9⟩, below_step hw1 hB (by have := hB.size; omega), by omega⟩, (Or.inr (Or.inr (Or.inr (Or.inr (Or.inr (Or.inl ⟨n5, by rfl, by rfl, ⟨⟨zn5, by omega⟩, (hc1 _ _ (by omega)).trans dn5_0, (hf1 _ _ (by omega)).trans fn5_0, (hc1 _ _ (by omega)).trans dn5_1, (hf1 _ _ (by omega)).trans fn5_1⟩⟩))))))⟩
    · refine wpOp_step rfl (fun Kq hKq => ?_)
      go_simp
      have hw1 : Below W.heap.size W (W.alloc (.cells #[.int .i64 0, .int .i64 0] 26)) := by (repeat' (first | (with_reducible exact Below.refl _ _) | (with_reducible assumption) | (with_reducible refine Below.alloc ?_ ?_ _) | (with_reducible refine Below.drew ?_) | (with_reducible refine below_drewN ?_ _) | (with_reducible refine Below.setCell ?_ ?_ _) | (with_reducible refine below_step (by with_reducible assumption) ?_ ?_) | (with_reducible exact Below.size (by with_reducible assumption)) | go_size))
      have hz1 : (W.alloc (.cells #[.int .i64 0, .int .i64 0] 26)).heap.size = W.heap.size + 1 := by simp
      have hc1 := (bcell hw1).1
      have hf1 := (bcell hw1).2
      refine hKq _ _ ?_
      exact ⟨⟨⟨(hc1 _ _ (by omega)).trans cS0, (hc1 _ _ (by omega)).trans cS1, (hc1 _ _ (by omega)).trans cS2, (hc1 _ _ (by omega)).trans cS3, (hc1 _ _ (by omega)).trans cS4, (hc1 _ _ (by omega)).trans cS5, (hc1 _ _ (by omega)).trans cS6, (hc1 _ _ (by omega)).trans cS7, (hf1 _ _ (by omega)).trans cS8, (hf1 _ _ (by omega)).trans cS9⟩, below_step hw1 hB (by have := hB.size; omega), by omega⟩, (Or.inr (Or.inr (Or.inr (Or.inr (Or.inr (Or.inr (Or.inr (Or.inl ⟨n5, W.heap.size, by rfl, by rfl, ⟨⟨zn5, by omega⟩, (hc1 _ _ (by omega)).trans dn5_0, (hf1 _ _ (by omega)).trans fn5_0, (hc1 _ _ (by omega)).trans dn5_1, (hf1 _ _ (by omega)).trans fn5_1⟩, ⟨⟨by omega, by omega⟩, by simp [go_sem], by simp [go_sem], by simp [go_sem], by simp [go_sem]⟩, by omega⟩))))))))⟩
  · left
    refine ⟨[6, 20], by kernel_rfl, by simp, ?_⟩
    simp only [Act.put, List.getElem_toArray, List.getElem_cons_succ, List.getElem_cons_zero, List.setIfInBounds_toArray, List.set_cons_zero, List.set_cons_succ]
    refine all_cons ?_ (all_cons ?_ (all_nil))
    · refine wpOp_step rfl (fun Kq hKq => ?_)
      go_simp
      refine (K1.out _).mono ?_
      rintro e W1 ⟨rfl, hw1⟩
      have hz1 := hw1.size
      have hc1 := (bcell hw1).1
      have hf1 := (bcell hw1).2
      refine hKq _ _ ?_
      exact ⟨⟨⟨(hc1 _ _ (by omega)).trans cS0, (hc1 _ _ (by omega)).trans cS1, (hc1 _ _ (by omega)).trans cS2, (hc1 _ _ (by omega)).trans cS3, (hc1 _ _ (by omega)).trans cS4, (hc1 _ _ (by omega)).trans cS5, (hc1 _ _ (by omega)).trans cS6, (hc1 _ _ (by omega)).trans cS7, (hf1 _ _ (by omega)).trans cS8, (hf1 _ _ (by omega)).trans cS9⟩, below_step hw1 hB (by have := hB.size; omega), by omega⟩, (Or.inr (Or.inr (Or.inr (Or.inr (Or.inr (Or.inr (Or.inl ⟨n6, by rfl, by rfl, ⟨⟨zn6, by omega⟩, (hc1 _ _ (by omega)).trans dn6_0, (hf1 _ _ (by omega)).trans fn6_0, (hc1 _ _ (by omega)).trans dn6_1, (hf1 _ _ (by omega)).trans fn6_1⟩⟩)))))))⟩
    · refine wpOp_step rfl (fun Kq hKq => ?_)
      go_simp
      have hw1 : Below W.heap.size W (W.alloc (.cells #[.int .i64 0, .int .i64 0] 26)) := by (repeat' (first | (with_reducible exact Below.refl _ _) | (with_reducible assumption) | (with_reducible refine Below.alloc ?_ ?_ _) | (with_reducible refine Below.drew ?_) | (with_reducible refine below_drewN ?_ _) | (with_reducible refine Below.setCell ?_ ?_ _) | (with_reducible refine below_step (by with_reducible assumption) ?_ ?_) | (with_reducible exact Below.size (by with_reducible assumption)) | go_size))
      have hz1 : (W.alloc (.cells #[.int .i64 0, .int .i64 0] 26)).heap.size = W.heap.size + 1 := by simp
      have hc1 := (bcell hw1).1
      have hf1 := (bcell hw1).2
      refine hKq _ _ ?_
      exact ⟨⟨⟨(hc1 _ _ (by omega)).trans cS0, (hc1 _ _ (by omega)).trans cS1, (hc1 _ _ (by omega)).trans cS2, (hc1 _ _ (by omega)).trans cS3, (hc1 _ _ (by omega)).trans cS4, (hc1 _ _ (by omega)).trans cS5, (hc1 _ _ (by omega)).trans cS6, (hc1 _ _ (by omega)).trans cS7, (hf1 _ _ (by omega)).trans cS8, (hf1 _ _ (by omega)).trans cS9⟩, below_step hw1 hB (by have := hB.size; omega), by omega⟩, (Or.inr (Or.inr (Or.inr (Or.inr (Or.inr (Or.inr (Or.inr (Or.inl ⟨W.heap.size, n6, by rfl, by rfl, ⟨⟨by omega, by omega⟩, by simp [go_sem], by simp [go_sem], by simp [go_sem], by simp [go_sem]⟩, ⟨⟨zn6, by omega⟩, (hc1 _ _ (by omega)).trans dn6_0, (hf1 _ _ (by omega)).trans fn6_0, (hc1 _ _ (by omega)).trans dn6_1, (hf1 _ _ (by omega)).trans fn6_1⟩, by omega⟩))))))))⟩
  · left
    refine ⟨[16, 20, 21], by kernel_rfl, by simp, ?_⟩
    simp only [Act.put, List.getElem_toArray, List.getElem_cons_succ, List.getElem_cons_zero, List.setIfInBounds_toArray, List.set_cons_zero, List.set_cons_succ]
    refine all_cons ?_ (all_cons ?_ (all_cons ?_ (all_nil)))
    · refine wpOp_step rfl (fun Kq hKq => ?_)
      go_simp
      refine (K2.out _).mono ?_
      rintro e W1 ⟨rfl, hw1⟩
      have hz1 := hw1.size
      have hc1 := (bcell hw1).1
      have hf1 := (bcell hw1).2
      refine hKq _ _ ?_
      exact ⟨⟨⟨(hc1 _ _ (by omega)).trans cS0, (hc1 _ _ (by omega)).trans cS1, (hc1 _ _ (by omega)).trans cS2, (hc1 _ _ (by omega)).trans cS3, (hc1 _ _ (by omega)).trans cS4, (hc1 _ _ (by omega)).trans cS5, (hc1 _ _ (by omega)).trans cS6, (hc1 _ _ (by omega)).trans cS7, (hf1 _ _ (by omega)).trans cS8, (hf1 _ _ (by omega)).trans cS9⟩, below_step hw1 hB (by have := hB.size; omega), by omega⟩, (Or.inr (Or.inr (Or.inr (Or.inr (Or.inr (Or.inr (Or.inr (Or.inr (Or.inl ⟨by rfl, by rfl⟩)))))))))⟩
    · refine wpOp_step rfl (fun Kq hKq => ?_)
      go_simp
      have hw1 : Below W.heap.size W (W.alloc (.cells #[.int .i64 0, .int .i64 0] 26)) := by (repeat' (first | (with_reducible exact Below.refl _ _) | (with_reducible assumption) | (with_reducible refine Below.alloc ?_ ?_ _) | (with_reducible refine Below.drew ?_) | (with_reducible refine below_drewN ?_ _) | (with_reducible refine Below.setCell ?_ ?_ _) | (with_reducible refine below_step (by with_reducible assumption) ?_ ?_) | (with_reducible exact Below.size (by with_reducible assumption)) | go_size))
      have hz1 : (W.alloc (.cells #[.int .i64 0, .int .i64 0] 26)).heap.size = W.heap.size + 1 := by simp
      have hc1 := (bcell hw1).1
      have hf1 := (bcell hw1).2
      refine hKq _ _ ?_
      exact ⟨⟨⟨(hc1 _ _ (by omega)).trans cS0, (hc1 _ _ (by omega)).trans cS1, (hc1 _ _ (by omega)).trans cS2, (hc1 _ _ (by omega)).trans cS3, (hc1 _ _ (by omega)).trans cS4, (hc1 _ _ (by omega)).trans cS5, (hc1 _ _ (by omega)).trans cS6, (hc1 _ _ (by omega)).trans cS7, (hf1 _ _ (by omega)).trans cS8, (hf1 _ _ (by omega)).trans cS9⟩, below_step hw1 hB (by have := hB.size; omega), by omega⟩, (Or.inr (Or.inr (Or.inr (Or.inr (Or.inr (Or.inr (Or.inr (Or.inr (Or.inr (Or.inl ⟨W.heap.size, by rfl, by rfl, ⟨⟨by omega, by omega⟩, by simp [go_sem], by simp [go_sem], by simp [go_sem], by simp [go_sem]⟩⟩))))))))))⟩
    · refine wpOp_step rfl (fun Kq hKq => ?_)
      go_simp
      have hw1 : Below W.heap.size W (W.alloc (.cells #[.int .i64 0, .int .i64 0] 26)) := by (repeat' (first | (with_reducible exact Below.refl _ _) | (with_reducible assumption) | (with_reducible refine Below.alloc ?_ ?_ _) | (with_reducible refine Below.drew ?_) | (with_reducible refine below_drewN ?_ _) | (with_reducible refine Below.setCell ?_ ?_ _) | (with_reducible refine below_step (by with_reducible assumption) ?_ ?_) | (with_reducible exact Below.size (by with_reducible assumption)) | go_size))
      have hz1 : (W.alloc (.cells #[.int .i64 0, .int .i64 0] 26)).heap.size = W.heap.size + 1 := by simp
      have hc1 := (bcell hw1).1
      have hf1 := (bcell hw1).2
      refine hKq _ _ ?_
      exact ⟨⟨⟨(hc1 _ _ (by omega)).trans cS0, (hc1 _ _ (by omega)).trans cS1, (hc1 _ _ (by omega)).trans cS2, (hc1 _ _ (by omega)).trans cS3, (hc1 _ _ (by omega)).trans cS4, (hc1 _ _ (by omega)).trans cS5, (hc1 _ _ (by omega)).trans cS6, (hc1 _ _ (by omega)).trans cS7, (hf1 _ _ (by omega)).trans cS8, (hf1 _ _ (by omega)).trans cS9⟩, below_step hw1 hB (by have := hB.size; omega), by omega⟩, (Or.inr (Or.inr (Or.inr (Or.inr (Or.inr (Or.inr (Or.inr (Or.inr (Or.inr (Or.inr (Or.inl ⟨W.heap.size, by rfl, by rfl, ⟨⟨by omega, by omega⟩, by simp [go_sem], by simp [go_sem], by simp [go_sem], by simp [go_sem]⟩⟩)))))))))))⟩
  · left
    refine ⟨[9, 21], by kernel_rfl, by simp, ?_⟩
    simp only [Act.put, List.getElem_toArray, List.getElem_cons_succ, List.getElem_cons_zero, List.setIfInBounds_toArray, List.set_cons_zero, List.set_cons_succ]
    refine all_cons ?_ (all_cons ?_ (all_nil))
    · refine wpOp_step rfl (fun Kq hKq => ?_)
      go_simp
      refine (K3.out _).mono ?_
      rintro e W1 ⟨rfl, hw1⟩
      have hz1 := hw1.size
      have hc1 := (bcell hw1).1
      have hf1 := (bcell hw1).2
      refine hKq _ _ ?_
      exact ⟨⟨⟨(hc1 _ _ (by omega)).trans cS0, (hc1 _ _ (by omega)).trans cS1, (hc1 _ _ (by omega)).trans cS2, (hc1 _ _ (by omega)).trans cS3, (hc1 _ _ (by omega)).trans cS4, (hc1 _ _ (by omega)).trans cS5, (hc1 _ _ (by omega)).trans cS6, (hc1 _ _ (by omega)).trans cS7, (hf1 _ _ (by omega)).trans cS8, (hf1 _ _ (by omega)).trans cS9⟩, below_step hw1 hB (by have := hB.size; omega), by omega⟩, (Or.inr (Or.inr (Or.inr (Or.inr (Or.inr (Or.inr (Or.inr (Or.inr (Or.inr (Or.inl ⟨n5, by rfl, by rfl, ⟨⟨zn5, by omega⟩, (hc1 _ _ (by omega)).trans dn5_0, (hf1 _ _ (by omega)).trans fn5_0, (hc1 _ _ (by omega)).trans dn5_1, (hf1 _ _ (by omega)).trans fn5_1⟩⟩))))))))))⟩
    · refine wpOp_step rfl (fun Kq hKq => ?_)
      go_simp
      have hw1 : Below W.heap.size W (W.alloc (.cells #[.int .i64 0, .int .i64 0] 26)) := by (repeat' (first | (with_reducible exact Below.refl _ _) | (with_reducible assumption) | (with_reducible refine Below.alloc ?_ ?_ _) | (with_reducible refine Below.drew ?_) | (with_reducible refine below_drewN ?_ _) | (with_reducible refine Below.setCell ?_ ?_ _) | (with_reducible refine below_step (by with_reducible assumption) ?_ ?_) | (with_reducible exact Below.size (by with_reducible assumption)) | go_size))
      have hz1 : (W.alloc (.cells #[.int .i64 0, .int .i64 0] 26)).heap.size = W.heap.size + 1 := by simp
      have hc1 := (bcell hw1).1
      have hf1 := (bcell hw1).2
      refine hKq _ _ ?_
      exact ⟨⟨⟨(hc1 _ _ (by omega)).trans cS0, (hc1 _ _ (by omega)).trans cS1, (hc1 _ _ (by omega)).trans cS2, (hc1 _ _ (by omega)).trans cS3, (hc1 _ _ (by omega)).trans cS4, (hc1 _ _ (by omega)).trans cS5, (hc1 _ _ (by omega)).trans cS6, (hc1 _ _ (by omega)).trans cS7, (hf1 _ _ (by omega)).trans cS8, (hf1 _ _ (by omega)).trans cS9⟩, below_step hw1 hB (by have := hB.size; omega), by omega⟩, (Or.inr (Or.inr (Or.inr (Or.inr (Or.inr (Or.inr (Or.inr (Or.inr (Or.inr (Or.inr (Or.inr (Or.inl ⟨n5, W.heap.size, by rfl, by rfl, ⟨⟨zn5, by omega⟩, (hc1 _ _ (by omega)).trans dn5_0, (hf1 _ _ (by omega)).trans fn5_0, (hc1 _ _ (by omega)).trans dn5_1, (hf1 _ _ (by omega)).trans fn5_1⟩, ⟨⟨by omega, by omega⟩, by simp [go_sem], by simp [go_sem], by simp [go_sem], by simp [go_sem]⟩, by omega⟩))))))))))))⟩
  · left
    refine ⟨[9, 20], by kernel_rfl, by simp, ?_⟩
    simp only [Act.put, List.getElem_toArray, List.getElem_cons_succ, List.getElem_cons_zero, List.setIfInBounds_toArray, List.set_cons_zero, List.set_cons_succ]
    refine all_cons ?_ (all_cons ?_ (all_nil))
    · refine wpOp_step rfl (fun Kq hKq => ?_)
      go_simp
      refine (K3.out _).mono ?_
      rintro e W1 ⟨rfl, hw1⟩
      have hz1 := hw1.size
      have hc1 := (bcell hw1).1
      have hf1 := (bcell hw1).2
      refine hKq _ _ ?_
      exact ⟨⟨⟨(hc1 _ _ (by omega)).trans cS0, (hc1 _ _ (by omega)).trans cS1, (hc1 _ _ (by omega)).trans cS2, (hc1 _ _ (by omega)).trans cS3, (hc1 _ _ (by omega)).trans cS4, (hc1 _ _ (by omega)).trans cS5, (hc1 _ _ (by omega)).trans cS6, (hc1 _ _ (by omega)).trans cS7, (hf1 _ _ (by omega)).trans cS8, (hf1 _ _ (by omega)).trans cS9⟩, below_step hw1 hB (by have := hB.size; omega), by omega⟩, (Or.inr (Or.inr (Or.inr (Or.inr (Or.inr (Or.inr (Or.inr (Or.inr (Or.inr (Or.inr (Or.inl ⟨n6, by rfl, by rfl, ⟨⟨zn6, by omega⟩, (hc1 _ _ (by omega)).trans dn6_0, (hf1 _ _ (by omega)).trans fn6_0, (hc1 _ _ (by omega)).trans dn6_1, (hf1 _ _ (by omega)).trans fn6_1⟩⟩)))))))))))⟩
    · refine wpOp_step rfl (fun Kq hKq => ?_)
      go_simp
      have hw1 : Below W.heap.size W (W.alloc (.cells #[.int .i64 0, .int .i64 0] 26)) := by (repeat' (first | (with_reducible exact Below.refl _ _) | (with_reducible assumption) | (with_reducible refine Below.alloc ?_ ?_ _) | (with_reducible refine Below.drew ?_) | (with_reducible refine below_drewN ?_ _) | (with_reducible refine Below.setCell ?_ ?_ _) | (with_reducible refine below_step (by with_reducible assumption) ?_ ?_) | (with_reducible exact Below.size (by with_reducible assumption)) | go_size))
      have hz1 : (W.alloc (.cells #[.int .i64 0, .int .i64 0] 26)).heap.size = W.heap.size + 1 := by simp
      have hc1 := (bcell hw1).1
      have hf1 := (bcell hw1).2
      refine hKq _ _ ?_
      exact ⟨⟨⟨(hc1 _ _ (by omega)).trans cS0, (hc1 _ _ (by omega)).trans cS1, (hc1 _ _ (by omega)).trans cS2, (hc1 _ _ (by omega)).trans cS3, (hc1 _ _ (by omega)).trans cS4, (hc1 _ _ (by omega)).trans cS5, (hc1 _ _ (by omega)).trans cS6, (hc1 _ _ (by omega)).trans cS7, (hf1 _ _ (by omega)).trans cS8, (hf1 _ _ (by omega)).trans cS9⟩, below_step hw1 hB (by have := hB.size; omega), by omega⟩, (Or.inr (Or.inr (Or.inr (Or.inr (Or.inr (Or.inr (Or.inr (Or.inr (Or.inr (Or.inr (Or.inr (Or.inl ⟨W.heap.size, n6, by rfl, by rfl, ⟨⟨by omega, by omega⟩, by simp [go_sem], by simp [go_sem], by simp [go_sem], by simp [go_sem]⟩, ⟨⟨zn6, by omega⟩, (hc1 _ _ (by omega)).trans dn6_0, (hf1 _ _ (by omega)).trans fn6_0, (hc1 _ _ (by omega)).trans dn6_1, (hf1 _ _ (by omega)).trans fn6_1⟩, by omega⟩))))))))))))⟩
  · left
    refine ⟨[6], by kernel_rfl, by simp, ?_⟩
    simp only [Act.put, List.getElem_toArray, List.getElem_cons_succ, List.getElem_cons_zero, List.setIfInBounds_toArray, List.set_cons_zero, List.set_cons_succ]
    refine all_cons ?_ (all_nil)
    · refine wpOp_step rfl (fun Kq hKq => ?_)
      go_simp
      refine (K1.out _).mono ?_
      rintro e W1 ⟨rfl, hw1⟩
      have hz1 := hw1.size
      have hc1 := (bcell hw1).1
      have hf1 := (bcell hw1).2
      refine hKq _ _ ?_
      exact ⟨⟨⟨(hc1 _ _ (by omega)).trans cS0, (hc1 _ _ (by omega)).trans cS1, (hc1 _ _ (by omega)).trans cS2, (hc1 _ _ (by omega)).trans cS3, (hc1 _ _ (by omega)).trans cS4, (hc1 _ _ (by omega)).trans cS5, (hc1 _ _ (by omega)).trans cS6, (hc1 _ _ (by omega)).trans cS7, (hf1 _ _ (by omega)).trans cS8, (hf1 _ _ (by omega)).trans cS9⟩, below_step hw1 hB (by have := hB.size; omega), by omega⟩, (Or.inr (Or.inr (Or.inr (Or.inr (Or.inr (Or.inr (Or.inr (Or.inr (Or.inr (Or.inr (Or.inr (Or.inl ⟨n5, n6, by rfl, by rfl, ⟨⟨zn5, by omega⟩, (hc1 _ _ (by omega)).trans dn5_0, (hf1 _ _ (by omega)).trans fn5_0, (hc1 _ _ (by omega)).trans dn5_1, (hf1 _ _ (by omega)).trans fn5_1⟩, ⟨⟨zn6, by omega⟩, (hc1 _ _ (by omega)).trans dn6_0, (hf1 _ _ (by omega)).trans fn6_0, (hc1 _ _ (by omega)).trans dn6_1, (hf1 _ _ (by omega)).trans fn6_1⟩, by omega⟩))))))))))))⟩
  · left
    refine ⟨[19, 20, 21], by kernel_rfl, by simp, ?_⟩
    simp only [Act.put, List.getElem_toArray, List.getElem_cons_succ, List.getElem_cons_zero, List.setIfInBounds_toArray, List.set_cons_zero, List.set_cons_succ]
    refine all_cons ?_ (all_cons ?_ (all_cons ?_ (all_nil)))
    · refine wpOp_step rfl (fun Kq hKq => ?_)
      go_simp
      refine (K4.out _).mono ?_
      rintro e W1 ⟨rfl, hw1⟩
      have hz1 := hw1.size
      have hc1 := (bcell hw1).1
      have hf1 := (bcell hw1).2
      refine hKq _ _ ?_
      exact ⟨⟨⟨(hc1 _ _ (by omega)).trans cS0, (hc1 _ _ (by omega)).trans cS1, (hc1 _ _ (by omega)).trans cS2, (hc1 _ _ (by omega)).trans cS3, (hc1 _ _ (by omega)).trans cS4, (hc1 _ _ (by omega)).trans cS5, (hc1 _ _ (by omega)).trans cS6, (hc1 _ _ (by omega)).trans cS7, (hf1 _ _ (by omega)).trans cS8, (hf1 _ _ (by omega)).trans cS9⟩, below_step hw1 hB (by have := hB.size; omega), by omega⟩, (Or.inr (Or.inr (Or.inr (Or.inr (Or.inr (Or.inr (Or.inr (Or.inr (Or.inr (Or.inr (Or.inr (Or.inr (Or.inl ⟨by rfl, by rfl⟩)))))))))))))⟩
    · refine wpOp_step rfl (fun Kq hKq => ?_)
      go_simp
      have hw1 : Below W.heap.size W (W.alloc (.cells #[.int .i64 0, .int .i64 0] 26)) := by (repeat' (first | (with_reducible exact Below.refl _ _) | (with_reducible assumption) | (with_reducible refine Below.alloc ?_ ?_ _) | (with_reducible refine Below.drew ?_) | (with_reducible refine below_drewN ?_ _) | (with_reducible refine Below.setCell ?_ ?_ _) | (with_reducible refine below_step (by with_reducible assumption) ?_ ?_) | (with_reducible exact Below.size (by with_reducible assumption)) | go_size))
      have hz1 : (W.alloc (.cells #[.int .i64 0, .int .i64 0] 26)).heap.size = W.heap.size + 1 := by simp
      have hc1 := (bcell hw1).1
      have hf1 := (bcell hw1).2
      refine hKq _ _ ?_
      exact ⟨⟨⟨(hc1 _ _ (by omega)).trans cS0, (hc1 _ _ (by omega)).trans cS1, (hc1 _ _ (by omega)).trans cS2, (hc1 _ _ (by omega)).trans cS3, (hc1 _ _ (by omega)).trans cS4, (hc1 _ _ (by omega)).trans cS5, (hc1 _ _ (by omega)).trans cS6, (hc1 _ _ (by omega)).trans cS7, (hf1 _ _ (by omega)).trans cS8, (hf1 _ _ (by omega)).trans cS9⟩, below_step hw1 hB (by have := hB.size; omega), by omega⟩, (Or.inr (Or.inr (Or.inr (Or.inr (Or.inr (Or.inr (Or.inr (Or.inr (Or.inr (Or.inr (Or.inr (Or.inr (Or.inr (Or.inl ⟨W.heap.size, by rfl, by rfl, ⟨⟨by omega, by omega⟩, by simp [go_sem], by simp [go_sem], by simp [go_sem], by simp [go_sem]⟩⟩))))))))))))))⟩
    · refine wpOp_step rfl (fun Kq hKq => ?_)
      go_simp
      have hw1 : Below W.heap.size W (W.alloc (.cells #[.int .i64 0, .int .i64 0] 26)) := by (repeat' (first | (with_reducible exact Below.refl _ _) | (with_reducible assumption) | (with_reducible refine Below.alloc ?_ ?_ _) | (with_reducible refine Below.drew ?_) | (with_reducible refine below_drewN ?_ _) | (with_reducible refine Below.setCell ?_ ?_ _) | (with_reducible refine below_step (by with_reducible assumption) ?_ ?_) | (with_reducible exact Below.size (by with_reducible assumption)) | go_size))
      have hz1 : (W.alloc (.cells #[.int .i64 0, .int .i64 0] 26)).heap.size = W.heap.size + 1 := by simp
      have hc1 := (bcell hw1).1
      have hf1 := (bcell hw1).2
      refine hKq _ _ ?_
      exact ⟨⟨⟨(hc1 _ _ (by omega)).trans cS0, (hc1 _ _ (by omega)).trans cS1, (hc1 _ _ (by omega)).trans cS2, (hc1 _ _ (by omega)).trans cS3, (hc1 _ _ (by omega)).trans cS4, (hc1 _ _ (by omega)).trans cS5, (hc1 _ _ (by omega)).trans cS6, (hc1 _ _ (by omega)).trans cS7, (hf1 _ _ (by omega)).trans cS8, (hf1 _ _ (by omega)).trans cS9⟩, below_step hw1 hB (by have := hB.size; omega), by omega⟩, (Or.inr (Or.inr (Or.inr (Or.inr (Or.inr (Or.inr (Or.inr (Or.inr (Or.inr (Or.inr (Or.inr (Or.inr (Or.inr (Or.inr (Or.inl ⟨W.heap.size, by rfl, by rfl, ⟨⟨by omega, by omega⟩, by simp [go_sem], by simp [go_sem], by simp [go_sem], by simp [go_sem]⟩⟩)))))))))))))))⟩
  · left
    refine ⟨[16, 21], by kernel_rfl, by simp, ?_⟩
    simp only [Act.put, List.getElem_toArray, List.getElem_cons_succ, List.getElem_cons_zero, List.setIfInBounds_toArray, List.set_cons_zero, List.set_cons_succ]
    refine all_cons ?_ (all_cons ?_ (all_nil))
    · refine wpOp_step rfl (fun Kq hKq => ?_)
      go_simp
      refine (K2.out _).mono ?_
      rintro e W1 ⟨rfl, hw1⟩
      have hz1 := hw1.size
      have hc1 := (bcell hw1).1
      have hf1 := (bcell hw1).2
      refine hKq _ _ ?_
      exact ⟨⟨⟨(hc1 _ _ (by omega)).trans cS0, (hc1 _ _ (by omega)).trans cS1, (hc1 _ _ (by omega)).trans cS2, (hc1 _ _ (by omega)).trans cS3, (hc1 _ _ (by omega)).trans cS4, (hc1 _ _ (by omega)).trans cS5, (hc1 _ _ (by omega)).trans cS6, (hc1 _ _ (by omega)).trans cS7, (hf1 _ _ (by omega)).trans cS8, (hf1 _ _ (by omega)).trans cS9⟩, below_step hw1 hB (by have := hB.size; omega), by omega⟩, (Or.inr (Or.inr (Or.inr (Or.inr (Or.inr (Or.inr (Or.inr (Or.inr (Or.inr (Or.inr (Or.inr (Or.inr (Or.inr (Or.inl ⟨n5, by rfl, by rfl, ⟨⟨zn5, by omega⟩, (hc1 _ _ (by omega)).trans dn5_0, (hf1 _ _ (by omega)).trans fn5_0, (hc1 _ _ (by omega)).trans dn5_1, (hf1 _ _ (by omega)).trans fn5_1⟩⟩))))))))))))))⟩
    · refine wpOp_step rfl (fun Kq hKq => ?_)
      go_simp
      have hw1 : Below W.heap.size W (W.alloc (.cells #[.int .i64 0, .int .i64 0] 26)) := by (repeat' (first | (with_reducible exact Below.refl _ _) | (with_reducible assumption) | (with_reducible refine Below.alloc ?_ ?_ _) | (with_reducible refine Below.drew ?_) | (with_reducible refine below_drewN ?_ _) | (with_reducible refine Below.setCell ?_ ?_ _) | (with_reducible refine below_step (by with_reducible assumption) ?_ ?_) | (with_reducible exact Below.size (by with_reducible assumption)) | go_size))
      have hz1 : (W.alloc (.cells #[.int .i64 0, .int .i64 0] 26)).heap.size = W.heap.size + 1 := by simp
      have hc1 := (bcell hw1).1
      have hf1 := (bcell hw1).2
      refine hKq _ _ ?_
      exact ⟨⟨⟨(hc1 _ _ (by omega)).trans cS0, (hc1 _ _ (by omega)).trans cS1, (hc1 _ _ (by omega)).trans cS2, (hc1 _ _ (by omega)).trans cS3, (hc1 _ _ (by omega)).trans cS4, (hc1 _ _ (by omega)).trans cS5, (hc1 _ _ (by omega)).trans cS6, (hc1 _ _ (by omega)).trans cS7, (hf1 _ _ (by omega)).trans cS8, (hf1 _ _ (by omega)).trans cS9⟩, below_step hw1 hB (by have := hB.size; omega), by omega⟩, (Or.inr (Or.inr (Or.inr (Or.inr (Or.inr (Or.inr (Or.inr (Or.inr (Or.inr (Or.inr (Or.inr (Or.inr (Or.inr (Or.inr (Or.inr (Or.inl ⟨n5, W.heap.size, by rfl, by rfl, ⟨⟨zn5, by omega⟩, (hc1 _ _ (by omega)).trans dn5_0, (hf1 _ _ (by omega)).trans fn5_0, (hc1 _ _ (by omega)).trans dn5_1, (hf1 _ _ (by omega)).trans fn5_1⟩, ⟨⟨by omega, by omega⟩, by simp [go_sem], by simp [go_sem], by simp [go_sem], by simp [go_sem]⟩, by omega⟩))))))))))))))))⟩
  · left
    refine ⟨[16, 20], by kernel_rfl, by simp, ?_⟩
    simp only [Act.put, List.getElem_toArray, List.getElem_cons_succ, List.getElem_cons_zero, List.setIfInBounds_toArray, List.set_cons_zero, List.set_cons_succ]
    refine all_cons ?_ (all_cons ?_ (all_nil))
    · refine wpOp_step rfl (fun Kq hKq => ?_)
      go_simp
      refine (K2.out _).mono ?_
      rintro e W1 ⟨rfl, hw1⟩
      have hz1 := hw1.size
      have hc1 := (bcell hw1).1
      have hf1 := (bcell hw1).2
      refine hKq _ _ ?_
      exact ⟨⟨⟨(hc1 _ _ (by omega)).trans cS0, (hc1 _ _ (by omega)).trans cS1, (hc1 _ _ (by omega)).trans cS2, (hc1 _ _ (by omega)).trans cS3, (hc1 _ _ (by omega)).trans cS4, (hc1 _ _ (by omega)).trans cS5, (hc1 _ _ (by omega)).trans cS6, (hc1 _ _ (by omega)).trans cS7, (hf1 _ _ (by omega)).trans cS8, (hf1 _ _ (by omega)).trans cS9⟩, below_step hw1 hB (by have := hB.size; omega), by omega⟩, (Or.inr (Or.inr (Or.inr (Or.inr (Or.inr (Or.inr (Or.inr (Or.inr (Or.inr (Or.inr (Or.inr (Or.inr (Or.inr (Or.inr (Or.inl ⟨n6, by rfl, by rfl, ⟨⟨zn6, by omega⟩, (hc1 _ _ (by omega)).trans dn6_0, (hf1 _ _ (by omega)).trans fn6_0, (hc1 _ _ (by omega)).trans dn6_1, (hf1 _ _ (by omega)).trans fn6_1⟩⟩)))))))))))))))⟩
    · refine wpOp_step rfl (fun Kq hKq => ?_)
      go_simp
      have hw1 : Below W.heap.size W (W.alloc (.cells #[.int .i64 0, .int .i64 0] 26)) := by (repeat' (first | (with_reducible exact Below.refl _ _) | (with_reducible assumption) | (with_reducible refine Below.alloc ?_ ?_ _) | (with_reducible refine Below.drew ?_) | (with_reducible refine below_drewN ?_ _) | (with_reducible refine Below.setCell ?_ ?_ _) | (with_reducible refine below_step (by with_reducible assumption) ?_ ?_) | (with_reducible exact Below.size (by with_reducible assumption)) | go_size))
      have hz1 : (W.alloc (.cells #[.int .i64 0, .int .i64 0] 26)).heap.size = W.heap.size + 1 := by simp
      have hc1 := (bcell hw1).1
      have hf1 := (bcell hw1).2
      refine hKq _ _ ?_
      exact ⟨⟨⟨(hc1 _ _ (by omega)).trans cS0, (hc1 _ _ (by omega)).trans cS1, (hc1 _ _ (by omega)).trans cS2, (hc1 _ _ (by omega)).trans cS3, (hc1 _ _ (by omega)).trans cS4, (hc1 _ _ (by omega)).trans cS5, (hc1 _ _ (by omega)).trans cS6, (hc1 _ _ (by omega)).trans cS7, (hf1 _ _ (by omega)).trans cS8, (hf1 _ _ (by omega)).trans cS9⟩, below_step hw1 hB (by have := hB.size; omega), by omega⟩, (Or.inr (Or.inr (Or.inr (Or.inr (Or.inr (Or.inr (Or.inr (Or.inr (Or.inr (Or.inr (Or.inr (Or.inr (Or.inr (Or.inr (Or.inr (Or.inl ⟨W.heap.size, n6, by rfl, by rfl, ⟨⟨by omega, by omega⟩, by simp [go_sem], by simp [go_sem], by simp [go_sem], by simp [go_sem]⟩, ⟨⟨zn6, by omega⟩, (hc1 _ _ (by omega)).trans dn6_0, (hf1 _ _ (by omega)).trans fn6_0, (hc1 _ _ (by omega)).trans dn6_1, (hf1 _ _ (by omega)).trans fn6_1⟩, by omega⟩))))))))))))))))⟩
  · left
    refine ⟨[9], by kernel_rfl, by simp, ?_⟩
    simp only [Act.put, List.getElem_toArray, List.getElem_cons_succ, List.getElem_cons_zero, List.setIfInBounds_toArray, List.set_cons_zero, List.set_cons_succ]
    refine all_cons ?_ (all_nil)
    · refine wpOp_step rfl (fun Kq hKq => ?_)
      go_simp
      refine (K3.out _).mono ?_
      rintro e W1 ⟨rfl, hw1⟩
      have hz1 := hw1.size
      have hc1 := (bcell hw1).1
      have hf1 := (bcell hw1).2
      refine hKq _ _ ?_
      exact ⟨⟨⟨(hc1 _ _ (by omega)).trans cS0, (hc1 _ _ (by omega)).trans cS1, (hc1 _ _ (by omega)).trans cS2, (hc1 _ _ (by omega)).trans cS3, (hc1 _ _ (by omega)).trans cS4, (hc1 _ _ (by omega)).trans cS5, (hc1 _ _ (by omega)).trans cS6, (hc1 _ _ (by omega)).trans cS7, (hf1 _ _ (by omega)).trans cS8, (hf1 _ _ (by omega)).trans cS9⟩, below_step hw1 hB (by have := hB.size; omega), by omega⟩, (Or.inr (Or.inr (Or.inr (Or.inr (Or.inr (Or.inr (Or.inr (Or.inr (Or.inr (Or.inr (Or.inr (Or.inr (Or.inr (Or.inr (Or.inr (Or.inl ⟨n5, n6, by rfl, by rfl, ⟨⟨zn5, by omega⟩, (hc1 _ _ (by omega)).trans dn5_0, (hf1 _ _ (by omega)).trans fn5_0, (hc1 _ _ (by omega)).trans dn5_1, (hf1 _ _ (by omega)).trans fn5_1⟩, ⟨⟨zn6, by omega⟩, (hc1 _ _ (by omega)).trans dn6_0, (hf1 _ _ (by omega)).trans fn6_0, (hc1 _ _ (by omega)).trans dn6_1, (hf1 _ _ (by omega)).trans fn6_1⟩, by omega⟩))))))))))))))))⟩
  · left
    refine ⟨[20, 21], by kernel_rfl, by simp, ?_⟩
    simp only [Act.put, List.getElem_toArray, List.getElem_cons_succ, List.getElem_cons_zero, List.setIfInBounds_toArray, List.set_cons_zero, List.set_cons_succ]
    refine all_cons ?_ (all_cons ?_ (all_nil))
    · refine wpOp_step rfl (fun Kq hKq => ?_)
      go_simp
      have hw1 : Below W.heap.size W (W.alloc (.cells #[.int .i64 0, .int .i64 0] 26)) := by (repeat' (first | (with_reducible exact Below.refl _ _) | (with_reducible assumption) | (with_reducible refine Below.alloc ?_ ?_ _) | (with_reducible refine Below.drew ?_) | (with_reducible refine below_drewN ?_ _) | (with_reducible refine Below.setCell ?_ ?_ _) | (with_reducible refine below_step (by with_reducible assumption) ?_ ?_) | (with_reducible exact Below.size (by with_reducible assumption)) | go_size))
      have hz1 : (W.alloc (.cells #[.int .i64 0, .int .i64 0] 26)).heap.size = W.heap.size + 1 := by simp
      have hc1 := (bcell hw1).1
      have hf1 := (bcell hw1).2
      refine hKq _ _ ?_
      exact ⟨⟨⟨(hc1 _ _ (by omega)).trans cS0, (hc1 _ _ (by omega)).trans cS1, (hc1 _ _ (by omega)).trans cS2, (hc1 _ _ (by omega)).trans cS3, (hc1 _ _ (by omega)).trans cS4, (hc1 _ _ (by omega)).trans cS5, (hc1 _ _ (by omega)).trans cS6, (hc1 _ _ (by omega)).trans cS7, (hf1 _ _ (by omega)).trans cS8, (hf1 _ _ (by omega)).trans cS9⟩, below_step hw1 hB (by have := hB.size; omega), by omega⟩, (Or.inr (Or.inr (Or.inr (Or.inr (Or.inr (Or.inr (Or.inr (Or.inr (Or.inr (Or.inr (Or.inr (Or.inr (Or.inr (Or.inr (Or.inr (Or.inr (Or.inl ⟨W.heap.size, by rfl, by rfl, ⟨⟨by omega, by omega⟩, by simp [go_sem], by simp [go_sem], by simp [go_sem], by simp [go_sem]⟩⟩)))))))))))))))))⟩
    · refine wpOp_step rfl (fun Kq hKq => ?_)
      go_simp
      have hw1 : Below W.heap.size W (W.alloc (.cells #[.int .i64 0, .int .i64 0] 26)) := by (repeat' (first | (with_reducible exact Below.refl _ _) | (with_reducible assumption) | (with_reducible refine Below.alloc ?_ ?_ _) | (with_reducible refine Below.drew ?_) | (with_reducible refine below_drewN ?_ _) | (with_reducible refine Below.setCell ?_ ?_ _) | (with_reducible refine below_step (by with_reducible assumption) ?_ ?_) | (with_reducible exact Below.size (by with_reducible assumption)) | go_size))
      have hz1 : (W.alloc (.cells #[.int .i64 0, .int .i64 0] 26)).heap.size = W.heap.size + 1 := by simp
      have hc1 := (bcell hw1).1
      have hf1 := (bcell hw1).2
      refine hKq _ _ ?_
      exact ⟨⟨⟨(hc1 _ _ (by omega)).trans cS0, (hc1 _ _ (by omega)).trans cS1, (hc1 _ _ (by omega)).trans cS2, (hc1 _ _ (by omega)).trans cS3, (hc1 _ _ (by omega)).trans cS4, (hc1 _ _ (by omega)).trans cS5, (hc1 _ _ (by omega)).trans cS6, (hc1 _ _ (by omega)).trans cS7, (hf1 _ _ (by omega)).trans cS8, (hf1 _ _ (by omega)).trans cS9⟩, below_step hw1 hB (by have := hB.size; omega), by omega⟩, (Or.inr (Or.inr (Or.inr (Or.inr (Or.inr (Or.inr (Or.inr (Or.inr (Or.inr (Or.inr (Or.inr (Or.inr (Or.inr (Or.inr (Or.inr (Or.inr (Or.inr (Or.inl ⟨W.heap.size, by rfl, by rfl, ⟨⟨by omega, by omega⟩, by simp [go_sem], by simp [go_sem], by simp [go_sem], by simp [go_sem]⟩⟩))))))))))))))))))⟩
  · left
    refine ⟨[19, 21], by kernel_rfl, by simp, ?_⟩
    simp only [Act.put, List.getElem_toArray, List.getElem_cons_succ, List.getElem_cons_zero, List.setIfInBounds_toArray, List.set_cons_zero, List.set_cons_succ]
    refine all_cons ?_ (all_cons ?_ (all_nil))
    · refine wpOp_step rfl (fun Kq hKq => ?_)
      go_simp
      refine (K4.out _).mono ?_
      rintro e W1 ⟨rfl, hw1⟩
      have hz1 := hw1.size
      have hc1 := (bcell hw1).1
      have hf1 := (bcell hw1).2
      refine hKq _ _ ?_
      exact ⟨⟨⟨(hc1 _ _ (by omega)).trans cS0, (hc1 _ _ (by omega)).trans cS1, (hc1 _ _ (by omega)).trans cS2, (hc1 _ _ (by omega)).trans cS3, (hc1 _ _ (by omega)).trans cS4, (hc1 _ _ (by omega)).trans cS5, (hc1 _ _ (by omega)).trans cS6, (hc1 _ _ (by omega)).trans cS7, (hf1 _ _ (by omega)).trans cS8, (hf1 _ _ (by omega)).trans cS9⟩, below_step hw1 hB (by have := hB.size; omega), by omega⟩, (Or.inr (Or.inr (Or.inr (Or.inr (Or.inr (Or.inr (Or.inr (Or.inr (Or.inr (Or.inr (Or.inr (Or.inr (Or.inr (Or.inr (Or.inr (Or.inr (Or.inl ⟨n5, by rfl, by rfl, ⟨⟨zn5, by omega⟩, (hc1 _ _ (by omega)).trans dn5_0, (hf1 _ _ (by omega)).trans fn5_0, (hc1 _ _ (by omega)).trans dn5_1, (hf1 _ _ (by omega)).trans fn5_1⟩⟩)))))))))))))))))⟩
    · refine wpOp_step rfl (fun Kq hKq => ?_)
      go_simp
      have hw1 : Below W.heap.size W (W.alloc (.cells #[.int .i64 0, .int .i64 0] 26)) := by (repeat' (first | (with_reducible exact Below.refl _ _) | (with_reducible assumption) | (with_reducible refine Below.alloc ?_ ?_ _) | (with_reducible refine Below.drew ?_) | (with_reducible refine below_drewN ?_ _) | (with_reducible refine Below.setCell ?_ ?_ _) | (with_reducible refine below_step (by with_reducible assumption) ?_ ?_) | (with_reducible exact Below.size (by with_reducible assumption)) | go_size))
      have hz1 : (W.alloc (.cells #[.int .i64 0, .int .i64 0] 26)).heap.size = W.heap.size + 1 := by simp
      have hc1 := (bcell hw1).1
      have hf1 := (bcell hw1).2
      refine hKq _ _ ?_
      exact ⟨⟨⟨(hc1 _ _ (by omega)).trans cS0, (hc1 _ _ (by omega)).trans cS1, (hc1 _ _ (by omega)).trans cS2, (hc1 _ _ (by omega)).trans cS3, (hc1 _ _ (by omega)).trans cS4, (hc1 _ _ (by omega)).trans cS5, (hc1 _ _ (by omega)).trans cS6, (hc1 _ _ (by omega)).trans cS7, (hf1 _ _ (by omega)).trans cS8, (hf1 _ _ (by omega)).trans cS9⟩, below_step hw1 hB (by have := hB.size; omega), by omega⟩, (Or.inr (Or.inr (Or.inr (Or.inr (Or.inr (Or.inr (Or.inr (Or.inr (Or.inr (Or.inr (Or.inr (Or.inr (Or.inr (Or.inr (Or.inr (Or.inr (Or.inr (Or.inr (Or.inl ⟨n5, W.heap.size, by rfl, by rfl, ⟨⟨zn5, by omega⟩, (hc1 _ _ (by omega)).trans dn5_0, (hf1 _ _ (by omega)).trans fn5_0, (hc1 _ _ (by omega)).trans dn5_1, (hf1 _ _ (by omega)).trans fn5_1⟩, ⟨⟨by omega, by omega⟩, by simp [go_sem], by simp [go_sem], by simp [go_sem], by simp [go_sem]⟩, by omega⟩)))))))))))))))))))⟩
  · left
    refine ⟨[19, 20], by kernel_rfl, by simp, ?_⟩
    simp only [Act.put, List.getElem_toArray, List.getElem_cons_succ, List.getElem_cons_zero, List.setIfInBounds_toArray, List.set_cons_zero, List.set_cons_succ]
    refine all_cons ?_ (all_cons ?_ (all_nil))
    · refine wpOp_step rfl (fun Kq hKq => ?_)
      go_simp
      refine (K4.out _).mono ?_
      rintro e W1 ⟨rfl, hw1⟩
      have hz1 := hw1.size
      have hc1 := (bcell hw1).1
      have hf1 := (bcell hw1).2
      refine hKq _ _ ?_
      exact ⟨⟨⟨(hc1 _ _ (by omega)).trans cS0, (hc1 _ _ (by omega)).trans cS1, (hc1 _ _ (by omega)).trans cS2, (hc1 _ _ (by omega)).trans cS3, (hc1 _ _ (by omega)).trans cS4, (hc1 _ _ (by omega)).trans cS5, (hc1 _ _ (by omega)).trans cS6, (hc1 _ _ (by omega)).trans cS7, (hf1 _ _ (by omega)).trans cS8, (hf1 _ _ (by omega)).trans cS9⟩, below_step hw1 hB (by have := hB.size; omega), by omega⟩, (Or.inr (Or.inr (Or.inr (Or.inr (Or.inr (Or.inr (Or.inr (Or.inr (Or.inr (Or.inr (Or.inr (Or.inr (Or.inr (Or.inr (Or.inr (Or.inr (Or.inr (Or.inl ⟨n6, by rfl, by rfl, ⟨⟨zn6, by omega⟩, (hc1 _ _ (by omega)).trans dn6_0, (hf1 _ _ (by omega)).trans fn6_0, (hc1 _ _ (by omega)).trans dn6_1, (hf1 _ _ (by omega)).trans fn6_1⟩⟩))))))))))))))))))⟩
    · refine wpOp_step rfl (fun Kq hKq => ?_)
      go_simp
      have hw1 : Below W.heap.size W (W.alloc (.cells #[.int .i64 0, .int .i64 0] 26)) := by (repeat' (first | (with_reducible exact Below.refl _ _) | (with_reducible assumption) | (with_reducible refine Below.alloc ?_ ?_ _) | (with_reducible refine Below.drew ?_) | (with_reducible refine below_drewN ?_ _) | (with_reducible refine Below.setCell ?_ ?_ _) | (with_reducible refine below_step (by with_reducible assumption) ?_ ?_) | (with_reducible exact Below.size (by with_reducible assumption)) | go_size))
      have hz1 : (W.alloc (.cells #[.int .i64 0, .int .i64 0] 26)).heap.size = W.heap.size + 1 := by simp
      have hc1 := (bcell hw1).1
      have hf1 := (bcell hw1).2
      refine hKq _ _ ?_
      exact ⟨⟨⟨(hc1 _ _ (by omega)).trans cS0, (hc1 _ _ (by omega)).trans cS1, (hc1 _ _ (by omega)).trans cS2, (hc1 _ _ (by omega)).trans cS3, (hc1 _ _ (by omega)).trans cS4, (hc1 _ _ (by omega)).trans cS5, (hc1 _ _ (by omega)).trans cS6, (hc1 _ _ (by omega)).trans cS7, (hf1 _ _ (by omega)).trans cS8, (hf1 _ _ (by omega)).trans cS9⟩, below_step hw1 hB (by have := hB.size; omega), by omega⟩, (Or.inr (Or.inr (Or.inr (Or.inr (Or.inr (Or.inr (Or.inr (Or.inr (Or.inr (Or.inr (Or.inr (Or.inr (Or.inr (Or.inr (Or.inr (Or.inr (Or.inr (Or.inr (Or.inl ⟨W.heap.size, n6, by rfl, by rfl, ⟨⟨by omega, by omega⟩, by simp [go_sem], by simp [go_sem], by simp [go_sem], by simp [go_sem]⟩, ⟨⟨zn6, by omega⟩, (hc1 _ _ (by omega)).trans dn6_0, (hf1 _ _ (by omega)).trans fn6_0, (hc1 _ _ (by omega)).trans dn6_1, (hf1 _ _ (by omega)).trans fn6_1⟩, by omega⟩)))))))))))))))))))⟩
  · left
    refine ⟨[16], by kernel_rfl, by simp, ?_⟩
    simp only [Act.put, List.getElem_toArray, List.getElem_cons_succ, List.getElem_cons_zero, List.setIfInBounds_toArray, List.set_cons_zero, List.set_cons_succ]
    refine all_cons ?_ (all_nil)
    · refine wpOp_step rfl (fun Kq hKq => ?_)
      go_simp
      refine (K2.out _).mono ?_
      rintro e W1 ⟨rfl, hw1⟩
      have hz1 := hw1.size
      have hc1 := (bcell hw1).1
      have hf1 := (bcell hw1).2
      refine hKq _ _ ?_
      exact ⟨⟨⟨(hc1 _ _ (by omega)).trans cS0, (hc1 _ _ (by omega)).trans cS1, (hc1 _ _ (by omega)).trans cS2, (hc1 _ _ (by omega)).trans cS3, (hc1 _ _ (by omega)).trans cS4, (hc1 _ _ (by omega)).trans cS5, (hc1 _ _ (by omega)).trans cS6, (hc1 _ _ (by omega)).trans cS7, (hf1 _ _ (by omega)).trans cS8, (hf1 _ _ (by omega)).trans cS9⟩, below_step hw1 hB (by have := hB.size; omega), by omega⟩, (Or.inr (Or.inr (Or.inr (Or.inr (Or.inr (Or.inr (Or.inr (Or.inr (Or.inr (Or.inr (Or.inr (Or.inr (Or.inr (Or.inr (Or.inr (Or.inr (Or.inr (Or.inr (Or.inl ⟨n5, n6, by rfl, by rfl, ⟨⟨zn5, by omega⟩, (hc1 _ _ (by omega)).trans dn5_0, (hf1 _ _ (by omega)).trans fn5_0, (hc1 _ _ (by omega)).trans dn5_1, (hf1 _ _ (by omega)).trans fn5_1⟩, ⟨⟨zn6, by omega⟩, (hc1 _ _ (by omega)).trans dn6_0, (hf1 _ _ (by omega)).trans fn6_0, (hc1 _ _ (by omega)).trans dn6_1, (hf1 _ _ (by omega)).trans fn6_1⟩, by omega⟩)))))))))))))))))))⟩
  · left
    refine ⟨[21], by kernel_rfl, by simp, ?_⟩
    simp only [Act.put, List.getElem_toArray, List.getElem_cons_succ, List.getElem_cons_zero, List.setIfInBounds_toArray, List.set_cons_zero, List.set_cons_succ]
    refine all_cons ?_ (all_nil)
    · refine wpOp_step rfl (fun Kq hKq => ?_)
      go_simp
      have hw1 : Below W.heap.size W (W.alloc (.cells #[.int .i64 0, .int .i64 0] 26)) := by (repeat' (first | (with_reducible exact Below.refl _ _) | (with_reducible assumption) | (with_reducible refine Below.alloc ?_ ?_ _) | (with_reducible refine Below.drew ?_) | (with_reducible refine below_drewN ?_ _) | (with_reducible refine Below.setCell ?_ ?_ _) | (with_reducible refine below_step (by with_reducible assumption) ?_ ?_) | (with_reducible exact Below.size (by with_reducible assumption)) | go_size))
      have hz1 : (W.alloc (.cells #[.int .i64 0, .int .i64 0] 26)).heap.size = W.heap.size + 1 := by simp
      have hc1 := (bcell hw1).1
      have hf1 := (bcell hw1).2
      refine hKq _ _ ?_
      exact ⟨⟨⟨(hc1 _ _ (by omega)).trans cS0, (hc1 _ _ (by omega)).trans cS1, (hc1 _ _ (by omega)).trans cS2, (hc1 _ _ (by omega)).trans cS3, (hc1 _ _ (by omega)).trans cS4, (hc1 _ _ (by omega)).trans cS5, (hc1 _ _ (by omega)).trans cS6, (hc1 _ _ (by omega)).trans cS7, (hf1 _ _ (by omega)).trans cS8, (hf1 _ _ (by omega)).trans cS9⟩, below_step hw1 hB (by have := hB.size; omega), by omega⟩, (Or.inr (Or.inr (Or.inr (Or.inr (Or.inr (Or.inr (Or.inr (Or.inr (Or.inr (Or.inr (Or.inr (Or.inr (Or.inr (Or.inr (Or.inr (Or.inr (Or.inr (Or.inr (Or.inr ⟨n5, W.heap.size, by rfl, by rfl, ⟨⟨zn5, by omega⟩, (hc1 _ _ (by omega)).trans dn5_0, (hf1 _ _ (by omega)).trans fn5_0, (hc1 _ _ (by omega)).trans dn5_1, (hf1 _ _ (by omega)).trans fn5_1⟩, ⟨⟨by omega, by omega⟩, by simp [go_sem], by simp [go_sem], by simp [go_sem], by simp [go_sem]⟩, by omega⟩)))))))))))))))))))⟩
  · left
    refine ⟨[20], by kernel_rfl, by simp, ?_⟩
    simp only [Act.put, List.getElem_toArray, List.getElem_cons_succ, List.getElem_cons_zero, List.setIfInBounds_toArray, List.set_cons_zero, List.set_cons_succ]
    refine all_cons ?_ (all_nil)
    · refine wpOp_step rfl (fun Kq hKq => ?_)
      go_simp
      have hw1 : Below W.heap.size W (W.alloc (.cells #[.int .i64 0, .int .i64 0] 26)) := by (repeat' (first | (with_reducible exact Below.refl _ _) | (with_reducible assumption) | (with_reducible refine Below.alloc ?_ ?_ _) | (with_reducible refine Below.drew ?_) | (with_reducible refine below_drewN ?_ _) | (with_reducible refine Below.setCell ?_ ?_ _) | (with_reducible refine below_step (by with_reducible assumption) ?_ ?_) | (with_reducible exact Below.size (by with_reducible assumption)) | go_size))
      have hz1 : (W.alloc (.cells #[.int .i64 0, .int .i64 0] 26)).heap.size = W.heap.size + 1 := by simp
      have hc1 := (bcell hw1).1
      have hf1 := (bcell hw1).2
      refine hKq _ _ ?_
      exact ⟨⟨⟨(hc1 _ _ (by omega)).trans cS0, (hc1 _ _ (by omega)).trans cS1, (hc1 _ _ (by omega)).trans cS2, (hc1 _ _ (by omega)).trans cS3, (hc1 _ _ (by omega)).trans cS4, (hc1 _ _ (by omega)).trans cS5, (hc1 _ _ (by omega)).trans cS6, (hc1 _ _ (by omega)).trans cS7, (hf1 _ _ (by omega)).trans cS8, (hf1 _ _ (by omega)).trans cS9⟩, below_step hw1 hB (by have := hB.size; omega), by omega⟩, (Or.inr (Or.inr (Or.inr (Or.inr (Or.inr (Or.inr (Or.inr (Or.inr (Or.inr (Or.inr (Or.inr (Or.inr (Or.inr (Or.inr (Or.inr (Or.inr (Or.inr (Or.inr (Or.inr ⟨W.heap.size, n6, by rfl, by rfl, ⟨⟨by omega, by omega⟩, by simp [go_sem], by simp [go_sem], by simp [go_sem], by simp [go_sem]⟩, ⟨⟨zn6, by omega⟩, (hc1 _ _ (by omega)).trans dn6_0, (hf1 _ _ (by omega)).trans fn6_0, (hc1 _ _ (by omega)).trans dn6_1, (hf1 _ _ (by omega)).trans fn6_1⟩, by omega⟩)))))))))))))))))))⟩
  · left
    refine ⟨[19], by kernel_rfl, by simp, ?_⟩
    simp only [Act.put, List.getElem_toArray, List.getElem_cons_succ, List.getElem_cons_zero, List.setIfInBounds_toArray, List.set_cons_zero, List.set_cons_succ]
    refine all_cons ?_ (all_nil)
    · refine wpOp_step rfl (fun Kq hKq => ?_)
      go_simp
      refine (K4.out _).mono ?_
      rintro e W1 ⟨rfl, hw1⟩
      have hz1 := hw1.size
      have hc1 := (bcell hw1).1
      have hf1 := (bcell hw1).2
      refine hKq _ _ ?_
      exact ⟨⟨⟨(hc1 _ _ (by omega)).trans cS0, (hc1 _ _ (by omega)).trans cS1, (hc1 _ _ (by omega)).trans cS2, (hc1 _ _ (by omega)).trans cS3, (hc1 _ _ (by omega)).trans cS4, (hc1 _ _ (by omega)).trans cS5, (hc1 _ _ (by omega)).trans cS6, (hc1 _ _ (by omega)).trans cS7, (hf1 _ _ (by omega)).trans cS8, (hf1 _ _ (by omega)).trans cS9⟩, below_step hw1 hB (by have := hB.size; omega), by omega⟩, (Or.inr (Or.inr (Or.inr (Or.inr (Or.inr (Or.inr (Or.inr (Or.inr (Or.inr (Or.inr (Or.inr (Or.inr (Or.inr (Or.inr (Or.inr (Or.inr (Or.inr (Or.inr (Or.inr ⟨n5, n6, by rfl, by rfl, ⟨⟨zn5, by omega⟩, (hc1 _ _ (by omega)).trans dn5_0, (hf1 _ _ (by omega)).trans fn5_0, (hc1 _ _ (by omega)).trans dn5_1, (hf1 _ _ (by omega)).trans fn5_1⟩, ⟨⟨zn6, by omega⟩, (hc1 _ _ (by omega)).trans dn6_0, (hf1 _ _ (by omega)).trans fn6_0, (hc1 _ _ (by omega)).trans dn6_1, (hf1 _ _ (by omega)).trans fn6_1⟩, by omega⟩)))))))))))))))))))⟩
  right
  refine wpAnyH_fuel 2 (by rfl) ?_
  simp only [Act.put, List.getElem_toArray, List.getElem_cons_succ, List.getElem_cons_zero, List.setIfInBounds_toArray, List.set_cons_zero, List.set_cons_succ]
  have : ¬ n5 = w.heap.size := by omega
  have : ¬ w.heap.size = n5 := by omega
  have : ¬ n5 = w.heap.size + 1 := by omega
  have : ¬ w.heap.size + 1 = n5 := by omega
  have : ¬ n6 = w.heap.size := by omega
  have : ¬ w.heap.size = n6 := by omega
  have : ¬ n6 = w.heap.size + 1 := by omega
  have : ¬ w.heap.size + 1 = n6 := by omega
  have : ¬ n5 = n6 := by omega
  have : ¬ n6 = n5 := by omega
  clear hH1
  refine wpAnyH_ready (rs := [22]) (by kernel_rfl) (by simp) ?_
  refine AllReadyH.cons rfl (fun Kq hKq => ?_) AllReadyH.nil
  go_simp
  refine hKq.out _ _ ?_ (fun hH2 => ?_)
  · (first | (refine ⟨?_, ?_, ?_, ?_, ?_, ?_, ?_, ?_, ?_, ?_⟩ <;> (simp only [World.cell?_setCell_far, World.frozen?_setCell, *, ne_eq, not_false_eq_true]); done) | (go_keep; done) | (simp [*, go_sem]; done))
  clear hKq Kq
  refine wpAnyH_ready (rs := [23]) (by kernel_rfl) (by simp) ?_
  refine AllReadyH.cons rfl (fun Kq hKq => ?_) AllReadyH.nil
  go_simp
  refine hKq.out _ _ ?_ (fun hH3 => ?_)
  · (first | (refine ⟨?_, ?_, ?_, ?_, ?_, ?_, ?_, ?_, ?_, ?_⟩ <;> (simp only [World.cell?_setCell_far, World.frozen?_setCell, *, ne_eq, not_false_eq_true]); done) | (go_keep; done) | (simp [*, go_sem]; done))
  clear hKq Kq
  have hZ1 := hZ
  refine wpAnyH_fin (T := fun W => (W.cell? ⟨w.heap.size, 0, none⟩ = some (.int .i64 (x.X1)) ∧ W.cell? ⟨w.heap.size, 1, none⟩ = some (.int .i64 (x.H1)) ∧ W.cell? ⟨w.heap.size, 2, none⟩ = some (.int .i64 (x.V1)) ∧ W.cell? ⟨w.heap.size, 3, none⟩ = some (.int .i64 (x.X2)) ∧ W.cell? ⟨w.heap.size, 4, none⟩ = some (.int .i64 (x.H2)) ∧ W.cell? ⟨w.heap.size, 5, none⟩ = some (.int .i64 (x.V2)) ∧ W.cell? ⟨w.heap.size + 1, 0, none⟩ = some (.int .i64 (0)) ∧ W.cell? ⟨w.heap.size + 1, 1, none⟩ = some (.int .i64 (0)) ∧ W.frozen? ⟨w.heap.size + 1, 0, none⟩ = false ∧ W.frozen? ⟨w.heap.size + 1, 1, none⟩ = false) ∧ (W.cell? ⟨n5, 0, none⟩ = some (.int .i64 p1) ∧ W.cell? ⟨n5, 1, none⟩ = some (.int .i64 q1) ∧ W.cell? ⟨n6, 0, none⟩ = some (.int .i64 p2) ∧ W.cell? ⟨n6, 1, none⟩ = some (.int .i64 q2)) ∧ (n5 < W.heap.size ∧ n6 < W.heap.size ∧ (w.heap.size + 1 + 1) ≤ W.heap.size) ∧ Below w.heap.size w W) (by kernel_rfl) ⟨hH3, ?_, ?_, ?_⟩ (fun W1 hT => ?_)
  · first | (refine ⟨?_, ?_, ?_, ?_⟩ <;> (simp only [World.cell?_setCell_far, *, ne_eq, not_false_eq_true]); done) | (clear hH3; simp [*, go_sem]; done) | (simp [go_sem, *]; done)
  · refine ⟨?_, ?_, ?_⟩ <;> (simp only [World.size_setCell]; omega)
  · (repeat' (first | (with_reducible exact Below.refl _ _) | (with_reducible assumption) | (with_reducible refine Below.alloc ?_ ?_ _) | (with_reducible refine Below.drew ?_) | (with_reducible refine below_drewN ?_ _) | (with_reducible refine Below.setCell ?_ ?_ _) | (with_reducible refine below_step (by with_reducible assumption) ?_ ?_) | (with_reducible exact Below.size (by with_reducible assumption)) | go_size))
  obtain ⟨⟨gS0, gS1, gS2, gS3, gS4, gS5, gS6, gS7, gS8, gS9⟩, ⟨gF0, gF1, gF2, gF3⟩, ⟨gZ0, gZ1, gZ2⟩, hB1⟩ := hT
  clear hSW' hH3 hB hZ hZ1 cS0 cS1 cS2 cS3 cS4 cS5 cS6 cS7 cS8 cS9 zn5 yn5 dn5_0 fn5_0 dn5_1 fn5_1 zn6 yn6 dn6_0 fn6_0 dn6_1 fn6_1
  go_wp2
  refine bodyPost_ret (by simp [results, Try.results33, go_sem, *]; rfl) rfl ?_
  exact ⟨by rw [HL.out, HH.out], by (repeat' (first | (with_reducible exact Below.refl _ _) | (with_reducible assumption) | (with_reducible refine Below.alloc ?_ ?_ _) | (with_reducible refine Below.drew ?_) | (with_reducible refine below_drewN ?_ _) | (with_reducible refine Below.setCell ?_ ?_ _) | (with_reducible refine below_step (by with_reducible assumption) ?_ ?_) | (with_reducible exact Below.size (by with_reducible assumption)) | go_size))⟩
end Go.Proofs.Ytpphnnbijmoodaa
