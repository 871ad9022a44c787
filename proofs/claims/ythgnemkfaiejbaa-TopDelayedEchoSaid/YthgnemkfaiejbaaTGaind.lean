/-
  GAINED of package trace.
-/
import Derived.Test.YthgnemkfaiejbaaTGain
set_option linter.unusedVariables false
set_option linter.unusedSimpArgs false
namespace Go.Proofs.Ythgnemkfaiejbaa
open Go.RowKit

def gW (n num den : Int) : Int := (2 * (n * num) + den) / (2 * den)
def gC (n num den : Int) : Int := min (max (gW n num den) (-2047)) 2047
def gK (x : Nat → Int) (num den : Int) : Nat → Int
  | 0 => 0
  | k + 1 => gK x num den k + if gC (x k) num den = gW (x k) num den then 0 else 1
theorem gK_bd (x : Nat → Int) (num den : Int) : ∀ k, 0 ≤ gK x num den k ∧ gK x num den k ≤ (k : Int)
  | 0 => by simp [gK]
  | k + 1 => by
    have := gK_bd x num den k
    unfold gK
    split <;> omega
theorem gC_bd (n num den : Int) : (gC n num den).natAbs ≤ 2047 := by unfold gC; omega
theorem mul_bd {n num : Int} (hn : n.natAbs ≤ 2047) (h : 0 ≤ num ∧ num ≤ 1000) : -2047000 ≤ n * num ∧ n * num ≤ 2047000 := by
  have a : (n * num).natAbs ≤ 2047 * 1000 := by rw [Int.natAbs_mul]; exact Nat.mul_le_mul hn (by omega)
  omega
theorem results_cell_tmp2' {fn : Func} {p u v : Tmp} {ty : TypeId} (h : fn.results = #[.cell p ty, .tmp u, .tmp v]) (tmps : Array Value) (P : Program) (w : World) :
    (results fn tmps).run P w = ((asAddr (tmps.getD p undef)).run P w).andThen fun a w₁ => ((loadVar ty a).run P w₁).andThen fun x w₂ => .ok (.tuple #[x, tmps.getD u undef, tmps.getD v undef]) w₂ := by
  simp only [results, h]
  simp [Sem.run_bind, Result.andThen]
set_option maxRecDepth 100000 in
set_option maxHeartbeats 1000000 in
theorem gained1_any (n num den q : Int) (tb gb cb k : Nat) (w : World) (hk : k < 64) (hn : n.natAbs ≤ 2047) (h1 : 0 ≤ num ∧ num ≤ 1000) (h2 : 1 ≤ den ∧ den ≤ 1000) (hq : 0 ≤ q ∧ q ≤ 64) (hcw : cb < w.heap.size)
    (ht : w.cell? ⟨tb, k, none⟩ = some (f32 n)) (hg0 : w.cell? ⟨gb, 0, none⟩ = some (.int .i64 num)) (hg1 : w.cell? ⟨gb, 1, none⟩ = some (.int .i64 den)) (hc : w.cell? ⟨cb, 0, none⟩ = some (.int .i64 q)) (hz : w.frozen? ⟨cb, 0, none⟩ = false) :
    Calls Try.prog 132 #[.int .i64 (k : Int), .pointer (some ⟨tb, 0, none⟩), .pointer (some ⟨gb, 0, none⟩), .pointer (some ⟨cb, 0, none⟩)] w fun e w' => e = .returned (.int .i64 (gC n num den)) ∧ But cb w w' ∧ w'.cell? ⟨cb, 0, none⟩ = some (.int .i64 (q + if gC n num den = gW n num den then 0 else 1)) ∧ w'.frozen? ⟨cb, 0, none⟩ = false := by
  have hb := mul_bd hn h1
  have KR := Lib.hid (fun W => brounded_any (n * num) den W h2.1 (by omega) (by omega) (by omega))
  have wr1 : IntKind.i64.wrap (n * num) = n * num := IntWalk.i64_in _ (by omega)
  have wr2 : IntKind.i64.wrap (q + 1) = q + 1 := IntWalk.i64_in _ (by omega)
  have hcv : ∀ w, _ := fun w => run_int32 n w (by omega)
  have HC := Lib.hid (show gC n num den = min (max (gW n num den) (-2047)) 2047 from rfl)
  rw [show (2 * (n * num) + den) / (2 * den) = gW n num den from rfl] at KR
  have e0 : (0 : Int) ≤ (k : Int) := by omega
  have e1 : (k : Int) < 64 := by omega
  unfold f32 at ht
  clear hb hn h1 h2
  generalize wd Ieee.single n = v at *
  generalize gW n num den = G at *
  generalize gC n num den = C at *
  go_enter Try.func132, Try.ntmps132
  go_wp2
  refine wp_region_held_drew (S := fun w' => w'.cell? ⟨tb, k, none⟩ = some (.float .f32 v) ∧ w'.cell? ⟨gb, 0, none⟩ = some (.int .i64 (num)) ∧ w'.cell? ⟨gb, 1, none⟩ = some (.int .i64 (den)) ∧ w'.cell? ⟨cb, 0, none⟩ = some (.int .i64 (q)) ∧ w'.frozen? ⟨cb, 0, none⟩ = false) (by kernel_rfl) ?_ (fun hH1 => ?_)
  · (first | assumption | (refine ⟨?_, ?_, ?_, ?_, ?_⟩ <;> assumption) | (go_keep; done) | (simp [*, go_sem]; done))
  refine wpAnyH_pure (i := 0) (v := ?_) rfl (by kernel_rfl) (by kernel_rfl) (by kernel_rfl) (fun _ _ _ h => h) (by rfl) (by assumption) ?_ ?_
  rotate_left
  · (intro w hSw; (try dsimp only at hSw); go_simp; (try with_reducible rfl))
  simp only [Act.put, List.getElem_toArray, List.getElem_cons_succ, List.getElem_cons_zero, List.setIfInBounds_toArray, List.set_cons_zero, List.set_cons_succ]
  refine wpAnyH_pure (i := 1) (v := ?_) rfl (by kernel_rfl) (by kernel_rfl) (by kernel_rfl) (fun _ _ _ h => h) (by rfl) (by assumption) ?_ ?_
  rotate_left
  · (intro w hSw; (try dsimp only at hSw); go_simp; (try with_reducible rfl))
  simp only [Act.put, List.getElem_toArray, List.getElem_cons_succ, List.getElem_cons_zero, List.setIfInBounds_toArray, List.set_cons_zero, List.set_cons_succ]
  refine wpAnyH_pure (i := 2) (v := ?_) rfl (by kernel_rfl) (by kernel_rfl) (by kernel_rfl) (fun _ _ _ h => h) (by rfl) (by assumption) ?_ ?_
  rotate_left
  · (intro w hSw; (try dsimp only at hSw); go_simp; (try with_reducible rfl))
  simp only [Act.put, List.getElem_toArray, List.getElem_cons_succ, List.getElem_cons_zero, List.setIfInBounds_toArray, List.set_cons_zero, List.set_cons_succ]
  refine wpAnyH_pure (i := 3) (v := ?_) rfl (by kernel_rfl) (by kernel_rfl) (by kernel_rfl) (fun _ _ _ h => h) (by rfl) (by assumption) ?_ ?_
  rotate_left
  · (intro w hSw; (try dsimp only at hSw); go_simp; (try with_reducible rfl))
  simp only [Act.put, List.getElem_toArray, List.getElem_cons_succ, List.getElem_cons_zero, List.setIfInBounds_toArray, List.set_cons_zero, List.set_cons_succ]
  refine wpAnyH_pure (i := 4) (v := ?_) rfl (by kernel_rfl) (by kernel_rfl) (by kernel_rfl) (fun _ _ _ h => h) (by rfl) (by assumption) ?_ ?_
  rotate_left
  · (intro w hSw; (try dsimp only at hSw); go_simp; (try with_reducible rfl))
  simp only [Act.put, List.getElem_toArray, List.getElem_cons_succ, List.getElem_cons_zero, List.setIfInBounds_toArray, List.set_cons_zero, List.set_cons_succ]
  refine wpAnyH_pure (i := 5) (v := ?_) rfl (by kernel_rfl) (by kernel_rfl) (by kernel_rfl) (fun _ _ _ h => h) (by rfl) (by assumption) ?_ ?_
  rotate_left
  · (intro w hSw; (try dsimp only at hSw); go_simp; (try with_reducible rfl))
  simp only [Act.put, List.getElem_toArray, List.getElem_cons_succ, List.getElem_cons_zero, List.setIfInBounds_toArray, List.set_cons_zero, List.set_cons_succ]
  refine wpAnyH_pure (i := 6) (v := ?_) rfl (by kernel_rfl) (by kernel_rfl) (by kernel_rfl) (fun _ _ _ h => h) (by rfl) (by assumption) ?_ ?_
  rotate_left
  · (intro w hSw; (try dsimp only at hSw); go_simp; (try with_reducible rfl))
  simp only [Act.put, List.getElem_toArray, List.getElem_cons_succ, List.getElem_cons_zero, List.setIfInBounds_toArray, List.set_cons_zero, List.set_cons_succ]
  refine wpAnyH_pure (i := 7) (v := ?_) rfl (by kernel_rfl) (by kernel_rfl) (by kernel_rfl) (fun _ _ _ h => h) (by rfl) (by assumption) ?_ ?_
  rotate_left
  · (intro w hSw; (try dsimp only at hSw); go_simp; (try with_reducible rfl))
  simp only [Act.put, List.getElem_toArray, List.getElem_cons_succ, List.getElem_cons_zero, List.setIfInBounds_toArray, List.set_cons_zero, List.set_cons_succ]
  refine wpAnyH_pure (i := 8) (v := ?_) rfl (by kernel_rfl) (by kernel_rfl) (by kernel_rfl) (fun _ _ _ h => h) (by rfl) (by assumption) ?_ ?_
  rotate_left
  · (intro w hSw; (try dsimp only at hSw); go_simp; (try with_reducible rfl))
  simp only [Act.put, List.getElem_toArray, List.getElem_cons_succ, List.getElem_cons_zero, List.setIfInBounds_toArray, List.set_cons_zero, List.set_cons_succ]
  refine wpAnyH_ready (rs := [9]) (by kernel_rfl) (by simp) ?_
  refine AllReadyH.cons rfl (fun Kq hKq => ?_) AllReadyH.nil
  go_simp
  refine (KR.out _).mono ?_
  (rintro e w' ⟨rfl, rfl⟩)
  refine hKq.out _ _ ?_ (fun hH2 => ?_)
  · (first | assumption | (refine ⟨?_, ?_, ?_, ?_, ?_⟩ <;> assumption) | (go_keep; done) | (simp [*, go_sem]; done))
  clear hKq Kq
  clear hH1
  refine wpAnyH_pure (i := 10) (v := ?_) rfl (by kernel_rfl) (by kernel_rfl) (by kernel_rfl) (fun _ _ _ h => h) (by rfl) (by assumption) ?_ ?_
  rotate_left
  · (intro w hSw; (try dsimp only at hSw); go_simp; (try with_reducible rfl))
  simp only [Act.put, List.getElem_toArray, List.getElem_cons_succ, List.getElem_cons_zero, List.setIfInBounds_toArray, List.set_cons_zero, List.set_cons_succ]
  refine wpAnyH_done (by kernel_rfl) ?_ _
  by_cases h : C = G
  · have hE := HC.out.symm
    have hne : (C != G) = false := by simp [h]
    go_wp2
    go_ret
    exact ⟨rfl, by have := But.then (But.refl cb w) (show Below w.heap.size w w.drew by (repeat' (first | (with_reducible exact Below.refl _ _) | (with_reducible assumption) | (with_reducible refine Below.alloc ?_ ?_ _) | (with_reducible refine Below.drew ?_) | (with_reducible refine below_drewN ?_ _) | (with_reducible refine Below.setCell ?_ ?_ _) | (with_reducible refine below_step (by with_reducible assumption) ?_ ?_) | (with_reducible exact Below.size (by with_reducible assumption)) | go_size))) (by omega); exact this, by simp [go_sem, *], by simp [go_sem, *]⟩
  · have hE := HC.out.symm
    have hne : (C != G) = true := by simpa using h
    go_wp2
    go_ret
    exact ⟨rfl, by have := (But.then (But.refl cb w) (show Below w.heap.size w w.drew by (repeat' (first | (with_reducible exact Below.refl _ _) | (with_reducible assumption) | (with_reducible refine Below.alloc ?_ ?_ _) | (with_reducible refine Below.drew ?_) | (with_reducible refine below_drewN ?_ _) | (with_reducible refine Below.setCell ?_ ?_ _) | (with_reducible refine below_step (by with_reducible assumption) ?_ ?_) | (with_reducible exact Below.size (by with_reducible assumption)) | go_size))) (by omega)).setCell (.int .i64 (q + 1)); exact this, by simp [go_sem, *], by simp [go_sem, *]⟩
end Go.Proofs.Ythgnemkfaiejbaa
