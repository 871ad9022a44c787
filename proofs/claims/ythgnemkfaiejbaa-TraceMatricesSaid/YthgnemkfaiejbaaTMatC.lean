/-
  MATRICES: CopyMatrix; CheckMatrix, both; errors of pairs, both.
-/
import Derived.Test.YthgnemkfaiejbaaTMat
import Derived.OwnWalk
import Derived.Laws.AppendOwn
set_option linter.unusedVariables false
set_option linter.unusedSimpArgs false
namespace Go.Proofs.Ythgnemkfaiejbaa
open Go.RowKit

theorem infoF32 : (Try.prog.info? 24).map (fun i => (i.zero, i.size, i.bytes)) = some (some (.float .f32 0), 1, 4) := by kernel_rfl
/-- a buffer -/
def Buf (w : World) (g : Nat) (u : Nat → Nat) (N cap : Nat) : Prop := (N ≤ cap ∧ cap ≤ maxLen) ∧ g < w.heap.size ∧ (∀ i, i < N → u i < 2 ^ 32) ∧ ∀ i, i < N → w.cell? ⟨g, i, none⟩ = some (.float .f32 (u i))
theorem Buf.below {w w' : World} {g : Nat} {u : Nat → Nat} {N cap : Nat} (h : Buf w g u N cap) (hb : Below w.heap.size w w') : Buf w' g u N cap :=
  ⟨h.1, Nat.lt_of_lt_of_le h.2.1 hb.size, h.2.2.1, fun i hi => (hb.cell (p := ⟨g, i, none⟩) h.2.1).trans (h.2.2.2 i hi)⟩
theorem Buf.alloc {w : World} {g : Nat} {u : Nat → Nat} {N cap : Nat} (h : Buf w g u N cap) (o : Obj) : Buf (w.alloc o) g u N cap := h.below ((Below.refl _ w).alloc (Nat.le_refl _) o)
theorem Buf.setCell {w : World} {g : Nat} {u : Nat → Nat} {N cap : Nat} (h : Buf w g u N cap) {b : Nat} (hb : ¬ b = g) (i : Nat) (v : Value) : Buf (w.setCell ⟨b, i, none⟩ v) g u N cap :=
  ⟨h.1, by rw [World.size_setCell]; exact h.2.1, h.2.2.1, fun k hk => (World.cell?_setCell_far _ _ _ _ (by exact fun e => hb e)).trans (h.2.2.2 k hk)⟩
theorem Buf.drew {w : World} {g : Nat} {u : Nat → Nat} {N cap : Nat} (h : Buf w g u N cap) : Buf w.drew g u N cap := h
theorem Buf.of_block {w : World} {g : Nat} {u : Nat → Nat} {N cap : Nat} {c : Array Value} {t : TypeId} (hc : N ≤ cap ∧ cap ≤ maxLen) (hu : ∀ i, i < N → u i < 2 ^ 32) (hg : w.heap[g]? = some (.cells c t (0, 0))) (h : ∀ i, i < N → c[i]? = some (.float .f32 (u i))) : Buf w g u N cap :=
  ⟨hc, (Array.getElem?_eq_some_iff.1 hg).1, hu, fun i hi => (cell_block hg).trans (h i hi)⟩
/-- the error of a matrix, and the number -/
def oE (E : Int) (u : Nat → Nat) (N : Nat) : Int := if inB E 1 16 = true then (if (N : Int) = E * E * 64 then cE u N else 10) else 2
def oN (E : Int) (u : Nat → Nat) (N : Nat) : Int := if inB E 1 16 = true then (if (N : Int) = E * E * 64 then cN u N else 0) else 0
set_option maxRecDepth 100000 in
set_option maxHeartbeats 1000000 in
theorem checkMatrix_any (E : Int) (u : Nat → Nat) (g N cap : Nat) (w : World) (hN : N ≤ 20000) (hb : Hid (Buf w g u N cap)) :
    Calls Try.prog 26 #[.agg #[.int .i64 E, .slice (some ⟨g, 0, none⟩) N cap]] w fun e w' => e = .returned (.tuple #[.int .i64 (oN E u N), .int .i64 (oE E u N)]) ∧ Below w.heap.size w w' := by
  have HO := Lib.hid (show oN E u N = if inB E 1 16 = true then (if (N : Int) = E * E * 64 then cN u N else 0) else 0 from rfl)
  have HE := Lib.hid (show oE E u N = if inB E 1 16 = true then (if (N : Int) = E * E * 64 then cE u N else 10) else 2 from rfl)
  have K := Lib.hid (fun (W : World) (hB : Below w.heap.size w W) => samplesError_w u (some ⟨g, 0, none⟩) g N cap W hN (hb.out.below hB).1 (fun _ => rfl) (Lib.hid (hb.out.below hB).2.2.1) (Lib.hid (hb.out.below hB).2.2.2))
  rw [show nE (fun k => eS (u k)) N = cN u N from rfl, show vE (fun k => eS (u k)) N = cE u N from rfl] at K
  have hmax := hb.out.1
  unfold maxLen at hmax
  clear hb
  generalize oN E u N = A at *
  generalize oE E u N = B at *
  generalize cN u N = C at *
  generalize cE u N = D at *
  cases hE : inB E 1 16 with
  | false =>
    rw [hE] at HO HE
    have ha := HO.out
    have hb := HE.out
    simp only [Bool.false_eq_true, if_false] at ha hb
    subst ha hb
    have KR := Lib.hid (fun W => rangeError_any E 1 16 W)
    rw [show unl (inB E 1 16) 2 = 2 by unfold unl; rw [hE]; rfl] at KR
    clear hE K
    go_enter Try.func26, Try.ntmps26
    go_wp2_with fail
    refine (KR.out _).mono ?_
    rintro e w' ⟨rfl, rfl⟩
    go_wp2
    go_ret2
    exact ⟨rfl, by (repeat' (first | (with_reducible exact Below.refl _ _) | (with_reducible assumption) | (with_reducible refine Below.alloc ?_ ?_ _) | (with_reducible refine Below.drew ?_) | (with_reducible refine below_drewN ?_ _) | (with_reducible refine Below.setCell ?_ ?_ _) | (with_reducible refine below_step (by with_reducible assumption) ?_ ?_) | (with_reducible exact Below.size (by with_reducible assumption)) | go_size))⟩
  | true =>
    have KR := Lib.hid (fun W => rangeError_any E 1 16 W)
    rw [show unl (inB E 1 16) 2 = 0 by unfold unl; rw [hE]; rfl] at KR
    rw [hE] at HO HE
    have hEb : 1 ≤ E ∧ E ≤ 16 := by unfold inB at hE; simpa using hE
    have hEE : E * E ≤ 16 * 16 := Int.mul_le_mul hEb.2 hEb.2 (by omega) (by omega)
    have hEE0 : 0 ≤ E * E := Int.mul_nonneg (by omega) (by omega)
    have wr1 : IntKind.i64.wrap (E * E) = E * E := IntWalk.i64_in _ (by omega)
    have wr2 : IntKind.i64.wrap (E * E * 64) = E * E * 64 := IntWalk.i64_in _ (by omega)
    clear hE hEE hEE0 hEb
    by_cases hN2 : (N : Int) = E * E * 64
    · have ha := HO.out
      have hb := HE.out
      rw [if_pos rfl, if_pos hN2] at ha hb
      subst ha hb
      have e1 : ((N : Int) != E * E * 64) = false := by simp [hN2]
      have HN2 := Lib.hid hN2
      clear hN2
      go_enter Try.func26, Try.ntmps26
      go_wp2_with fail
      refine (KR.out _).mono ?_
      rintro e w' ⟨rfl, rfl⟩
      go_wp2_with fail
      refine (K.out _ (by (repeat' (first | (with_reducible exact Below.refl _ _) | (with_reducible assumption) | (with_reducible refine Below.alloc ?_ ?_ _) | (with_reducible refine Below.drew ?_) | (with_reducible refine below_drewN ?_ _) | (with_reducible refine Below.setCell ?_ ?_ _) | (with_reducible refine below_step (by with_reducible assumption) ?_ ?_) | (with_reducible exact Below.size (by with_reducible assumption)) | go_size)))).mono ?_
      rintro e w' ⟨rfl, q, rfl⟩
      go_wp2
      go_ret2
      exact ⟨rfl, by (repeat' (first | (with_reducible exact Below.refl _ _) | (with_reducible assumption) | (with_reducible refine Below.alloc ?_ ?_ _) | (with_reducible refine Below.drew ?_) | (with_reducible refine below_drewN ?_ _) | (with_reducible refine Below.setCell ?_ ?_ _) | (with_reducible refine below_step (by with_reducible assumption) ?_ ?_) | (with_reducible exact Below.size (by with_reducible assumption)) | go_size))⟩
    · have ha := HO.out
      have hb := HE.out
      rw [if_pos rfl, if_neg hN2] at ha hb
      subst ha hb
      have e1 : ((N : Int) != E * E * 64) = true := by simp [hN2]
      clear hN2 K
      go_enter Try.func26, Try.ntmps26
      go_wp2_with fail
      refine (KR.out _).mono ?_
      rintro e w' ⟨rfl, rfl⟩
      go_wp2
      go_ret2
      exact ⟨rfl, by (repeat' (first | (with_reducible exact Below.refl _ _) | (with_reducible assumption) | (with_reducible refine Below.alloc ?_ ?_ _) | (with_reducible refine Below.drew ?_) | (with_reducible refine below_drewN ?_ _) | (with_reducible refine Below.setCell ?_ ?_ _) | (with_reducible refine below_step (by with_reducible assumption) ?_ ?_) | (with_reducible exact Below.size (by with_reducible assumption)) | go_size))⟩
set_option maxRecDepth 100000 in
set_option maxHeartbeats 1000000 in
theorem checkMatrixR_any (E : Int) (u : Nat → Nat) (g N cap : Nat) (w : World) (hN : N ≤ 20000) (hb : Hid (Buf w g u N cap)) :
    Calls Try.prog 29 #[.agg #[.int .i64 E, .slice (some ⟨g, 0, none⟩) N cap]] w fun e w' => e = .returned (.tuple #[.int .i64 (oN E u N), .int .i64 (oE E u N)]) ∧ Below w.heap.size w w' := by
  have HO := Lib.hid (show oN E u N = if inB E 1 16 = true then (if (N : Int) = E * E * 64 then cN u N else 0) else 0 from rfl)
  have HE := Lib.hid (show oE E u N = if inB E 1 16 = true then (if (N : Int) = E * E * 64 then cE u N else 10) else 2 from rfl)
  have K := Lib.hid (fun (W : World) (hB : Below w.heap.size w W) => samplesErrR_w u (some ⟨g, 0, none⟩) g N cap W hN (hb.out.below hB).1 (fun _ => rfl) (Lib.hid (hb.out.below hB).2.2.1) (Lib.hid (hb.out.below hB).2.2.2))
  rw [show nE (fun k => eS (u k)) N = cN u N from rfl, show vE (fun k => eS (u k)) N = cE u N from rfl] at K
  have hmax := hb.out.1
  unfold maxLen at hmax
  clear hb
  generalize oN E u N = A at *
  generalize oE E u N = B at *
  generalize cN u N = C at *
  generalize cE u N = D at *
  have KR := Lib.hid (fun W => bwithin_any E 1 16 W)
  cases hE : inB E 1 16 with
  | false =>
    rw [hE] at HO HE KR
    have ha := HO.out
    have hb := HE.out
    simp only [Bool.false_eq_true, if_false] at ha hb
    subst ha hb
    clear hE K
    go_enter Try.func29, Try.ntmps29
    go_wp2_with fail
    refine (KR.out _).mono ?_
    rintro e w' ⟨rfl, rfl⟩
    go_wp2
    go_ret2
    exact ⟨rfl, by (repeat' (first | (with_reducible exact Below.refl _ _) | (with_reducible assumption) | (with_reducible refine Below.alloc ?_ ?_ _) | (with_reducible refine Below.drew ?_) | (with_reducible refine below_drewN ?_ _) | (with_reducible refine Below.setCell ?_ ?_ _) | (with_reducible refine below_step (by with_reducible assumption) ?_ ?_) | (with_reducible exact Below.size (by with_reducible assumption)) | go_size))⟩
  | true =>
    rw [hE] at HO HE KR
    have hEb : 1 ≤ E ∧ E ≤ 16 := by unfold inB at hE; simpa using hE
    have hEE : E * E ≤ 16 * 16 := Int.mul_le_mul hEb.2 hEb.2 (by omega) (by omega)
    have hEE0 : 0 ≤ E * E := Int.mul_nonneg (by omega) (by omega)
    have wr1 : IntKind.i64.wrap (E * E) = E * E := IntWalk.i64_in _ (by omega)
    have wr2 : IntKind.i64.wrap (E * E * 64) = E * E * 64 := IntWalk.i64_in _ (by omega)
    clear hE hEE hEE0 hEb
    by_cases hN2 : (N : Int) = E * E * 64
    · have ha := HO.out
      have hb := HE.out
      rw [if_pos rfl, if_pos hN2] at ha hb
      subst ha hb
      have e1 : ((N : Int) != E * E * 64) = false := by simp [hN2]
      have HN2 := Lib.hid hN2
      clear hN2
      go_enter Try.func29, Try.ntmps29
      go_wp2_with fail
      refine (KR.out _).mono ?_
      rintro e w' ⟨rfl, rfl⟩
      go_wp2_with fail
      refine (K.out _ (by (repeat' (first | (with_reducible exact Below.refl _ _) | (with_reducible assumption) | (with_reducible refine Below.alloc ?_ ?_ _) | (with_reducible refine Below.drew ?_) | (with_reducible refine below_drewN ?_ _) | (with_reducible refine Below.setCell ?_ ?_ _) | (with_reducible refine below_step (by with_reducible assumption) ?_ ?_) | (with_reducible exact Below.size (by with_reducible assumption)) | go_size)))).mono ?_
      rintro e w' ⟨rfl, q, rfl⟩
      go_wp2
      go_ret2
      exact ⟨rfl, by (repeat' (first | (with_reducible exact Below.refl _ _) | (with_reducible assumption) | (with_reducible refine Below.alloc ?_ ?_ _) | (with_reducible refine Below.drew ?_) | (with_reducible refine below_drewN ?_ _) | (with_reducible refine Below.setCell ?_ ?_ _) | (with_reducible refine below_step (by with_reducible assumption) ?_ ?_) | (with_reducible exact Below.size (by with_reducible assumption)) | go_size))⟩
    · have ha := HO.out
      have hb := HE.out
      rw [if_pos rfl, if_neg hN2] at ha hb
      subst ha hb
      have e1 : ((N : Int) != E * E * 64) = true := by simp [hN2]
      clear hN2 K
      go_enter Try.func29, Try.ntmps29
      go_wp2_with fail
      refine (KR.out _).mono ?_
      rintro e w' ⟨rfl, rfl⟩
      go_wp2
      go_ret2
      exact ⟨rfl, by (repeat' (first | (with_reducible exact Below.refl _ _) | (with_reducible assumption) | (with_reducible refine Below.alloc ?_ ?_ _) | (with_reducible refine Below.drew ?_) | (with_reducible refine below_drewN ?_ _) | (with_reducible refine Below.setCell ?_ ?_ _) | (with_reducible refine below_step (by with_reducible assumption) ?_ ?_) | (with_reducible exact Below.size (by with_reducible assumption)) | go_size))⟩
set_option maxRecDepth 100000 in
set_option maxHeartbeats 1000000 in
theorem matrixError_any (E : Int) (u : Nat → Nat) (g N cap : Nat) (w : World) (hN : N ≤ 20000) (hb : Hid (Buf w g u N cap)) :
    Calls Try.prog 100 #[.agg #[.int .i64 E, .slice (some ⟨g, 0, none⟩) N cap]] w fun e w' => e = .returned (.int .i64 (oE E u N)) ∧ Below w.heap.size w w' := by
  have K := Lib.hid (fun (W : World) (hB : Below w.heap.size w W) => checkMatrix_any E u g N cap W hN (Lib.hid (hb.out.below hB)))
  clear hb
  generalize oN E u N = A at *
  generalize oE E u N = B at *
  go_enter Try.func100, Try.ntmps100
  go_wp2_with fail
  refine (K.out _ (by (repeat' (first | (with_reducible exact Below.refl _ _) | (with_reducible assumption) | (with_reducible refine Below.alloc ?_ ?_ _) | (with_reducible refine Below.drew ?_) | (with_reducible refine below_drewN ?_ _) | (with_reducible refine Below.setCell ?_ ?_ _) | (with_reducible refine below_step (by with_reducible assumption) ?_ ?_) | (with_reducible exact Below.size (by with_reducible assumption)) | go_size)))).mono ?_
  rintro e w1 ⟨rfl, hw1⟩
  have hz1 := hw1.size
  go_wp2
  go_ret
  exact ⟨rfl, by (repeat' (first | (with_reducible exact Below.refl _ _) | (with_reducible assumption) | (with_reducible refine Below.alloc ?_ ?_ _) | (with_reducible refine Below.drew ?_) | (with_reducible refine below_drewN ?_ _) | (with_reducible refine Below.setCell ?_ ?_ _) | (with_reducible refine below_step (by with_reducible assumption) ?_ ?_) | (with_reducible exact Below.size (by with_reducible assumption)) | go_size))⟩
/-- the error of an element, of a pair -/
def lE (n E : Int) : Int := unl (inB n 0 (wrap64 (E - 1))) 6
def pE (a b E : Int) : Int := frst [lE a E, lE b E]
theorem elementError_any (n E : Int) (w : World) : Calls Try.prog 161 #[.int .i64 n, .int .i64 E] w fun e w' => e = .returned (.int .i64 (lE n E)) ∧ w = w' := by
  have HE := Lib.hid (show lE n E = unl (inB n 0 (wrap64 (E - 1))) 6 from rfl)
  generalize lE n E = A at *
  go_enter Try.func161, Try.ntmps161
  go_wp2_with (first | (go_at_call 160; refine (within_any _ _ _ _).mono ?_; rintro e w' ⟨rfl, rfl⟩) | (go_at_call 123; refine (unless_any _ _ _).mono ?_; rintro e w' ⟨rfl, rfl⟩))
  go_ret
  exact ⟨ri (show unl (inB n 0 (wrap64 (E - 1))) 6 = A from HE.out.symm), rfl⟩
set_option maxRecDepth 100000 in
set_option maxHeartbeats 1000000 in
theorem pairError_any (a b E : Int) (w : World) : Calls Try.prog 101 #[.agg #[.int .i64 a, .int .i64 b], .int .i64 E] w fun e w' => e = .returned (.int .i64 (pE a b E)) ∧ Below w.heap.size w w' := by
  have HE := Lib.hid (show pE a b E = frst [lE a E, lE b E] from rfl)
  go_enter Try.func101, Try.ntmps101
  go_wp2
  refine wp_region_held_drew (S := fun w' => w'.cell? ⟨w.heap.size, 0, none⟩ = some (.int .i64 (a)) ∧ w'.cell? ⟨w.heap.size, 1, none⟩ = some (.int .i64 (b))) (by kernel_rfl) ?_ (fun hH1 => ?_)
  · (first | assumption | (refine ⟨?_, ?_⟩ <;> assumption) | (go_keep; done) | (simp [*, go_sem]; done))
  refine wpAnyH_pure (i := 0) (v := ?_) rfl (by kernel_rfl) (by kernel_rfl) (by kernel_rfl) (fun _ _ _ h => h) (by rfl) (by assumption) ?_ ?_
  rotate_left
  · (intro w hSw; (try dsimp only at hSw); go_simp; (try with_reducible rfl))
  simp only [Act.put, List.getElem_toArray, List.getElem_cons_succ, List.getElem_cons_zero, List.setIfInBounds_toArray, List.set_cons_zero, List.set_cons_succ]
  refine wpAnyH_pure (i := 1) (v := ?_) rfl (by kernel_rfl) (by kernel_rfl) (by kernel_rfl) (fun _ _ _ h => h) (by rfl) (by assumption) ?_ ?_
  rotate_left
  · (intro w hSw; (try dsimp only at hSw); go_simp; (try with_reducible rfl))
  simp only [Act.put, List.getElem_toArray, List.getElem_cons_succ, List.getElem_cons_zero, List.setIfInBounds_toArray, List.set_cons_zero, List.set_cons_succ]
  refine wpAnyH_pure (i := 2) (v := ?_) rfl (by kernel_rfl) (by kernel_rfl) (by kernel_rfl) (fun _ _ _ h => h) (by rfl) (by assumption) ?_ ?_
  rotate_left
  · (intro w hSw; (try dsimp only at hSw); go_simp; (try with_reducible rfl))
  simp only [Act.put, List.getElem_toArray, List.getElem_cons_succ, List.getElem_cons_zero, List.setIfInBounds_toArray, List.set_cons_zero, List.set_cons_succ]
  refine wpAnyH_pure (i := 4) (v := ?_) rfl (by kernel_rfl) (by kernel_rfl) (by kernel_rfl) (fun _ _ _ h => h) (by rfl) (by assumption) ?_ ?_
  rotate_left
  · (intro w hSw; (try dsimp only at hSw); go_simp; (try with_reducible rfl))
  simp only [Act.put, List.getElem_toArray, List.getElem_cons_succ, List.getElem_cons_zero, List.setIfInBounds_toArray, List.set_cons_zero, List.set_cons_succ]
  refine wpAnyH_pure (i := 5) (v := ?_) rfl (by kernel_rfl) (by kernel_rfl) (by kernel_rfl) (fun _ _ _ h => h) (by rfl) (by assumption) ?_ ?_
  rotate_left
  · (intro w hSw; (try dsimp only at hSw); go_simp; (try with_reducible rfl))
  simp only [Act.put, List.getElem_toArray, List.getElem_cons_succ, List.getElem_cons_zero, List.setIfInBounds_toArray, List.set_cons_zero, List.set_cons_succ]
  refine wpAnyH_pure (i := 6) (v := ?_) rfl (by kernel_rfl) (by kernel_rfl) (by kernel_rfl) (fun _ _ _ h => h) (by rfl) (by assumption) ?_ ?_
  rotate_left
  · (intro w hSw; (try dsimp only at hSw); go_simp; (try with_reducible rfl))
  simp only [Act.put, List.getElem_toArray, List.getElem_cons_succ, List.getElem_cons_zero, List.setIfInBounds_toArray, List.set_cons_zero, List.set_cons_succ]
  refine wpAnyH_ready (rs := [3]) (by kernel_rfl) (by simp) ?_
  refine AllReadyH.cons rfl (fun Kq hKq => ?_) AllReadyH.nil
  go_simp
  refine (elementError_any _ _ _).mono ?_
  (rintro e w' ⟨rfl, rfl⟩)
  refine hKq.out _ _ ?_ (fun hH2 => ?_)
  · (first | assumption | (refine ⟨?_, ?_⟩ <;> assumption) | (go_keep; done) | (simp [*, go_sem]; done))
  clear hKq Kq
  clear hH1
  refine wpAnyH_ready (rs := [7]) (by kernel_rfl) (by simp) ?_
  refine AllReadyH.cons rfl (fun Kq hKq => ?_) AllReadyH.nil
  go_simp
  refine (elementError_any _ _ _).mono ?_
  (rintro e w' ⟨rfl, rfl⟩)
  refine hKq.out _ _ ?_ (fun hH3 => ?_)
  · (first | assumption | (refine ⟨?_, ?_⟩ <;> assumption) | (go_keep; done) | (simp [*, go_sem]; done))
  clear hKq Kq
  clear hH2
  refine wpAnyH_ready (rs := [8]) (by kernel_rfl) (by simp) ?_
  refine AllReadyH.cons rfl (fun Kq hKq => ?_) AllReadyH.nil
  go_simp
  refine hKq.out _ _ ?_ (fun hH4 => ?_)
  · (first | assumption | (refine ⟨?_, ?_⟩ <;> assumption) | (go_keep; done) | (simp [*, go_sem]; done))
  clear hKq Kq
  clear hH3
  refine wpAnyH_ready (rs := [9]) (by kernel_rfl) (by simp) ?_
  refine AllReadyH.cons rfl (fun Kq hKq => ?_) AllReadyH.nil
  go_simp
  apply Calls.mono
  focus ((apply first2 <;> exact cell_fresh _ _ _ _ _ _ (by first | rfl | simp) rfl); done)
  (rintro e w' ⟨rfl, rfl⟩)
  refine hKq.out _ _ ?_ (fun hH5 => ?_)
  · (first | assumption | (refine ⟨?_, ?_⟩ <;> assumption) | (go_keep; done) | (simp [*, go_sem]; done))
  clear hKq Kq
  clear hH4
  refine wpAnyH_pure (i := 10) (v := ?_) rfl (by kernel_rfl) (by kernel_rfl) (by kernel_rfl) (fun _ _ _ h => h) (by rfl) (by assumption) ?_ ?_
  rotate_left
  · (intro w hSw; (try dsimp only at hSw); go_simp; (try with_reducible rfl))
  simp only [Act.put, List.getElem_toArray, List.getElem_cons_succ, List.getElem_cons_zero, List.setIfInBounds_toArray, List.set_cons_zero, List.set_cons_succ]
  refine wpAnyH_done (by kernel_rfl) ?_ _
  go_wp2
  go_ret
  exact ⟨ri HE.out.symm, by (repeat' (first | (with_reducible exact Below.refl _ _) | (with_reducible assumption) | (with_reducible refine Below.alloc ?_ ?_ _) | (with_reducible refine Below.drew ?_) | (with_reducible refine below_drewN ?_ _) | (with_reducible refine Below.setCell ?_ ?_ _) | (with_reducible refine below_step (by with_reducible assumption) ?_ ?_) | (with_reducible exact Below.size (by with_reducible assumption)) | go_size))⟩
theorem buf_own {w : World} {g N cap : Nat} {u : Nat → Nat} {cur : Array Value} {t : TypeId} (hg : w.heap[g]? = some (.cells cur t (0, 0))) (h1 : N ≤ cap) (h2 : cap ≤ maxLen) (hu : ∀ i, i < N → u i < 2 ^ 32) (h4 : cur.toList.take N = (List.range N).map fun i => Value.float .f32 (u i)) : Buf w g u N cap :=
  Buf.of_block ⟨h1, h2⟩ hu hg fun i hi => by
    have e : (cur.toList.take N)[i]? = ((List.range N).map fun i => Value.float .f32 (u i))[i]? := by rw [h4]
    rw [List.getElem?_take_of_lt hi, List.getElem?_map, List.getElem?_range hi] at e
    rw [← Array.getElem?_toList, e]; rfl
theorem buf_news {w : World} {g N cap : Nat} {u : Nat → Nat} (h : Buf w g u N cap) : ∀ (j : Nat) (v : Value), ((List.range N).map fun i => Value.float .f32 (u i))[j]? = some v → w.cell? ((⟨g, 0, none⟩ : Addr).add j) = some v := by
  intro j v hj
  rw [List.getElem?_map] at hj
  by_cases hjN : j < N
  · rw [List.getElem?_range hjN] at hj
    simp only [Option.map_some, Option.some.injEq] at hj
    subst hj
    rw [Addr.add_lit, Nat.zero_add]
    exact h.2.2.2 j hjN
  · rw [List.getElem?_eq_none (by simpa using hjN)] at hj
    cases hj
theorem buf_one (N : Nat) (u : Nat → Nat) : ∀ v ∈ (List.range N).map fun i => Value.float .f32 (u i), v.oneCell' = true := by
  intro v hv
  simp only [List.mem_map] at hv
  obtain ⟨i, _, rfl⟩ := hv
  rfl
set_option maxRecDepth 100000 in
set_option maxHeartbeats 1000000 in
theorem copyMatrix_any (E : Int) (u : Nat → Nat) (g N cap : Nat) (w : World) (hN : N ≤ 20000) (hb : Hid (Buf w g u N cap)) :
    Calls Try.prog 27 #[.agg #[.int .i64 E, .slice (some ⟨g, 0, none⟩) N cap]] w fun e w' => ∃ g' c', e = .returned (.agg #[.int .i64 E, .slice (some ⟨g', 0, none⟩) N c']) ∧ Hid (Buf w' g' u N c') ∧ Below w.heap.size w w' := by
  obtain ⟨i0, hi, hz0, hz1, hz2⟩ := info_parts1 infoF32
  have HI := Lib.hid hi
  have HZ := Lib.hid hz0
  have HZ1 := Lib.hid hz1
  have HZ2 := Lib.hid hz2
  clear hi hz0 hz1 hz2
  have hmax := hb.out.1
  unfold maxLen at hmax
  have hgl := hb.out.2.1
  go_enter Try.func27, Try.ntmps27
  go_wp2
  first | refine abs_calls (fun w2 hw2 => ?_) | refine abs_last (fun w2 hw2 => ?_)
  have hw20 : Below w.heap.size w w2 := by rw [hw2]; (repeat' (first | (with_reducible exact Below.refl _ _) | (with_reducible assumption) | (with_reducible refine Below.alloc ?_ ?_ _) | (with_reducible refine Below.drew ?_) | (with_reducible refine below_drewN ?_ _) | (with_reducible refine Below.setCell ?_ ?_ _) | (with_reducible refine below_step (by with_reducible assumption) ?_ ?_) | (with_reducible exact Below.size (by with_reducible assumption)) | go_size))
  have hzz2 := hw20.size
  have cm2_0 : w2.cell? ⟨w.heap.size, 0, none⟩ = some (.int .i64 (E)) := by (first | (rw [hw2]; assumption) | (simp [go_sem, *]; done))
  have cm2_1 : w2.cell? ⟨w.heap.size, 1, none⟩ = some (.slice (some ⟨g, 0, none⟩) N cap) := by (first | (rw [hw2]; assumption) | (simp [go_sem, *]; done))
  have crz2_0 : w2.cell? ⟨w.heap.size + 1, 0, none⟩ = some (.int .i64 (0)) := by (first | (rw [hw2]; assumption) | (simp [go_sem, *]; done))
  have prz2_0 : w2.frozen? ⟨w.heap.size + 1, 0, none⟩ = false := by (first | (rw [hw2]; assumption) | (simp [go_sem, *]; done))
  have crz2_1 : w2.cell? ⟨w.heap.size + 1, 1, none⟩ = some (.slice none 0 0) := by (first | (rw [hw2]; assumption) | (simp [go_sem, *]; done))
  have prz2_1 : w2.frozen? ⟨w.heap.size + 1, 1, none⟩ = false := by (first | (rw [hw2]; assumption) | (simp [go_sem, *]; done))
  have hz20 : w.heap.size < w2.heap.size := by (first | (rw [hw2]; simp; omega) | (rw [hw2]; simp; done) | (rw [hw2]; omega))
  have hz21 : w.heap.size + 1 < w2.heap.size := by (first | (rw [hw2]; simp; omega) | (rw [hw2]; simp; done) | (rw [hw2]; omega))
  have hs2 : w2.heap.size = w.heap.size + 1 + 1 := by rw [hw2]; first | assumption | ((repeat' (first | (with_reducible exact Below.refl _ _) | (with_reducible assumption) | (with_reducible refine Below.alloc ?_ ?_ _) | (with_reducible refine Below.drew ?_) | (with_reducible refine below_drewN ?_ _) | (with_reducible refine Below.setCell ?_ ?_ _) | (with_reducible refine below_step (by with_reducible assumption) ?_ ?_) | (with_reducible exact Below.size (by with_reducible assumption)) | go_size)))
  clear hw2
  have hb2 := Lib.hid (hb.out.below hw20)
  have hOwn := Lib.hid (show (w2.alloc (.cells #[] 24)).ownsRow w2.heap.size 24 1 (.slice (some ⟨w.heap.size + 1 + 1, 0, none⟩) 0 0) 0 [] by
    have := World.ownsRow_made (e := 24) (size := 1) w2 #[] 0 (Nat.le_refl w2.heap.size) (by unfold maxLen; omega) rfl
    rw [hs2] at this ⊢
    exact this)
  refine wp_region_held_drew (S := fun w' => w'.cell? ⟨w.heap.size, 0, none⟩ = some (.int .i64 (E)) ∧ w'.cell? ⟨w.heap.size, 1, none⟩ = some (.slice (some ⟨g, 0, none⟩) N cap)) (by kernel_rfl) ?_ (fun hH1 => ?_)
  · (first | assumption | (refine ⟨?_, ?_⟩ <;> assumption) | (go_keep; done) | (simp [*, go_sem]; done))
  refine wpAnyH_pure (i := 0) (v := ?_) rfl (by kernel_rfl) (by kernel_rfl) (by kernel_rfl) (fun _ _ _ h => h) (by rfl) (by assumption) ?_ ?_
  rotate_left
  · (intro w hSw; (try dsimp only at hSw); go_simp; (try with_reducible rfl))
  simp only [Act.put, List.getElem_toArray, List.getElem_cons_succ, List.getElem_cons_zero, List.setIfInBounds_toArray, List.set_cons_zero, List.set_cons_succ]
  refine wpAnyH_pure (i := 1) (v := ?_) rfl (by kernel_rfl) (by kernel_rfl) (by kernel_rfl) (fun _ _ _ h => h) (by rfl) (by assumption) ?_ ?_
  rotate_left
  · (intro w hSw; (try dsimp only at hSw); go_simp; (try with_reducible rfl))
  simp only [Act.put, List.getElem_toArray, List.getElem_cons_succ, List.getElem_cons_zero, List.setIfInBounds_toArray, List.set_cons_zero, List.set_cons_succ]
  refine wpAnyH_pure (i := 3) (v := ?_) rfl (by kernel_rfl) (by kernel_rfl) (by kernel_rfl) (fun _ _ _ h => h) (by rfl) (by assumption) ?_ ?_
  rotate_left
  · (intro w hSw; (try dsimp only at hSw); go_simp; (try with_reducible rfl))
  simp only [Act.put, List.getElem_toArray, List.getElem_cons_succ, List.getElem_cons_zero, List.setIfInBounds_toArray, List.set_cons_zero, List.set_cons_succ]
  refine wpAnyH_pure (i := 4) (v := ?_) rfl (by kernel_rfl) (by kernel_rfl) (by kernel_rfl) (fun _ _ _ h => h) (by rfl) (by assumption) ?_ ?_
  rotate_left
  · (intro w hSw; (try dsimp only at hSw); go_simp; (try with_reducible rfl))
  simp only [Act.put, List.getElem_toArray, List.getElem_cons_succ, List.getElem_cons_zero, List.setIfInBounds_toArray, List.set_cons_zero, List.set_cons_succ]
  refine wpAnyH_ready (rs := [2]) (by kernel_rfl) (by simp) ?_
  refine AllReadyH.cons rfl (fun Kq hKq => ?_) AllReadyH.nil
  go_simp
  refine hKq.out _ _ ?_ (fun hH2 => ?_)
  · (first | assumption | (refine ⟨?_, ?_⟩ <;> assumption) | (go_keep; done) | (simp [*, go_sem]; done))
  clear hKq Kq
  clear hH1
  refine wpAnyH_ready (rs := [5]) (by kernel_rfl) (by simp) ?_
  refine AllReadyH.cons rfl (fun Kq hKq => ?_) AllReadyH.nil
  rw [if_pos (by rfl)]
  refine wp_append_own _ (.tmp 5) (.tmp 7) 22 rfl w2.heap.size 24 i0 (.float .f32 0) 1 4 Try.underlying22 HI.out HZ.out HZ1.out HZ2.out rfl (by decide) _ 0 [] rfl hOwn.out.drew ⟨g, 0, none⟩ N cap ((List.range N).map fun i => Value.float .f32 (u i)) rfl (by simp) (buf_news (hb2.out.alloc _)) (buf_one N u) (by unfold maxLen; omega) (by omega) (by simp) ?_
  intro v' wA hown' hgrow hnn
  have hx := hown'.2
  rcases hx with ⟨hv, _⟩ | ⟨g', c', cur, rfl, hbg, hgA, hn1, hn2, hn3, hn4⟩
  · (have hv2 : Value.slice (some ⟨w.heap.size + 1 + 1, 0, none⟩) 0 0 = .slice none 0 0 := (hnn.1 hv).1; cases hv2)
  have hBA : Below w2.heap.size w2 wA := Below.grown (Below.drew ((Below.refl _ w2).alloc (Nat.le_refl _) _)) hgrow (by simp) (fun b hb => by have hb' : some (w.heap.size + 1 + 1) = some b := hb; cases hb'; omega)
  rw [Nat.zero_add] at hn1 hn4
  rw [List.nil_append, Nat.mul_one] at hn4
  have hBuf : Hid (Buf wA g' u N c') := Lib.hid (buf_own hgA hn1 hn2 hb.out.2.2.1 hn4)
  have cmA_0 : wA.cell? ⟨w.heap.size, 0, none⟩ = some (.int .i64 (E)) := ((bcell (hBA)).1 _ _ (by omega)).trans cm2_0
  have cmA_1 : wA.cell? ⟨w.heap.size, 1, none⟩ = some (.slice (some ⟨g, 0, none⟩) N cap) := ((bcell (hBA)).1 _ _ (by omega)).trans cm2_1
  have crzA_0 : wA.cell? ⟨w.heap.size + 1, 0, none⟩ = some (.int .i64 (0)) := ((bcell (hBA)).1 _ _ (by omega)).trans crz2_0
  have crzA_1 : wA.cell? ⟨w.heap.size + 1, 1, none⟩ = some (.slice none 0 0) := ((bcell (hBA)).1 _ _ (by omega)).trans crz2_1
  have hz0 := ((bcell hBA).2 (w.heap.size + 1) 0 (by omega)).trans prz2_0
  have hz1 := ((bcell hBA).2 (w.heap.size + 1) 1 (by omega)).trans prz2_1
  clear hown' hgrow hnn hgA hn4
  refine hKq.out _ _ ?_ (fun hH3 => ?_)
  · (first | assumption | (refine ⟨?_, ?_⟩ <;> assumption) | (go_keep; done) | (simp [*, go_sem]; done))
  clear hKq Kq
  clear hH2
  refine wpAnyH_pure (i := 6) (v := ?_) rfl (by kernel_rfl) (by kernel_rfl) (by kernel_rfl) (fun _ _ _ h => h) (by rfl) (by assumption) ?_ ?_
  rotate_left
  · (intro w hSw; (try dsimp only at hSw); go_simp; (try with_reducible rfl))
  simp only [Act.put, List.getElem_toArray, List.getElem_cons_succ, List.getElem_cons_zero, List.setIfInBounds_toArray, List.set_cons_zero, List.set_cons_succ]
  refine wpAnyH_ready (rs := [7]) (by kernel_rfl) (by simp) ?_
  refine AllReadyH.cons rfl (fun Kq hKq => ?_) AllReadyH.nil
  go_simp
  refine hKq.out _ _ ?_ (fun hH4 => ?_)
  · (first | (refine ⟨?_, ?_⟩ <;> ((repeat (first | refine (World.cell?_setCell_far _ _ _ _ (by dsimp only; omega)).trans ?_ | refine (World.frozen?_setCell _ _ _ _).trans ?_)); with_reducible assumption)) | (go_keep; done) | (simp [*, go_sem]; done))
  clear hKq Kq
  clear hH3
  refine wpAnyH_done (by kernel_rfl) ?_ _
  go_wp2
  refine bodyPost_ret (by simp [results, Try.results27, go_sem, *]; rfl) rfl ?_
  exact ⟨_, _, rfl, Lib.hid ((hBuf.out.setCell (by omega) _ _).setCell (by omega) _ _), by (repeat' (first | (with_reducible exact Below.refl _ _) | (with_reducible assumption) | (with_reducible refine Below.alloc ?_ ?_ _) | (with_reducible refine Below.drew ?_) | (with_reducible refine below_drewN ?_ _) | (with_reducible refine Below.setCell ?_ ?_ _) | (with_reducible refine below_step (by with_reducible assumption) ?_ ?_) | (with_reducible exact Below.size (by with_reducible assumption)) | go_size))⟩
end Go.Proofs.Ythgnemkfaiejbaa
