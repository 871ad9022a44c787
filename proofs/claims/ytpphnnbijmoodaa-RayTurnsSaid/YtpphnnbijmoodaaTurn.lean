/-
  TURNS: TurnedTime of package ray, with its errors; TurnErr and TurnedTime of the reference.
-/
import Derived.Test.YtpphnnbijmoodaaWay
import Derived.Test.YtpphnnbijmoodaaRefLeast
import Derived.Test.YtpphnnbijmoodaaReg
set_option linter.unusedVariables false
set_option linter.unusedSimpArgs false
namespace Go.Proofs.Ytpphnnbijmoodaa
open Go.RowKit

def bw (z T : Int) : Bool := decide (z = 0) || inB z 1 (T - 1)
theorem bw_iff {z T : Int} : bw z T = true ↔ z = 0 ∨ (1 ≤ z ∧ z ≤ T - 1) := by
  unfold bw
  rw [Bool.or_eq_true, inB_iff, decide_eq_true_eq]
def tuE (fx fz tx tz T v1 v2 : Int) : Int := frst [spE fx fz, spE tx tz, unl (inB T 2 20000) 2, unl (bw fz T && bw tz T) 22, unl (inB v1 500 10000) 2, unl (inB v2 500 10000) 2]
def okT (fx fz tx tz T v1 v2 : Int) : Prop := (-100000 ≤ fx ∧ fx ≤ 100000) ∧ (-100000 ≤ tx ∧ tx ≤ 100000) ∧ (2 ≤ T ∧ T ≤ 20000) ∧ (0 ≤ fz ∧ fz ≤ T - 1) ∧ (0 ≤ tz ∧ tz ≤ T - 1) ∧ (500 ≤ v1 ∧ v1 ≤ 10000) ∧ (500 ≤ v2 ∧ v2 ≤ 10000)
theorem tuE_zero {fx fz tx tz T v1 v2 : Int} (h : tuE fx fz tx tz T v1 v2 = 0) : okT fx fz tx tz T v1 v2 := by
  unfold tuE at h
  rw [frst_zero] at h
  simp only [List.mem_cons, List.not_mem_nil, or_false, forall_eq_or_imp, forall_eq, unl_zero (show (22 : Int) ≠ 0 by decide), unl_zero (show (2 : Int) ≠ 0 by decide), spE_zero, inB_iff, Bool.and_eq_true, bw_iff] at h
  obtain ⟨a, b, c, d, e, f⟩ := h
  unfold okT
  omega

theorem beside_any (z T : Int) (b : Nat) (w : World) (h : w.cell? ⟨b, 4, none⟩ = some (.int .i64 T)) :
    Calls Try.prog 127 #[.int .i64 z, .pointer (some ⟨b, 0, none⟩)] w fun e w' => e = .returned (.bool (bw z T)) ∧ w = w' := by
  by_cases hz : z = 0
  · have HE := Lib.hid (show bw z T = true by unfold bw; simp [hz])
    have t1 : (z == 0) = true := by simp [hz]
    clear hz
    go_enter Try.func127, Try.ntmps127
    go_wp2
    go_ret
    exact ⟨by rw [HE.out]; rfl, rfl⟩
  · have HE := Lib.hid (show bw z T = inB z 1 (T - 1) by unfold bw; simp [hz])
    have t1 : (z == 0) = false := by simp [hz]
    clear hz
    go_enter Try.func127, Try.ntmps127
    go_wp2_with (go_at_call 96; refine (inPlate_any _ _ _).mono ?_; rintro e w' ⟨rfl, rfl⟩)
    go_ret
    exact ⟨by rw [HE.out]; rfl, rfl⟩

set_option maxRecDepth 100000 in
set_option maxHeartbeats 4000000 in
theorem turnError_any (fx fz tx tz T v1 v2 : Int) (w : World) :
    Calls Try.prog 104 #[.agg #[.int .i64 fx, .int .i64 fz, .int .i64 tx, .int .i64 tz, .int .i64 T, .int .i64 v1, .int .i64 v2]] w fun e w' => e = .returned (.int .i64 (tuE fx fz tx tz T v1 v2)) ∧ Below w.heap.size w w' := by
  have hmf : ∀ (fn : Fn) (first cap : Array Value) (w : World), (Instr.makeFunc fn first cap).run Try.prog w = .ok (.func fn first cap) w := fun _ _ _ _ => rfl
  have K1 := Lib.hid (fun W => placeError_any fx fz W)
  have K2 := Lib.hid (fun W => placeError_any tx tz W)
  have K3 := Lib.hid (fun W => thickError_any T W)
  have K5 := Lib.hid (fun W => speedError_any v1 W)
  have K6 := Lib.hid (fun W => speedError_any v2 W)
  have hE : tuE fx fz tx tz T v1 v2 = frst [spE fx fz, spE tx tz, unl (inB T 2 20000) 2, unl (bw fz T && bw tz T) 22, unl (inB v1 500 10000) 2, unl (inB v2 500 10000) 2] := rfl
  generalize tuE fx fz tx tz T v1 v2 = g at *
  generalize spE fx fz = e1 at *
  generalize spE tx tz = e2 at *
  generalize unl (inB T 2 20000) 2 = e3 at *
  generalize unl (inB v1 500 10000) 2 = e5 at *
  generalize unl (inB v2 500 10000) 2 = e6 at *
  cases hb : bw fz T
  · rw [hb, Bool.false_and] at hE
    have HE := Lib.hid hE
    have HB := Lib.hid hb
    clear hE hb
    go_enter Try.func104, Try.ntmps104
    go_wp2
    refine wp_region_held_drew (S := fun w' => w'.cell? ⟨w.heap.size, 0, none⟩ = some (.int .i64 (fx)) ∧ w'.cell? ⟨w.heap.size, 1, none⟩ = some (.int .i64 (fz)) ∧ w'.cell? ⟨w.heap.size, 2, none⟩ = some (.int .i64 (tx)) ∧ w'.cell? ⟨w.heap.size, 3, none⟩ = some (.int .i64 (tz)) ∧ w'.cell? ⟨w.heap.size, 4, none⟩ = some (.int .i64 (T)) ∧ w'.cell? ⟨w.heap.size, 5, none⟩ = some (.int .i64 (v1)) ∧ w'.cell? ⟨w.heap.size, 6, none⟩ = some (.int .i64 (v2))) (by kernel_rfl) ?_ (fun hH1 => ?_)
    · (first | assumption | (refine ⟨?_, ?_, ?_, ?_, ?_, ?_, ?_⟩ <;> assumption) | (go_keep; done) | (simp [*, go_sem]; done))
    refine wpAnyH_pure (i := 0) (v := ?_) rfl (by kernel_rfl) (by kernel_rfl) (by kernel_rfl) (fun _ _ _ h => h) (by rfl) (by assumption) ?_ ?_
    rotate_left
    · (intro w hSw; (try dsimp only at hSw); go_simp; (try with_reducible rfl))
    simp only [Act.put, List.getElem_toArray, List.getElem_cons_succ, List.getElem_cons_zero, List.setIfInBounds_toArray, List.set_cons_zero, List.set_cons_succ]
    refine wpAnyH_pure (i := 1) (v := ?_) rfl (by kernel_rfl) (by kernel_rfl) (by kernel_rfl) (fun _ _ _ h => h) (by rfl) (by assumption) ?_ ?_
    rotate_left
    · (intro w hSw; (try dsimp only at hSw); go_simp; (try with_reducible rfl))
    simp only [Act.put, List.getElem_toArray, List.getElem_cons_succ, List.getElem_cons_zero, List.setIfInBounds_toArray, List.set_cons_zero, List.set_cons_succ]
    refine wpAnyH_pure (i := 3) (v := ?_) rfl (by kernel_rfl) (by kernel_rfl) (by kernel_rfl) (fun _ _ _ h => h) (by rfl) (by assumption) ?_ ?_
    rotate_left
    · (intro w hSw; (try dsimp only at hSw); go_simp; (try with_reducible rfl))
    simp only [Act.put, List.getElem_toArray, List.getElem_cons_succ, List.getElem_cons_zero, List.setIfInBounds_toArray, List.set_cons_zero, List.set_cons_succ]
    refine wpAnyH_pure (i := 4) (v := ?_) rfl (by kernel_rfl) (by kernel_rfl) (by kernel_rfl) (fun _ _ _ h => h) (by rfl) (by assumption) ?_ ?_
    rotate_left
    · (intro w hSw; (try dsimp only at hSw); go_simp; (try with_reducible rfl))
    simp only [Act.put, List.getElem_toArray, List.getElem_cons_succ, List.getElem_cons_zero, List.setIfInBounds_toArray, List.set_cons_zero, List.set_cons_succ]
    refine wpAnyH_pure (i := 6) (v := ?_) rfl (by kernel_rfl) (by kernel_rfl) (by kernel_rfl) (fun _ _ _ h => h) (by rfl) (by assumption) ?_ ?_
    rotate_left
    · (intro w hSw; (try dsimp only at hSw); go_simp; (try with_reducible rfl))
    simp only [Act.put, List.getElem_toArray, List.getElem_cons_succ, List.getElem_cons_zero, List.setIfInBounds_toArray, List.set_cons_zero, List.set_cons_succ]
    refine wpAnyH_pure (i := 7) (v := ?_) rfl (by kernel_rfl) (by kernel_rfl) (by kernel_rfl) (fun _ _ _ h => h) (by rfl) (by assumption) ?_ ?_
    rotate_left
    · (intro w hSw; (try dsimp only at hSw); go_simp; (try with_reducible rfl))
    simp only [Act.put, List.getElem_toArray, List.getElem_cons_succ, List.getElem_cons_zero, List.setIfInBounds_toArray, List.set_cons_zero, List.set_cons_succ]
    refine wpAnyH_pure (i := 9) (v := ?_) rfl (by kernel_rfl) (by kernel_rfl) (by kernel_rfl) (fun _ _ _ h => h) (by rfl) (by assumption) ?_ ?_
    rotate_left
    · (intro w hSw; (try dsimp only at hSw); go_simp; (try with_reducible rfl))
    simp only [Act.put, List.getElem_toArray, List.getElem_cons_succ, List.getElem_cons_zero, List.setIfInBounds_toArray, List.set_cons_zero, List.set_cons_succ]
    refine wpAnyH_pure (i := 10) (v := ?_) rfl (by kernel_rfl) (by kernel_rfl) (by kernel_rfl) (fun _ _ _ h => h) (by rfl) (by assumption) ?_ ?_
    rotate_left
    · (intro w hSw; (try dsimp only at hSw); go_simp; (try with_reducible rfl))
    simp only [Act.put, List.getElem_toArray, List.getElem_cons_succ, List.getElem_cons_zero, List.setIfInBounds_toArray, List.set_cons_zero, List.set_cons_succ]
    refine wpAnyH_pure (i := 11) (v := ?_) rfl (by kernel_rfl) (by kernel_rfl) (by kernel_rfl) (fun _ _ _ h => h) (by rfl) (by assumption) ?_ ?_
    rotate_left
    · (intro w hSw; (try dsimp only at hSw); go_simp; (try with_reducible rfl))
    simp only [Act.put, List.getElem_toArray, List.getElem_cons_succ, List.getElem_cons_zero, List.setIfInBounds_toArray, List.set_cons_zero, List.set_cons_succ]
    refine wpAnyH_pure (i := 12) (v := ?_) rfl (by kernel_rfl) (by kernel_rfl) (by kernel_rfl) (fun _ _ _ h => h) (by rfl) (by assumption) ?_ ?_
    rotate_left
    · (intro w hSw; (try dsimp only at hSw); go_simp; (try with_reducible rfl))
    simp only [Act.put, List.getElem_toArray, List.getElem_cons_succ, List.getElem_cons_zero, List.setIfInBounds_toArray, List.set_cons_zero, List.set_cons_succ]
    refine wpAnyH_pure (i := 22) (v := ?_) rfl (by kernel_rfl) (by kernel_rfl) (by kernel_rfl) (fun _ _ _ h => h) (by rfl) (by assumption) ?_ ?_
    rotate_left
    · (intro w hSw; (try dsimp only at hSw); go_simp; (try with_reducible rfl))
    simp only [Act.put, List.getElem_toArray, List.getElem_cons_succ, List.getElem_cons_zero, List.setIfInBounds_toArray, List.set_cons_zero, List.set_cons_succ]
    refine wpAnyH_pure (i := 23) (v := ?_) rfl (by kernel_rfl) (by kernel_rfl) (by kernel_rfl) (fun _ _ _ h => h) (by rfl) (by assumption) ?_ ?_
    rotate_left
    · (intro w hSw; (try dsimp only at hSw); go_simp; (try with_reducible rfl))
    simp only [Act.put, List.getElem_toArray, List.getElem_cons_succ, List.getElem_cons_zero, List.setIfInBounds_toArray, List.set_cons_zero, List.set_cons_succ]
    refine wpAnyH_pure (i := 25) (v := ?_) rfl (by kernel_rfl) (by kernel_rfl) (by kernel_rfl) (fun _ _ _ h => h) (by rfl) (by assumption) ?_ ?_
    rotate_left
    · (intro w hSw; (try dsimp only at hSw); go_simp; (try with_reducible rfl))
    simp only [Act.put, List.getElem_toArray, List.getElem_cons_succ, List.getElem_cons_zero, List.setIfInBounds_toArray, List.set_cons_zero, List.set_cons_succ]
    refine wpAnyH_pure (i := 26) (v := ?_) rfl (by kernel_rfl) (by kernel_rfl) (by kernel_rfl) (fun _ _ _ h => h) (by rfl) (by assumption) ?_ ?_
    rotate_left
    · (intro w hSw; (try dsimp only at hSw); go_simp; (try with_reducible rfl))
    simp only [Act.put, List.getElem_toArray, List.getElem_cons_succ, List.getElem_cons_zero, List.setIfInBounds_toArray, List.set_cons_zero, List.set_cons_succ]
    refine wpAnyH_ready (rs := [2]) (by kernel_rfl) (by simp) ?_
    refine AllReadyH.cons rfl (fun Kq hKq => ?_) AllReadyH.nil
    go_simp
    refine (K1.out _).mono ?_
    (rintro e w1 ⟨rfl, hw1⟩)
    obtain ⟨hcw1, hfw1, hlw1, hmw1, hnw1⟩ := bcell3 hw1
    have hzw1 := hw1.size
    (try simp only [World.size_alloc, World.size_setCell, World.size_drew, size_drewN] at hzw1)
    have cx1_0 : w1.cell? ⟨w.heap.size, 0, none⟩ = some (.int .i64 (fx)) := (hcw1 (w.heap.size) (0) (by first | omega | (simp only [World.size_alloc, World.size_drew, World.size_setCell, size_drewN]; omega))).trans (by first | assumption | (simp [go_sem, *]; done)); have cx1_1 : w1.cell? ⟨w.heap.size, 1, none⟩ = some (.int .i64 (fz)) := (hcw1 (w.heap.size) (1) (by first | omega | (simp only [World.size_alloc, World.size_drew, World.size_setCell, size_drewN]; omega))).trans (by first | assumption | (simp [go_sem, *]; done)); have cx1_2 : w1.cell? ⟨w.heap.size, 2, none⟩ = some (.int .i64 (tx)) := (hcw1 (w.heap.size) (2) (by first | omega | (simp only [World.size_alloc, World.size_drew, World.size_setCell, size_drewN]; omega))).trans (by first | assumption | (simp [go_sem, *]; done)); have cx1_3 : w1.cell? ⟨w.heap.size, 3, none⟩ = some (.int .i64 (tz)) := (hcw1 (w.heap.size) (3) (by first | omega | (simp only [World.size_alloc, World.size_drew, World.size_setCell, size_drewN]; omega))).trans (by first | assumption | (simp [go_sem, *]; done)); have cx1_4 : w1.cell? ⟨w.heap.size, 4, none⟩ = some (.int .i64 (T)) := (hcw1 (w.heap.size) (4) (by first | omega | (simp only [World.size_alloc, World.size_drew, World.size_setCell, size_drewN]; omega))).trans (by first | assumption | (simp [go_sem, *]; done)); have cx1_5 : w1.cell? ⟨w.heap.size, 5, none⟩ = some (.int .i64 (v1)) := (hcw1 (w.heap.size) (5) (by first | omega | (simp only [World.size_alloc, World.size_drew, World.size_setCell, size_drewN]; omega))).trans (by first | assumption | (simp [go_sem, *]; done)); have cx1_6 : w1.cell? ⟨w.heap.size, 6, none⟩ = some (.int .i64 (v2)) := (hcw1 (w.heap.size) (6) (by first | omega | (simp only [World.size_alloc, World.size_drew, World.size_setCell, size_drewN]; omega))).trans (by first | assumption | (simp [go_sem, *]; done)); have ox1 : w.heap.size < w1.heap.size := (by omega)
    refine hKq.out _ _ ?_ (fun hH2 => ?_)
    · (first | assumption | (refine ⟨?_, ?_, ?_, ?_, ?_, ?_, ?_⟩ <;> assumption) | (go_keep; done) | (simp [*, go_sem]; done))
    clear hKq Kq
    clear hH1
    refine wpAnyH_ready (rs := [5]) (by kernel_rfl) (by simp) ?_
    refine AllReadyH.cons rfl (fun Kq hKq => ?_) AllReadyH.nil
    go_simp
    refine (K2.out _).mono ?_
    (rintro e w2 ⟨rfl, hw2⟩)
    obtain ⟨hcw2, hfw2, hlw2, hmw2, hnw2⟩ := bcell3 hw2
    have hzw2 := hw2.size
    (try simp only [World.size_alloc, World.size_setCell, World.size_drew, size_drewN] at hzw2)
    have cx2_0 : w2.cell? ⟨w.heap.size, 0, none⟩ = some (.int .i64 (fx)) := (hcw2 (w.heap.size) (0) (by first | omega | (simp only [World.size_alloc, World.size_drew, World.size_setCell, size_drewN]; omega))).trans (by first | assumption | (simp [go_sem, *]; done)); have cx2_1 : w2.cell? ⟨w.heap.size, 1, none⟩ = some (.int .i64 (fz)) := (hcw2 (w.heap.size) (1) (by first | omega | (simp only [World.size_alloc, World.size_drew, World.size_setCell, size_drewN]; omega))).trans (by first | assumption | (simp [go_sem, *]; done)); have cx2_2 : w2.cell? ⟨w.heap.size, 2, none⟩ = some (.int .i64 (tx)) := (hcw2 (w.heap.size) (2) (by first | omega | (simp only [World.size_alloc, World.size_drew, World.size_setCell, size_drewN]; omega))).trans (by first | assumption | (simp [go_sem, *]; done)); have cx2_3 : w2.cell? ⟨w.heap.size, 3, none⟩ = some (.int .i64 (tz)) := (hcw2 (w.heap.size) (3) (by first | omega | (simp only [World.size_alloc, World.size_drew, World.size_setCell, size_drewN]; omega))).trans (by first | assumption | (simp [go_sem, *]; done)); have cx2_4 : w2.cell? ⟨w.heap.size, 4, none⟩ = some (.int .i64 (T)) := (hcw2 (w.heap.size) (4) (by first | omega | (simp only [World.size_alloc, World.size_drew, World.size_setCell, size_drewN]; omega))).trans (by first | assumption | (simp [go_sem, *]; done)); have cx2_5 : w2.cell? ⟨w.heap.size, 5, none⟩ = some (.int .i64 (v1)) := (hcw2 (w.heap.size) (5) (by first | omega | (simp only [World.size_alloc, World.size_drew, World.size_setCell, size_drewN]; omega))).trans (by first | assumption | (simp [go_sem, *]; done)); have cx2_6 : w2.cell? ⟨w.heap.size, 6, none⟩ = some (.int .i64 (v2)) := (hcw2 (w.heap.size) (6) (by first | omega | (simp only [World.size_alloc, World.size_drew, World.size_setCell, size_drewN]; omega))).trans (by first | assumption | (simp [go_sem, *]; done)); have ox2 : w.heap.size < w2.heap.size := (by omega)
    clear cx1_0 cx1_1 cx1_2 cx1_3 cx1_4 cx1_5 cx1_6
    refine hKq.out _ _ ?_ (fun hH3 => ?_)
    · (first | assumption | (refine ⟨?_, ?_, ?_, ?_, ?_, ?_, ?_⟩ <;> assumption) | (go_keep; done) | (simp [*, go_sem]; done))
    clear hKq Kq
    clear hH2
    refine wpAnyH_ready (rs := [8]) (by kernel_rfl) (by simp) ?_
    refine AllReadyH.cons rfl (fun Kq hKq => ?_) AllReadyH.nil
    go_simp
    refine (K3.out _).mono ?_
    (rintro e w' ⟨rfl, rfl⟩)
    refine hKq.out _ _ ?_ (fun hH4 => ?_)
    · (first | assumption | (refine ⟨?_, ?_, ?_, ?_, ?_, ?_, ?_⟩ <;> assumption) | (go_keep; done) | (simp [*, go_sem]; done))
    clear hKq Kq
    clear hH3
    refine wpAnyH_ready (rs := [13]) (by kernel_rfl) (by simp) ?_
    refine AllReadyH.cons rfl (fun Kq hKq => ?_) AllReadyH.nil
    go_simp
    refine (beside_any fz T _ _ cx2_4).mono ?_
    (rw [HB.out]; rintro e w' ⟨rfl, rfl⟩)
    refine hKq.out _ _ ?_ (fun hH5 => ?_)
    · (first | assumption | (refine ⟨?_, ?_, ?_, ?_, ?_, ?_, ?_⟩ <;> assumption) | (go_keep; done) | (simp [*, go_sem]; done))
    clear hKq Kq
    clear hH4
    refine wpAnyH_pure (i := 14) (v := ?_) rfl (by kernel_rfl) (by kernel_rfl) (by kernel_rfl) (fun _ _ _ h => h) (by rfl) (by assumption) ?_ ?_
    rotate_left
    · (intro w hSw; (try dsimp only at hSw); go_simp; (try with_reducible rfl))
    simp only [Act.put, List.getElem_toArray, List.getElem_cons_succ, List.getElem_cons_zero, List.setIfInBounds_toArray, List.set_cons_zero, List.set_cons_succ]
    refine wpAnyH_skip (i := 15) rfl (by kernel_rfl) (by kernel_rfl) (by kernel_rfl) (fun _ _ _ h => h) (by first | rfl | (simp [Region.wanted, yielded, *]; done)) (by assumption) ?_
    simp only [Act.put, List.getElem_toArray, List.getElem_cons_succ, List.getElem_cons_zero, List.setIfInBounds_toArray, List.set_cons_zero, List.set_cons_succ]
    refine wpAnyH_skip (i := 16) rfl (by kernel_rfl) (by kernel_rfl) (by kernel_rfl) (fun _ _ _ h => h) (by first | rfl | (simp [Region.wanted, yielded, *]; done)) (by assumption) ?_
    simp only [Act.put, List.getElem_toArray, List.getElem_cons_succ, List.getElem_cons_zero, List.setIfInBounds_toArray, List.set_cons_zero, List.set_cons_succ]
    refine wpAnyH_skip (i := 17) rfl (by kernel_rfl) (by kernel_rfl) (by kernel_rfl) (fun _ _ _ h => h) (by first | rfl | (simp [Region.wanted, yielded, *]; done)) (by assumption) ?_
    simp only [Act.put, List.getElem_toArray, List.getElem_cons_succ, List.getElem_cons_zero, List.setIfInBounds_toArray, List.set_cons_zero, List.set_cons_succ]
    refine wpAnyH_skip (i := 18) rfl (by kernel_rfl) (by kernel_rfl) (by kernel_rfl) (fun _ _ _ h => h) (by first | rfl | (simp [Region.wanted, yielded, *]; done)) (by assumption) ?_
    simp only [Act.put, List.getElem_toArray, List.getElem_cons_succ, List.getElem_cons_zero, List.setIfInBounds_toArray, List.set_cons_zero, List.set_cons_succ]
    refine wpAnyH_skip (i := 19) rfl (by kernel_rfl) (by kernel_rfl) (by kernel_rfl) (fun _ _ _ h => h) (by first | rfl | (simp [Region.wanted, yielded, *]; done)) (by assumption) ?_
    simp only [Act.put, List.getElem_toArray, List.getElem_cons_succ, List.getElem_cons_zero, List.setIfInBounds_toArray, List.set_cons_zero, List.set_cons_succ]
    refine wpAnyH_pure (i := 20) (v := ?_) rfl (by kernel_rfl) (by kernel_rfl) (by kernel_rfl) (fun _ _ _ h => h) (by rfl) (by assumption) ?_ ?_
    rotate_left
    · (intro w hSw; (try dsimp only at hSw); go_simp; (try with_reducible rfl))
    simp only [Act.put, List.getElem_toArray, List.getElem_cons_succ, List.getElem_cons_zero, List.setIfInBounds_toArray, List.set_cons_zero, List.set_cons_succ]
    refine wpAnyH_ready (rs := [21]) (by kernel_rfl) (by simp) ?_
    refine AllReadyH.cons rfl (fun Kq hKq => ?_) AllReadyH.nil
    go_simp
    refine (unless_any _ _ _).mono ?_
    (rintro e w' ⟨rfl, rfl⟩)
    refine hKq.out _ _ ?_ (fun hH6 => ?_)
    · (first | assumption | (refine ⟨?_, ?_, ?_, ?_, ?_, ?_, ?_⟩ <;> assumption) | (go_keep; done) | (simp [*, go_sem]; done))
    clear hKq Kq
    clear hH5
    refine wpAnyH_ready (rs := [24]) (by kernel_rfl) (by simp) ?_
    refine AllReadyH.cons rfl (fun Kq hKq => ?_) AllReadyH.nil
    go_simp
    refine (K5.out _).mono ?_
    (rintro e w' ⟨rfl, rfl⟩)
    refine hKq.out _ _ ?_ (fun hH7 => ?_)
    · (first | assumption | (refine ⟨?_, ?_, ?_, ?_, ?_, ?_, ?_⟩ <;> assumption) | (go_keep; done) | (simp [*, go_sem]; done))
    clear hKq Kq
    clear hH6
    refine wpAnyH_ready (rs := [27]) (by kernel_rfl) (by simp) ?_
    refine AllReadyH.cons rfl (fun Kq hKq => ?_) AllReadyH.nil
    go_simp
    refine (K6.out _).mono ?_
    (rintro e w' ⟨rfl, rfl⟩)
    refine hKq.out _ _ ?_ (fun hH8 => ?_)
    · (first | assumption | (refine ⟨?_, ?_, ?_, ?_, ?_, ?_, ?_⟩ <;> assumption) | (go_keep; done) | (simp [*, go_sem]; done))
    clear hKq Kq
    clear hH7
    refine wpAnyH_ready (rs := [28]) (by kernel_rfl) (by simp) ?_
    refine AllReadyH.cons rfl (fun Kq hKq => ?_) AllReadyH.nil
    go_simp
    refine hKq.out _ _ ?_ (fun hH9 => ?_)
    · (first | assumption | (refine ⟨?_, ?_, ?_, ?_, ?_, ?_, ?_⟩ <;> assumption) | (go_keep; done) | (simp [*, go_sem]; done))
    clear hKq Kq
    clear hH8
    refine wpAnyH_ready (rs := [29]) (by kernel_rfl) (by simp) ?_
    refine AllReadyH.cons rfl (fun Kq hKq => ?_) AllReadyH.nil
    go_simp
    apply Calls.mono
    focus ((apply first6 <;> exact cell_fresh _ _ _ _ _ _ (by first | rfl | simp) rfl); done)
    (rintro e w' ⟨rfl, rfl⟩)
    refine hKq.out _ _ ?_ (fun hH10 => ?_)
    · (first | assumption | (refine ⟨?_, ?_, ?_, ?_, ?_, ?_, ?_⟩ <;> assumption) | (go_keep; done) | (simp [*, go_sem]; done))
    clear hKq Kq
    clear hH9
    refine wpAnyH_pure (i := 30) (v := ?_) rfl (by kernel_rfl) (by kernel_rfl) (by kernel_rfl) (fun _ _ _ h => h) (by rfl) (by assumption) ?_ ?_
    rotate_left
    · (intro w hSw; (try dsimp only at hSw); go_simp; (try with_reducible rfl))
    simp only [Act.put, List.getElem_toArray, List.getElem_cons_succ, List.getElem_cons_zero, List.setIfInBounds_toArray, List.set_cons_zero, List.set_cons_succ]
    refine wpAnyH_done (by kernel_rfl) ?_ _
    go_wp2
    go_ret
    exact ⟨ri HE.out.symm, by (repeat' (first | (with_reducible exact Below.refl _ _) | (with_reducible assumption) | (with_reducible refine Below.alloc ?_ ?_ _) | (with_reducible refine Below.drew ?_) | (with_reducible refine below_drewN ?_ _) | (with_reducible refine Below.setCell ?_ ?_ _) | (with_reducible refine below_step (by with_reducible assumption) ?_ ?_) | (with_reducible exact Below.size (by with_reducible assumption)) | go_size))⟩
  · rw [hb, Bool.true_and] at hE
    have HE := Lib.hid hE
    have HB := Lib.hid hb
    clear hE hb
    go_enter Try.func104, Try.ntmps104
    go_wp2
    refine wp_region_held_drew (S := fun w' => w'.cell? ⟨w.heap.size, 0, none⟩ = some (.int .i64 (fx)) ∧ w'.cell? ⟨w.heap.size, 1, none⟩ = some (.int .i64 (fz)) ∧ w'.cell? ⟨w.heap.size, 2, none⟩ = some (.int .i64 (tx)) ∧ w'.cell? ⟨w.heap.size, 3, none⟩ = some (.int .i64 (tz)) ∧ w'.cell? ⟨w.heap.size, 4, none⟩ = some (.int .i64 (T)) ∧ w'.cell? ⟨w.heap.size, 5, none⟩ = some (.int .i64 (v1)) ∧ w'.cell? ⟨w.heap.size, 6, none⟩ = some (.int .i64 (v2))) (by kernel_rfl) ?_ (fun hH11 => ?_)
    · (first | assumption | (refine ⟨?_, ?_, ?_, ?_, ?_, ?_, ?_⟩ <;> assumption) | (go_keep; done) | (simp [*, go_sem]; done))
    refine wpAnyH_pure (i := 0) (v := ?_) rfl (by kernel_rfl) (by kernel_rfl) (by kernel_rfl) (fun _ _ _ h => h) (by rfl) (by assumption) ?_ ?_
    rotate_left
    · (intro w hSw; (try dsimp only at hSw); go_simp; (try with_reducible rfl))
    simp only [Act.put, List.getElem_toArray, List.getElem_cons_succ, List.getElem_cons_zero, List.setIfInBounds_toArray, List.set_cons_zero, List.set_cons_succ]
    refine wpAnyH_pure (i := 1) (v := ?_) rfl (by kernel_rfl) (by kernel_rfl) (by kernel_rfl) (fun _ _ _ h => h) (by rfl) (by assumption) ?_ ?_
    rotate_left
    · (intro w hSw; (try dsimp only at hSw); go_simp; (try with_reducible rfl))
    simp only [Act.put, List.getElem_toArray, List.getElem_cons_succ, List.getElem_cons_zero, List.setIfInBounds_toArray, List.set_cons_zero, List.set_cons_succ]
    refine wpAnyH_pure (i := 3) (v := ?_) rfl (by kernel_rfl) (by kernel_rfl) (by kernel_rfl) (fun _ _ _ h => h) (by rfl) (by assumption) ?_ ?_
    rotate_left
    · (intro w hSw; (try dsimp only at hSw); go_simp; (try with_reducible rfl))
    simp only [Act.put, List.getElem_toArray, List.getElem_cons_succ, List.getElem_cons_zero, List.setIfInBounds_toArray, List.set_cons_zero, List.set_cons_succ]
    refine wpAnyH_pure (i := 4) (v := ?_) rfl (by kernel_rfl) (by kernel_rfl) (by kernel_rfl) (fun _ _ _ h => h) (by rfl) (by assumption) ?_ ?_
    rotate_left
    · (intro w hSw; (try dsimp only at hSw); go_simp; (try with_reducible rfl))
    simp only [Act.put, List.getElem_toArray, List.getElem_cons_succ, List.getElem_cons_zero, List.setIfInBounds_toArray, List.set_cons_zero, List.set_cons_succ]
    refine wpAnyH_pure (i := 6) (v := ?_) rfl (by kernel_rfl) (by kernel_rfl) (by kernel_rfl) (fun _ _ _ h => h) (by rfl) (by assumption) ?_ ?_
    rotate_left
    · (intro w hSw; (try dsimp only at hSw); go_simp; (try with_reducible rfl))
    simp only [Act.put, List.getElem_toArray, List.getElem_cons_succ, List.getElem_cons_zero, List.setIfInBounds_toArray, List.set_cons_zero, List.set_cons_succ]
    refine wpAnyH_pure (i := 7) (v := ?_) rfl (by kernel_rfl) (by kernel_rfl) (by kernel_rfl) (fun _ _ _ h => h) (by rfl) (by assumption) ?_ ?_
    rotate_left
    · (intro w hSw; (try dsimp only at hSw); go_simp; (try with_reducible rfl))
    simp only [Act.put, List.getElem_toArray, List.getElem_cons_succ, List.getElem_cons_zero, List.setIfInBounds_toArray, List.set_cons_zero, List.set_cons_succ]
    refine wpAnyH_pure (i := 9) (v := ?_) rfl (by kernel_rfl) (by kernel_rfl) (by kernel_rfl) (fun _ _ _ h => h) (by rfl) (by assumption) ?_ ?_
    rotate_left
    · (intro w hSw; (try dsimp only at hSw); go_simp; (try with_reducible rfl))
    simp only [Act.put, List.getElem_toArray, List.getElem_cons_succ, List.getElem_cons_zero, List.setIfInBounds_toArray, List.set_cons_zero, List.set_cons_succ]
    refine wpAnyH_pure (i := 10) (v := ?_) rfl (by kernel_rfl) (by kernel_rfl) (by kernel_rfl) (fun _ _ _ h => h) (by rfl) (by assumption) ?_ ?_
    rotate_left
    · (intro w hSw; (try dsimp only at hSw); go_simp; (try with_reducible rfl))
    simp only [Act.put, List.getElem_toArray, List.getElem_cons_succ, List.getElem_cons_zero, List.setIfInBounds_toArray, List.set_cons_zero, List.set_cons_succ]
    refine wpAnyH_pure (i := 11) (v := ?_) rfl (by kernel_rfl) (by kernel_rfl) (by kernel_rfl) (fun _ _ _ h => h) (by rfl) (by assumption) ?_ ?_
    rotate_left
    · (intro w hSw; (try dsimp only at hSw); go_simp; (try with_reducible rfl))
    simp only [Act.put, List.getElem_toArray, List.getElem_cons_succ, List.getElem_cons_zero, List.setIfInBounds_toArray, List.set_cons_zero, List.set_cons_succ]
    refine wpAnyH_pure (i := 12) (v := ?_) rfl (by kernel_rfl) (by kernel_rfl) (by kernel_rfl) (fun _ _ _ h => h) (by rfl) (by assumption) ?_ ?_
    rotate_left
    · (intro w hSw; (try dsimp only at hSw); go_simp; (try with_reducible rfl))
    simp only [Act.put, List.getElem_toArray, List.getElem_cons_succ, List.getElem_cons_zero, List.setIfInBounds_toArray, List.set_cons_zero, List.set_cons_succ]
    refine wpAnyH_pure (i := 22) (v := ?_) rfl (by kernel_rfl) (by kernel_rfl) (by kernel_rfl) (fun _ _ _ h => h) (by rfl) (by assumption) ?_ ?_
    rotate_left
    · (intro w hSw; (try dsimp only at hSw); go_simp; (try with_reducible rfl))
    simp only [Act.put, List.getElem_toArray, List.getElem_cons_succ, List.getElem_cons_zero, List.setIfInBounds_toArray, List.set_cons_zero, List.set_cons_succ]
    refine wpAnyH_pure (i := 23) (v := ?_) rfl (by kernel_rfl) (by kernel_rfl) (by kernel_rfl) (fun _ _ _ h => h) (by rfl) (by assumption) ?_ ?_
    rotate_left
    · (intro w hSw; (try dsimp only at hSw); go_simp; (try with_reducible rfl))
    simp only [Act.put, List.getElem_toArray, List.getElem_cons_succ, List.getElem_cons_zero, List.setIfInBounds_toArray, List.set_cons_zero, List.set_cons_succ]
    refine wpAnyH_pure (i := 25) (v := ?_) rfl (by kernel_rfl) (by kernel_rfl) (by kernel_rfl) (fun _ _ _ h => h) (by rfl) (by assumption) ?_ ?_
    rotate_left
    · (intro w hSw; (try dsimp only at hSw); go_simp; (try with_reducible rfl))
    simp only [Act.put, List.getElem_toArray, List.getElem_cons_succ, List.getElem_cons_zero, List.setIfInBounds_toArray, List.set_cons_zero, List.set_cons_succ]
    refine wpAnyH_pure (i := 26) (v := ?_) rfl (by kernel_rfl) (by kernel_rfl) (by kernel_rfl) (fun _ _ _ h => h) (by rfl) (by assumption) ?_ ?_
    rotate_left
    · (intro w hSw; (try dsimp only at hSw); go_simp; (try with_reducible rfl))
    simp only [Act.put, List.getElem_toArray, List.getElem_cons_succ, List.getElem_cons_zero, List.setIfInBounds_toArray, List.set_cons_zero, List.set_cons_succ]
    refine wpAnyH_ready (rs := [2]) (by kernel_rfl) (by simp) ?_
    refine AllReadyH.cons rfl (fun Kq hKq => ?_) AllReadyH.nil
    go_simp
    refine (K1.out _).mono ?_
    (rintro e w1 ⟨rfl, hw1⟩)
    obtain ⟨hcw1, hfw1, hlw1, hmw1, hnw1⟩ := bcell3 hw1
    have hzw1 := hw1.size
    (try simp only [World.size_alloc, World.size_setCell, World.size_drew, size_drewN] at hzw1)
    have cx1_0 : w1.cell? ⟨w.heap.size, 0, none⟩ = some (.int .i64 (fx)) := (hcw1 (w.heap.size) (0) (by first | omega | (simp only [World.size_alloc, World.size_drew, World.size_setCell, size_drewN]; omega))).trans (by first | assumption | (simp [go_sem, *]; done)); have cx1_1 : w1.cell? ⟨w.heap.size, 1, none⟩ = some (.int .i64 (fz)) := (hcw1 (w.heap.size) (1) (by first | omega | (simp only [World.size_alloc, World.size_drew, World.size_setCell, size_drewN]; omega))).trans (by first | assumption | (simp [go_sem, *]; done)); have cx1_2 : w1.cell? ⟨w.heap.size, 2, none⟩ = some (.int .i64 (tx)) := (hcw1 (w.heap.size) (2) (by first | omega | (simp only [World.size_alloc, World.size_drew, World.size_setCell, size_drewN]; omega))).trans (by first | assumption | (simp [go_sem, *]; done)); have cx1_3 : w1.cell? ⟨w.heap.size, 3, none⟩ = some (.int .i64 (tz)) := (hcw1 (w.heap.size) (3) (by first | omega | (simp only [World.size_alloc, World.size_drew, World.size_setCell, size_drewN]; omega))).trans (by first | assumption | (simp [go_sem, *]; done)); have cx1_4 : w1.cell? ⟨w.heap.size, 4, none⟩ = some (.int .i64 (T)) := (hcw1 (w.heap.size) (4) (by first | omega | (simp only [World.size_alloc, World.size_drew, World.size_setCell, size_drewN]; omega))).trans (by first | assumption | (simp [go_sem, *]; done)); have cx1_5 : w1.cell? ⟨w.heap.size, 5, none⟩ = some (.int .i64 (v1)) := (hcw1 (w.heap.size) (5) (by first | omega | (simp only [World.size_alloc, World.size_drew, World.size_setCell, size_drewN]; omega))).trans (by first | assumption | (simp [go_sem, *]; done)); have cx1_6 : w1.cell? ⟨w.heap.size, 6, none⟩ = some (.int .i64 (v2)) := (hcw1 (w.heap.size) (6) (by first | omega | (simp only [World.size_alloc, World.size_drew, World.size_setCell, size_drewN]; omega))).trans (by first | assumption | (simp [go_sem, *]; done)); have ox1 : w.heap.size < w1.heap.size := (by omega)
    refine hKq.out _ _ ?_ (fun hH12 => ?_)
    · (first | assumption | (refine ⟨?_, ?_, ?_, ?_, ?_, ?_, ?_⟩ <;> assumption) | (go_keep; done) | (simp [*, go_sem]; done))
    clear hKq Kq
    clear hH11
    refine wpAnyH_ready (rs := [5]) (by kernel_rfl) (by simp) ?_
    refine AllReadyH.cons rfl (fun Kq hKq => ?_) AllReadyH.nil
    go_simp
    refine (K2.out _).mono ?_
    (rintro e w2 ⟨rfl, hw2⟩)
    obtain ⟨hcw2, hfw2, hlw2, hmw2, hnw2⟩ := bcell3 hw2
    have hzw2 := hw2.size
    (try simp only [World.size_alloc, World.size_setCell, World.size_drew, size_drewN] at hzw2)
    have cx2_0 : w2.cell? ⟨w.heap.size, 0, none⟩ = some (.int .i64 (fx)) := (hcw2 (w.heap.size) (0) (by first | omega | (simp only [World.size_alloc, World.size_drew, World.size_setCell, size_drewN]; omega))).trans (by first | assumption | (simp [go_sem, *]; done)); have cx2_1 : w2.cell? ⟨w.heap.size, 1, none⟩ = some (.int .i64 (fz)) := (hcw2 (w.heap.size) (1) (by first | omega | (simp only [World.size_alloc, World.size_drew, World.size_setCell, size_drewN]; omega))).trans (by first | assumption | (simp [go_sem, *]; done)); have cx2_2 : w2.cell? ⟨w.heap.size, 2, none⟩ = some (.int .i64 (tx)) := (hcw2 (w.heap.size) (2) (by first | omega | (simp only [World.size_alloc, World.size_drew, World.size_setCell, size_drewN]; omega))).trans (by first | assumption | (simp [go_sem, *]; done)); have cx2_3 : w2.cell? ⟨w.heap.size, 3, none⟩ = some (.int .i64 (tz)) := (hcw2 (w.heap.size) (3) (by first | omega | (simp only [World.size_alloc, World.size_drew, World.size_setCell, size_drewN]; omega))).trans (by first | assumption | (simp [go_sem, *]; done)); have cx2_4 : w2.cell? ⟨w.heap.size, 4, none⟩ = some (.int .i64 (T)) := (hcw2 (w.heap.size) (4) (by first | omega | (simp only [World.size_alloc, World.size_drew, World.size_setCell, size_drewN]; omega))).trans (by first | assumption | (simp [go_sem, *]; done)); have cx2_5 : w2.cell? ⟨w.heap.size, 5, none⟩ = some (.int .i64 (v1)) := (hcw2 (w.heap.size) (5) (by first | omega | (simp only [World.size_alloc, World.size_drew, World.size_setCell, size_drewN]; omega))).trans (by first | assumption | (simp [go_sem, *]; done)); have cx2_6 : w2.cell? ⟨w.heap.size, 6, none⟩ = some (.int .i64 (v2)) := (hcw2 (w.heap.size) (6) (by first | omega | (simp only [World.size_alloc, World.size_drew, World.size_setCell, size_drewN]; omega))).trans (by first | assumption | (simp [go_sem, *]; done)); have ox2 : w.heap.size < w2.heap.size := (by omega)
    clear cx1_0 cx1_1 cx1_2 cx1_3 cx1_4 cx1_5 cx1_6
    refine hKq.out _ _ ?_ (fun hH13 => ?_)
    · (first | assumption | (refine ⟨?_, ?_, ?_, ?_, ?_, ?_, ?_⟩ <;> assumption) | (go_keep; done) | (simp [*, go_sem]; done))
    clear hKq Kq
    clear hH12
    refine wpAnyH_ready (rs := [8]) (by kernel_rfl) (by simp) ?_
    refine AllReadyH.cons rfl (fun Kq hKq => ?_) AllReadyH.nil
    go_simp
    refine (K3.out _).mono ?_
    (rintro e w' ⟨rfl, rfl⟩)
    refine hKq.out _ _ ?_ (fun hH14 => ?_)
    · (first | assumption | (refine ⟨?_, ?_, ?_, ?_, ?_, ?_, ?_⟩ <;> assumption) | (go_keep; done) | (simp [*, go_sem]; done))
    clear hKq Kq
    clear hH13
    refine wpAnyH_ready (rs := [13]) (by kernel_rfl) (by simp) ?_
    refine AllReadyH.cons rfl (fun Kq hKq => ?_) AllReadyH.nil
    go_simp
    refine (beside_any fz T _ _ cx2_4).mono ?_
    (rw [HB.out]; rintro e w' ⟨rfl, rfl⟩)
    refine hKq.out _ _ ?_ (fun hH15 => ?_)
    · (first | assumption | (refine ⟨?_, ?_, ?_, ?_, ?_, ?_, ?_⟩ <;> assumption) | (go_keep; done) | (simp [*, go_sem]; done))
    clear hKq Kq
    clear hH14
    refine wpAnyH_pure (i := 14) (v := ?_) rfl (by kernel_rfl) (by kernel_rfl) (by kernel_rfl) (fun _ _ _ h => h) (by rfl) (by assumption) ?_ ?_
    rotate_left
    · (intro w hSw; (try dsimp only at hSw); go_simp; (try with_reducible rfl))
    simp only [Act.put, List.getElem_toArray, List.getElem_cons_succ, List.getElem_cons_zero, List.setIfInBounds_toArray, List.set_cons_zero, List.set_cons_succ]
    refine wpAnyH_pure (i := 15) (v := ?_) rfl (by kernel_rfl) (by kernel_rfl) (by kernel_rfl) (fun _ _ _ h => h) (by first | rfl | (simp [Region.wanted, yielded, *]; done)) (by assumption) ?_ ?_
    rotate_left
    · (intro w hSw; (try dsimp only at hSw); go_simp; (try with_reducible rfl))
    simp only [Act.put, List.getElem_toArray, List.getElem_cons_succ, List.getElem_cons_zero, List.setIfInBounds_toArray, List.set_cons_zero, List.set_cons_succ]
    refine wpAnyH_pure (i := 16) (v := ?_) rfl (by kernel_rfl) (by kernel_rfl) (by kernel_rfl) (fun _ _ _ h => h) (by first | rfl | (simp [Region.wanted, yielded, *]; done)) (by assumption) ?_ ?_
    rotate_left
    · (intro w hSw; (try dsimp only at hSw); go_simp; (try with_reducible rfl))
    simp only [Act.put, List.getElem_toArray, List.getElem_cons_succ, List.getElem_cons_zero, List.setIfInBounds_toArray, List.set_cons_zero, List.set_cons_succ]
    refine wpAnyH_pure (i := 17) (v := ?_) rfl (by kernel_rfl) (by kernel_rfl) (by kernel_rfl) (fun _ _ _ h => h) (by first | rfl | (simp [Region.wanted, yielded, *]; done)) (by assumption) ?_ ?_
    rotate_left
    · (intro w hSw; (try dsimp only at hSw); go_simp; (try with_reducible rfl))
    simp only [Act.put, List.getElem_toArray, List.getElem_cons_succ, List.getElem_cons_zero, List.setIfInBounds_toArray, List.set_cons_zero, List.set_cons_succ]
    refine wpAnyH_pure (i := 18) (v := ?_) rfl (by kernel_rfl) (by kernel_rfl) (by kernel_rfl) (fun _ _ _ h => h) (by first | rfl | (simp [Region.wanted, yielded, *]; done)) (by assumption) ?_ ?_
    rotate_left
    · (intro w hSw; (try dsimp only at hSw); go_simp; (try with_reducible rfl))
    simp only [Act.put, List.getElem_toArray, List.getElem_cons_succ, List.getElem_cons_zero, List.setIfInBounds_toArray, List.set_cons_zero, List.set_cons_succ]
    refine wpAnyH_ready (rs := [19]) (by kernel_rfl) (by simp) ?_
    refine AllReadyH.cons rfl (fun Kq hKq => ?_) AllReadyH.nil
    go_simp
    refine (beside_any tz T _ _ cx2_4).mono ?_
    (rintro e w' ⟨rfl, rfl⟩)
    refine hKq.out _ _ ?_ (fun hH16 => ?_)
    · (first | assumption | (refine ⟨?_, ?_, ?_, ?_, ?_, ?_, ?_⟩ <;> assumption) | (go_keep; done) | (simp [*, go_sem]; done))
    clear hKq Kq
    clear hH15
    refine wpAnyH_pure (i := 20) (v := ?_) rfl (by kernel_rfl) (by kernel_rfl) (by kernel_rfl) (fun _ _ _ h => h) (by rfl) (by assumption) ?_ ?_
    rotate_left
    · (intro w hSw; (try dsimp only at hSw); go_simp; (try with_reducible rfl))
    simp only [Act.put, List.getElem_toArray, List.getElem_cons_succ, List.getElem_cons_zero, List.setIfInBounds_toArray, List.set_cons_zero, List.set_cons_succ]
    refine wpAnyH_ready (rs := [21]) (by kernel_rfl) (by simp) ?_
    refine AllReadyH.cons rfl (fun Kq hKq => ?_) AllReadyH.nil
    go_simp
    refine (unless_any _ _ _).mono ?_
    (rintro e w' ⟨rfl, rfl⟩)
    refine hKq.out _ _ ?_ (fun hH17 => ?_)
    · (first | assumption | (refine ⟨?_, ?_, ?_, ?_, ?_, ?_, ?_⟩ <;> assumption) | (go_keep; done) | (simp [*, go_sem]; done))
    clear hKq Kq
    clear hH16
    refine wpAnyH_ready (rs := [24]) (by kernel_rfl) (by simp) ?_
    refine AllReadyH.cons rfl (fun Kq hKq => ?_) AllReadyH.nil
    go_simp
    refine (K5.out _).mono ?_
    (rintro e w' ⟨rfl, rfl⟩)
    refine hKq.out _ _ ?_ (fun hH18 => ?_)
    · (first | assumption | (refine ⟨?_, ?_, ?_, ?_, ?_, ?_, ?_⟩ <;> assumption) | (go_keep; done) | (simp [*, go_sem]; done))
    clear hKq Kq
    clear hH17
    refine wpAnyH_ready (rs := [27]) (by kernel_rfl) (by simp) ?_
    refine AllReadyH.cons rfl (fun Kq hKq => ?_) AllReadyH.nil
    go_simp
    refine (K6.out _).mono ?_
    (rintro e w' ⟨rfl, rfl⟩)
    refine hKq.out _ _ ?_ (fun hH19 => ?_)
    · (first | assumption | (refine ⟨?_, ?_, ?_, ?_, ?_, ?_, ?_⟩ <;> assumption) | (go_keep; done) | (simp [*, go_sem]; done))
    clear hKq Kq
    clear hH18
    refine wpAnyH_ready (rs := [28]) (by kernel_rfl) (by simp) ?_
    refine AllReadyH.cons rfl (fun Kq hKq => ?_) AllReadyH.nil
    go_simp
    refine hKq.out _ _ ?_ (fun hH20 => ?_)
    · (first | assumption | (refine ⟨?_, ?_, ?_, ?_, ?_, ?_, ?_⟩ <;> assumption) | (go_keep; done) | (simp [*, go_sem]; done))
    clear hKq Kq
    clear hH19
    refine wpAnyH_ready (rs := [29]) (by kernel_rfl) (by simp) ?_
    refine AllReadyH.cons rfl (fun Kq hKq => ?_) AllReadyH.nil
    go_simp
    apply Calls.mono
    focus ((apply first6 <;> exact cell_fresh _ _ _ _ _ _ (by first | rfl | simp) rfl); done)
    (rintro e w' ⟨rfl, rfl⟩)
    refine hKq.out _ _ ?_ (fun hH21 => ?_)
    · (first | assumption | (refine ⟨?_, ?_, ?_, ?_, ?_, ?_, ?_⟩ <;> assumption) | (go_keep; done) | (simp [*, go_sem]; done))
    clear hKq Kq
    clear hH20
    refine wpAnyH_pure (i := 30) (v := ?_) rfl (by kernel_rfl) (by kernel_rfl) (by kernel_rfl) (fun _ _ _ h => h) (by rfl) (by assumption) ?_ ?_
    rotate_left
    · (intro w hSw; (try dsimp only at hSw); go_simp; (try with_reducible rfl))
    simp only [Act.put, List.getElem_toArray, List.getElem_cons_succ, List.getElem_cons_zero, List.setIfInBounds_toArray, List.set_cons_zero, List.set_cons_succ]
    refine wpAnyH_done (by kernel_rfl) ?_ _
    go_wp2
    go_ret
    exact ⟨ri HE.out.symm, by (repeat' (first | (with_reducible exact Below.refl _ _) | (with_reducible assumption) | (with_reducible refine Below.alloc ?_ ?_ _) | (with_reducible refine Below.drew ?_) | (with_reducible refine below_drewN ?_ _) | (with_reducible refine Below.setCell ?_ ?_ _) | (with_reducible refine below_step (by with_reducible assumption) ?_ ?_) | (with_reducible exact Below.size (by with_reducible assumption)) | go_size))⟩

set_option maxRecDepth 100000 in
set_option maxHeartbeats 1000000 in
theorem TurnedTime_err (fx fz tx tz T v1 v2 : Int) (w : World) (h : ¬ tuE fx fz tx tz T v1 v2 = 0) :
    Calls Try.prog 55 #[.agg #[.int .i64 fx, .int .i64 fz, .int .i64 tx, .int .i64 tz, .int .i64 T, .int .i64 v1, .int .i64 v2]] w fun e w' => e = .returned (.tuple #[.agg #[.int .i64 0, .int .i64 0], .int .i64 (tuE fx fz tx tz T v1 v2)]) ∧ Below w.heap.size w w' := by
  have K1 := Lib.hid (fun W => turnError_any fx fz tx tz T v1 v2 W)
  generalize tuE fx fz tx tz T v1 v2 = g at *
  go_enter Try.func55, Try.ntmps55
  go_wp2_with fail; (refine (K1.out _).mono ?_; rintro e w1 ⟨rfl, hw1⟩; obtain ⟨hcw1, hfw1, hlw1, hmw1, hnw1⟩ := bcell3 hw1; have hzw1 := hw1.size; (try simp only [World.size_alloc, World.size_setCell, World.size_drew, size_drewN] at hzw1))
  have crz1_0 : w1.cell? ⟨w.heap.size + 1, 0, none⟩ = some (.int .i64 (0)) := (hcw1 (w.heap.size + 1) (0) (by first | omega | (simp only [World.size_alloc, World.size_drew, World.size_setCell, size_drewN]; omega))).trans (by first | assumption | (simp [go_sem, *]; done)); have crz1_1 : w1.cell? ⟨w.heap.size + 1, 1, none⟩ = some (.int .i64 (0)) := (hcw1 (w.heap.size + 1) (1) (by first | omega | (simp only [World.size_alloc, World.size_drew, World.size_setCell, size_drewN]; omega))).trans (by first | assumption | (simp [go_sem, *]; done)); have orz1 : w.heap.size + 1 < w1.heap.size := (by omega)
  have prz1_0 : w1.frozen? ⟨w.heap.size + 1, 0, none⟩ = false := (hfw1 (w.heap.size + 1) (0) (by first | omega | (simp only [World.size_alloc, World.size_drew, World.size_setCell, size_drewN]; omega))).trans (by first | assumption | (simp [go_sem, *]; done)); have prz1_1 : w1.frozen? ⟨w.heap.size + 1, 1, none⟩ = false := (hfw1 (w.heap.size + 1) (1) (by first | omega | (simp only [World.size_alloc, World.size_drew, World.size_setCell, size_drewN]; omega))).trans (by first | assumption | (simp [go_sem, *]; done))
  go_wp2
  refine bodyPost_ret (by simp [results, Try.results55, go_sem, *]; rfl) rfl ?_
  exact ⟨rfl, by (repeat' (first | (with_reducible exact Below.refl _ _) | (with_reducible assumption) | (with_reducible refine Below.alloc ?_ ?_ _) | (with_reducible refine Below.drew ?_) | (with_reducible refine below_drewN ?_ _) | (with_reducible refine Below.setCell ?_ ?_ _) | (with_reducible refine below_step (by with_reducible assumption) ?_ ?_) | (with_reducible exact Below.size (by with_reducible assumption)) | go_size))⟩
/-- the crossing of a turn -/
def crT (fx fz tx tz T v1 v2 : Int) : Cr := ⟨fx, T - fz, v1, tx, T - tz, v2⟩
theorem okC_turn {fx fz tx tz T v1 v2 : Int} (h : okT fx fz tx tz T v1 v2) : okC (crT fx fz tx tz T v1 v2) := by
  obtain ⟨a, b, c, d, e, f, g⟩ := h
  exact ⟨a, b, by show 1 ≤ T - fz ∧ T - fz ≤ 100000; omega, by show 1 ≤ T - tz ∧ T - tz ≤ 100000; omega, f, g⟩
set_option maxRecDepth 100000 in
set_option maxHeartbeats 1000000 in
theorem TurnedTime_ok (fx fz tx tz T v1 v2 : Int) (w : World) (h : okT fx fz tx tz T v1 v2) (h0 : tuE fx fz tx tz T v1 v2 = 0) :
    Calls Try.prog 55 #[.agg #[.int .i64 fx, .int .i64 fz, .int .i64 tx, .int .i64 tz, .int .i64 T, .int .i64 v1, .int .i64 v2]] w fun e w' => e = .returned (.tuple #[.agg #[.int .i64 (lsL (crT fx fz tx tz T v1 v2)), .int .i64 (lsH (crT fx fz tx tz T v1 v2))], .int .i64 0]) ∧ Below w.heap.size w w' := by
  have k1 : ∀ W, _ := fun W => turnError_any fx fz tx tz T v1 v2 W
  rw [h0] at k1
  have K1 := Lib.hid k1
  have K2 : Hid (∀ W, Calls Try.prog 85 #[.agg #[.int .i64 fx, .int .i64 (T - fz), .int .i64 v1, .int .i64 tx, .int .i64 (T - tz), .int .i64 v2]] W fun e w' => e = .returned (.agg #[.int .i64 fx, .int .i64 (T - fz), .int .i64 v1, .int .i64 tx, .int .i64 (T - tz), .int .i64 v2, .int .i64 (min fx tx), .int .i64 (max fx tx)]) ∧ Below W.heap.size W w') := Lib.hid (fun W => crossingOf_any (crT fx fz tx tz T v1 v2) W)
  have K3 : Hid (∀ W, Calls Try.prog 93 #[.agg #[.int .i64 fx, .int .i64 (T - fz), .int .i64 v1, .int .i64 tx, .int .i64 (T - tz), .int .i64 v2, .int .i64 (min fx tx), .int .i64 (max fx tx)]] W fun e w' => e = .returned (.agg #[.int .i64 (lsL (crT fx fz tx tz T v1 v2)), .int .i64 (lsH (crT fx fz tx tz T v1 v2))]) ∧ Below W.heap.size W w') := Lib.hid (fun W => leastTime_any (crT fx fz tx tz T v1 v2) W (okC_turn h))
  generalize lsL (crT fx fz tx tz T v1 v2) = a at *
  generalize lsH (crT fx fz tx tz T v1 v2) = b at *
  obtain ⟨-, -, c, d, e, -, -⟩ := h
  clear k1 h0
  go_enter Try.func55, Try.ntmps55
  go_wp2_with fail; (refine (K1.out _).mono ?_; rintro e w1 ⟨rfl, hw1⟩; obtain ⟨hcw1, hfw1, hlw1, hmw1, hnw1⟩ := bcell3 hw1; have hzw1 := hw1.size; (try simp only [World.size_alloc, World.size_setCell, World.size_drew, size_drewN] at hzw1))
  have cx1_0 : w1.cell? ⟨w.heap.size, 0, none⟩ = some (.int .i64 (fx)) := (hcw1 (w.heap.size) (0) (by first | omega | (simp only [World.size_alloc, World.size_drew, World.size_setCell, size_drewN]; omega))).trans (by first | assumption | (simp [go_sem, *]; done)); have cx1_1 : w1.cell? ⟨w.heap.size, 1, none⟩ = some (.int .i64 (fz)) := (hcw1 (w.heap.size) (1) (by first | omega | (simp only [World.size_alloc, World.size_drew, World.size_setCell, size_drewN]; omega))).trans (by first | assumption | (simp [go_sem, *]; done)); have cx1_2 : w1.cell? ⟨w.heap.size, 2, none⟩ = some (.int .i64 (tx)) := (hcw1 (w.heap.size) (2) (by first | omega | (simp only [World.size_alloc, World.size_drew, World.size_setCell, size_drewN]; omega))).trans (by first | assumption | (simp [go_sem, *]; done)); have cx1_3 : w1.cell? ⟨w.heap.size, 3, none⟩ = some (.int .i64 (tz)) := (hcw1 (w.heap.size) (3) (by first | omega | (simp only [World.size_alloc, World.size_drew, World.size_setCell, size_drewN]; omega))).trans (by first | assumption | (simp [go_sem, *]; done)); have cx1_4 : w1.cell? ⟨w.heap.size, 4, none⟩ = some (.int .i64 (T)) := (hcw1 (w.heap.size) (4) (by first | omega | (simp only [World.size_alloc, World.size_drew, World.size_setCell, size_drewN]; omega))).trans (by first | assumption | (simp [go_sem, *]; done)); have cx1_5 : w1.cell? ⟨w.heap.size, 5, none⟩ = some (.int .i64 (v1)) := (hcw1 (w.heap.size) (5) (by first | omega | (simp only [World.size_alloc, World.size_drew, World.size_setCell, size_drewN]; omega))).trans (by first | assumption | (simp [go_sem, *]; done)); have cx1_6 : w1.cell? ⟨w.heap.size, 6, none⟩ = some (.int .i64 (v2)) := (hcw1 (w.heap.size) (6) (by first | omega | (simp only [World.size_alloc, World.size_drew, World.size_setCell, size_drewN]; omega))).trans (by first | assumption | (simp [go_sem, *]; done)); have ox1 : w.heap.size < w1.heap.size := (by omega)
  have crz1_0 : w1.cell? ⟨w.heap.size + 1, 0, none⟩ = some (.int .i64 (0)) := (hcw1 (w.heap.size + 1) (0) (by first | omega | (simp only [World.size_alloc, World.size_drew, World.size_setCell, size_drewN]; omega))).trans (by first | assumption | (simp [go_sem, *]; done)); have crz1_1 : w1.cell? ⟨w.heap.size + 1, 1, none⟩ = some (.int .i64 (0)) := (hcw1 (w.heap.size + 1) (1) (by first | omega | (simp only [World.size_alloc, World.size_drew, World.size_setCell, size_drewN]; omega))).trans (by first | assumption | (simp [go_sem, *]; done)); have orz1 : w.heap.size + 1 < w1.heap.size := (by omega)
  have prz1_0 : w1.frozen? ⟨w.heap.size + 1, 0, none⟩ = false := (hfw1 (w.heap.size + 1) (0) (by first | omega | (simp only [World.size_alloc, World.size_drew, World.size_setCell, size_drewN]; omega))).trans (by first | assumption | (simp [go_sem, *]; done)); have prz1_1 : w1.frozen? ⟨w.heap.size + 1, 1, none⟩ = false := (hfw1 (w.heap.size + 1) (1) (by first | omega | (simp only [World.size_alloc, World.size_drew, World.size_setCell, size_drewN]; omega))).trans (by first | assumption | (simp [go_sem, *]; done))
  go_wp2_with fail; (refine (K2.out _).mono ?_; rintro e w2 ⟨rfl, hw2⟩; obtain ⟨hcw2, hfw2, hlw2, hmw2, hnw2⟩ := bcell3 hw2; have hzw2 := hw2.size; (try simp only [World.size_alloc, World.size_setCell, World.size_drew, size_drewN] at hzw2))
  have cx2_0 : w2.cell? ⟨w.heap.size, 0, none⟩ = some (.int .i64 (fx)) := (hcw2 (w.heap.size) (0) (by first | omega | (simp only [World.size_alloc, World.size_drew, World.size_setCell, size_drewN]; omega))).trans (by first | assumption | (simp [go_sem, *]; done)); have cx2_1 : w2.cell? ⟨w.heap.size, 1, none⟩ = some (.int .i64 (fz)) := (hcw2 (w.heap.size) (1) (by first | omega | (simp only [World.size_alloc, World.size_drew, World.size_setCell, size_drewN]; omega))).trans (by first | assumption | (simp [go_sem, *]; done)); have cx2_2 : w2.cell? ⟨w.heap.size, 2, none⟩ = some (.int .i64 (tx)) := (hcw2 (w.heap.size) (2) (by first | omega | (simp only [World.size_alloc, World.size_drew, World.size_setCell, size_drewN]; omega))).trans (by first | assumption | (simp [go_sem, *]; done)); have cx2_3 : w2.cell? ⟨w.heap.size, 3, none⟩ = some (.int .i64 (tz)) := (hcw2 (w.heap.size) (3) (by first | omega | (simp only [World.size_alloc, World.size_drew, World.size_setCell, size_drewN]; omega))).trans (by first | assumption | (simp [go_sem, *]; done)); have cx2_4 : w2.cell? ⟨w.heap.size, 4, none⟩ = some (.int .i64 (T)) := (hcw2 (w.heap.size) (4) (by first | omega | (simp only [World.size_alloc, World.size_drew, World.size_setCell, size_drewN]; omega))).trans (by first | assumption | (simp [go_sem, *]; done)); have cx2_5 : w2.cell? ⟨w.heap.size, 5, none⟩ = some (.int .i64 (v1)) := (hcw2 (w.heap.size) (5) (by first | omega | (simp only [World.size_alloc, World.size_drew, World.size_setCell, size_drewN]; omega))).trans (by first | assumption | (simp [go_sem, *]; done)); have cx2_6 : w2.cell? ⟨w.heap.size, 6, none⟩ = some (.int .i64 (v2)) := (hcw2 (w.heap.size) (6) (by first | omega | (simp only [World.size_alloc, World.size_drew, World.size_setCell, size_drewN]; omega))).trans (by first | assumption | (simp [go_sem, *]; done)); have ox2 : w.heap.size < w2.heap.size := (by omega)
  clear cx1_0 cx1_1 cx1_2 cx1_3 cx1_4 cx1_5 cx1_6
  have crz2_0 : w2.cell? ⟨w.heap.size + 1, 0, none⟩ = some (.int .i64 (0)) := (hcw2 (w.heap.size + 1) (0) (by first | omega | (simp only [World.size_alloc, World.size_drew, World.size_setCell, size_drewN]; omega))).trans (by first | assumption | (simp [go_sem, *]; done)); have crz2_1 : w2.cell? ⟨w.heap.size + 1, 1, none⟩ = some (.int .i64 (0)) := (hcw2 (w.heap.size + 1) (1) (by first | omega | (simp only [World.size_alloc, World.size_drew, World.size_setCell, size_drewN]; omega))).trans (by first | assumption | (simp [go_sem, *]; done)); have orz2 : w.heap.size + 1 < w2.heap.size := (by omega)
  have prz2_0 : w2.frozen? ⟨w.heap.size + 1, 0, none⟩ = false := (hfw2 (w.heap.size + 1) (0) (by first | omega | (simp only [World.size_alloc, World.size_drew, World.size_setCell, size_drewN]; omega))).trans (by first | assumption | (simp [go_sem, *]; done)); have prz2_1 : w2.frozen? ⟨w.heap.size + 1, 1, none⟩ = false := (hfw2 (w.heap.size + 1) (1) (by first | omega | (simp only [World.size_alloc, World.size_drew, World.size_setCell, size_drewN]; omega))).trans (by first | assumption | (simp [go_sem, *]; done))
  clear crz1_0 crz1_1 prz1_0 prz1_1
  go_wp2_with fail; (refine (K3.out _).mono ?_; rintro e w3 ⟨rfl, hw3⟩; obtain ⟨hcw3, hfw3, hlw3, hmw3, hnw3⟩ := bcell3 hw3; have hzw3 := hw3.size; (try simp only [World.size_alloc, World.size_setCell, World.size_drew, size_drewN] at hzw3))
  have cx3_0 : w3.cell? ⟨w.heap.size, 0, none⟩ = some (.int .i64 (fx)) := (hcw3 (w.heap.size) (0) (by first | omega | (simp only [World.size_alloc, World.size_drew, World.size_setCell, size_drewN]; omega))).trans (by first | assumption | (simp [go_sem, *]; done)); have cx3_1 : w3.cell? ⟨w.heap.size, 1, none⟩ = some (.int .i64 (fz)) := (hcw3 (w.heap.size) (1) (by first | omega | (simp only [World.size_alloc, World.size_drew, World.size_setCell, size_drewN]; omega))).trans (by first | assumption | (simp [go_sem, *]; done)); have cx3_2 : w3.cell? ⟨w.heap.size, 2, none⟩ = some (.int .i64 (tx)) := (hcw3 (w.heap.size) (2) (by first | omega | (simp only [World.size_alloc, World.size_drew, World.size_setCell, size_drewN]; omega))).trans (by first | assumption | (simp [go_sem, *]; done)); have cx3_3 : w3.cell? ⟨w.heap.size, 3, none⟩ = some (.int .i64 (tz)) := (hcw3 (w.heap.size) (3) (by first | omega | (simp only [World.size_alloc, World.size_drew, World.size_setCell, size_drewN]; omega))).trans (by first | assumption | (simp [go_sem, *]; done)); have cx3_4 : w3.cell? ⟨w.heap.size, 4, none⟩ = some (.int .i64 (T)) := (hcw3 (w.heap.size) (4) (by first | omega | (simp only [World.size_alloc, World.size_drew, World.size_setCell, size_drewN]; omega))).trans (by first | assumption | (simp [go_sem, *]; done)); have cx3_5 : w3.cell? ⟨w.heap.size, 5, none⟩ = some (.int .i64 (v1)) := (hcw3 (w.heap.size) (5) (by first | omega | (simp only [World.size_alloc, World.size_drew, World.size_setCell, size_drewN]; omega))).trans (by first | assumption | (simp [go_sem, *]; done)); have cx3_6 : w3.cell? ⟨w.heap.size, 6, none⟩ = some (.int .i64 (v2)) := (hcw3 (w.heap.size) (6) (by first | omega | (simp only [World.size_alloc, World.size_drew, World.size_setCell, size_drewN]; omega))).trans (by first | assumption | (simp [go_sem, *]; done)); have ox3 : w.heap.size < w3.heap.size := (by omega)
  clear cx2_0 cx2_1 cx2_2 cx2_3 cx2_4 cx2_5 cx2_6
  have crz3_0 : w3.cell? ⟨w.heap.size + 1, 0, none⟩ = some (.int .i64 (0)) := (hcw3 (w.heap.size + 1) (0) (by first | omega | (simp only [World.size_alloc, World.size_drew, World.size_setCell, size_drewN]; omega))).trans (by first | assumption | (simp [go_sem, *]; done)); have crz3_1 : w3.cell? ⟨w.heap.size + 1, 1, none⟩ = some (.int .i64 (0)) := (hcw3 (w.heap.size + 1) (1) (by first | omega | (simp only [World.size_alloc, World.size_drew, World.size_setCell, size_drewN]; omega))).trans (by first | assumption | (simp [go_sem, *]; done)); have orz3 : w.heap.size + 1 < w3.heap.size := (by omega)
  have prz3_0 : w3.frozen? ⟨w.heap.size + 1, 0, none⟩ = false := (hfw3 (w.heap.size + 1) (0) (by first | omega | (simp only [World.size_alloc, World.size_drew, World.size_setCell, size_drewN]; omega))).trans (by first | assumption | (simp [go_sem, *]; done)); have prz3_1 : w3.frozen? ⟨w.heap.size + 1, 1, none⟩ = false := (hfw3 (w.heap.size + 1) (1) (by first | omega | (simp only [World.size_alloc, World.size_drew, World.size_setCell, size_drewN]; omega))).trans (by first | assumption | (simp [go_sem, *]; done))
  clear crz2_0 crz2_1 prz2_0 prz2_1
  go_wp2
  refine bodyPost_ret (by simp [results, Try.results55, go_sem, *]; rfl) rfl ?_
  exact ⟨rfl, by (repeat' (first | (with_reducible exact Below.refl _ _) | (with_reducible assumption) | (with_reducible refine Below.alloc ?_ ?_ _) | (with_reducible refine Below.drew ?_) | (with_reducible refine below_drewN ?_ _) | (with_reducible refine Below.setCell ?_ ?_ _) | (with_reducible refine below_step (by with_reducible assumption) ?_ ?_) | (with_reducible exact Below.size (by with_reducible assumption)) | go_size))⟩

end Go.Proofs.Ytpphnnbijmoodaa
