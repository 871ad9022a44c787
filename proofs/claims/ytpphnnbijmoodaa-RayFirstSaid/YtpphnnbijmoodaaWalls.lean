/-
  WALLS: where the way of a mode meets the walls, in package ray.
-/
import Derived.Test.YtpphnnbijmoodaaEcho
import Derived.Test.YtpphnnbijmoodaaWay
import Derived.OwnWalk
import Derived.Laws.AppendOwn
import Derived.Laws.OwnMore
import Derived.StillTailTactics
import Derived.Deep.Onto
set_option linter.unusedVariables false
set_option linter.unusedSimpArgs false
namespace Go.Proofs.Ytpphnnbijmoodaa
open Go.RowKit

theorem ediv_small {n b M : Int} (hb : 1 ≤ b) (h : -M ≤ n ∧ n ≤ M) : -M ≤ n / b ∧ n / b ≤ M := by
  have hM : 0 ≤ M := by omega
  have h1 : M * 1 ≤ M * b := Int.mul_le_mul_of_nonneg_left hb hM
  constructor
  · rw [Int.le_ediv_iff_mul_le (by omega)]
    have : -M * b = -(M * b) := by rw [Int.neg_mul]
    omega
  · exact Int.ediv_le_of_le_mul (by omega) (by omega)
theorem cdiv_small {n b M : Int} (hb : 1 ≤ b) (h : -M ≤ n ∧ n ≤ M) : -M ≤ cdiv n b ∧ cdiv n b ≤ M := by
  have := ediv_small (n := -n) hb (M := M) (by omega)
  unfold cdiv
  omega
/-- the wall number j + 1 -/
def wX (x : Cr) (k T : Int) (j : Nat) : Int := (x.X2 - k) * ((j : Int) + 1) * T
def wl (x : Cr) (k T : Int) (j : Nat) : List Value := [.int .i64 (k + wX x k T j / x.H2), .int .i64 (k + cdiv (wX x k T j) x.H2)]
def wls (x : Cr) (k T : Int) (n : Nat) : List Value := (List.range n).flatMap (wl x k T)
theorem wls_succ (x : Cr) (k T : Int) (n : Nat) : wls x k T (n + 1) = wls x k T n ++ wl x k T n := by
  unfold wls; rw [List.range_succ, List.flatMap_append]; simp
theorem wX_bd {x : Cr} {k T : Int} {j : Nat} (h : okC x) (hk : inC x k) (hT : 2 ≤ T ∧ T ≤ 20000) (hj : j < 4) : (-200000 ≤ x.X2 - k ∧ x.X2 - k ≤ 200000) ∧ (-800000 ≤ (x.X2 - k) * ((j : Int) + 1) ∧ (x.X2 - k) * ((j : Int) + 1) ≤ 800000) ∧ (-16000000000 ≤ wX x k T j ∧ wX x k T j ≤ 16000000000) := by
  have b := (in_bd h hk).2
  have e1 : -800000 ≤ (x.X2 - k) * ((j : Int) + 1) ∧ (x.X2 - k) * ((j : Int) + 1) ≤ 800000 := by
    match j, hj with
    | 0, _ => simp; omega
    | 1, _ => constructor <;> (show _ ≤ _; simp; omega)
    | 2, _ => constructor <;> (show _ ≤ _; simp; omega)
    | 3, _ => constructor <;> (show _ ≤ _; simp; omega)
  refine ⟨b, e1, ?_⟩
  unfold wX
  generalize (x.X2 - k) * ((j : Int) + 1) = z at *
  constructor
  · have : (-800000) * T ≤ z * T := Int.mul_le_mul_of_nonneg_right e1.1 (by omega)
    omega
  · have : z * T ≤ 800000 * T := Int.mul_le_mul_of_nonneg_right e1.2 (by omega)
    omega
theorem infoRange : (Try.prog.info? 26).map (fun i => (i.zero, i.size, i.bytes)) = some (some (.agg #[.int .i64 0, .int .i64 0]), 2, 16) := by kernel_rfl
/-- a slice of ranges of the call's own -/
def Rngs (w : World) (f : List Value) (n : Nat) (err : Int) (e : Ending) (w' : World) : Prop := ∃ v, e = .returned (.tuple #[v, .int .i64 err]) ∧ w'.ownsRow w.heap.size 26 2 v n f ∧ Below w.heap.size w w'

set_option maxRecDepth 100000 in
set_option maxHeartbeats 4000000 in
theorem walls_walk (m : Md) (fx fz tx tz hz u kk : Int) (c : Cr) (w : World) (hS : 0 ≤ m.Skips ∧ m.Skips ≤ 4) (hT : 2 ≤ m.Thick ∧ m.Thick ≤ 20000) (hu : 1 ≤ u ∧ u ≤ 100000) (hkk : -100000 ≤ kk ∧ kk ≤ 100000)
    (HBD : Hid (∀ j : Nat, j < 4 → (-200000 ≤ tx - kk ∧ tx - kk ≤ 200000) ∧ (-800000 ≤ (tx - kk) * ((j : Int) + 1) ∧ (tx - kk) * ((j : Int) + 1) ≤ 800000) ∧ (-16000000000 ≤ (tx - kk) * ((j : Int) + 1) * m.Thick ∧ (tx - kk) * ((j : Int) + 1) * m.Thick ≤ 16000000000)))
    (HW : Hid (∀ j : Nat, wl c kk m.Thick j = [.int .i64 (kk + (tx - kk) * ((j : Int) + 1) * m.Thick / u), .int .i64 (kk + cdiv ((tx - kk) * ((j : Int) + 1) * m.Thick) u)]))
    (K1 : Hid (∀ W, Calls Try.prog 45 #[.agg #[.int .i64 m.Wedge, .int .i64 m.Metal, .int .i64 m.Skips, .int .i64 m.Thick], .agg #[.int .i64 fx, .int .i64 fz], .agg #[.int .i64 tx, .int .i64 tz]] W fun e w' => e = .returned (.tuple #[.agg #[.int .i64 fx, .int .i64 hz, .int .i64 m.Wedge, .int .i64 tx, .int .i64 u, .int .i64 m.Metal], .int .i64 0]) ∧ Below W.heap.size W w'))
    (K2 : Hid (∀ W, Calls Try.prog 85 #[.agg #[.int .i64 fx, .int .i64 hz, .int .i64 m.Wedge, .int .i64 tx, .int .i64 u, .int .i64 m.Metal]] W fun e w' => e = .returned (.agg #[.int .i64 fx, .int .i64 hz, .int .i64 m.Wedge, .int .i64 tx, .int .i64 u, .int .i64 m.Metal, .int .i64 (min fx tx), .int .i64 (max fx tx)]) ∧ Below W.heap.size W w'))
    (K3 : Hid (∀ W, Calls Try.prog 92 #[.agg #[.int .i64 fx, .int .i64 hz, .int .i64 m.Wedge, .int .i64 tx, .int .i64 u, .int .i64 m.Metal, .int .i64 (min fx tx), .int .i64 (max fx tx)]] W fun e w' => e = .returned (.int .i64 kk) ∧ Below W.heap.size W w')) :
    Calls Try.prog 48 #[.agg #[.int .i64 m.Wedge, .int .i64 m.Metal, .int .i64 m.Skips, .int .i64 m.Thick], .agg #[.int .i64 fx, .int .i64 fz], .agg #[.int .i64 tx, .int .i64 tz]] w (Rngs w (wls c kk m.Thick m.Skips.toNat) m.Skips.toNat 0) := by
  obtain ⟨i0, hi, hz0, hz1, hz2⟩ := info_parts infoRange
  have HI := Lib.hid hi
  have HZ := Lib.hid hz0
  have HZ1 := Lib.hid hz1
  have HZ2 := Lib.hid hz2
  clear hi hz0 hz1 hz2
  go_enter Try.func48, Try.ntmps48
  go_wp2_with fail; (refine (K1.out _).mono ?_; rintro e w1 ⟨rfl, hw1⟩; obtain ⟨hcw1, hfw1, hlw1, hmw1, hnw1⟩ := bcell3 hw1; have hzw1 := hw1.size; (try simp only [World.size_alloc, World.size_setCell, World.size_drew, size_drewN] at hzw1))
  have cm1_0 : w1.cell? ⟨w.heap.size, 0, none⟩ = some (.int .i64 (m.Wedge)) := (hcw1 (w.heap.size) (0) (by first | omega | (simp only [World.size_alloc, World.size_drew, World.size_setCell, size_drewN]; omega))).trans (by first | assumption | (simp [go_sem, *]; done)); have cm1_1 : w1.cell? ⟨w.heap.size, 1, none⟩ = some (.int .i64 (m.Metal)) := (hcw1 (w.heap.size) (1) (by first | omega | (simp only [World.size_alloc, World.size_drew, World.size_setCell, size_drewN]; omega))).trans (by first | assumption | (simp [go_sem, *]; done)); have cm1_2 : w1.cell? ⟨w.heap.size, 2, none⟩ = some (.int .i64 (m.Skips)) := (hcw1 (w.heap.size) (2) (by first | omega | (simp only [World.size_alloc, World.size_drew, World.size_setCell, size_drewN]; omega))).trans (by first | assumption | (simp [go_sem, *]; done)); have cm1_3 : w1.cell? ⟨w.heap.size, 3, none⟩ = some (.int .i64 (m.Thick)) := (hcw1 (w.heap.size) (3) (by first | omega | (simp only [World.size_alloc, World.size_drew, World.size_setCell, size_drewN]; omega))).trans (by first | assumption | (simp [go_sem, *]; done)); have om1 : w.heap.size < w1.heap.size := (by omega)
  go_wp2_with fail; (refine (K2.out _).mono ?_; rintro e w2 ⟨rfl, hw2⟩; obtain ⟨hcw2, hfw2, hlw2, hmw2, hnw2⟩ := bcell3 hw2; have hzw2 := hw2.size; (try simp only [World.size_alloc, World.size_setCell, World.size_drew, size_drewN] at hzw2))
  have cm2_0 : w2.cell? ⟨w.heap.size, 0, none⟩ = some (.int .i64 (m.Wedge)) := (hcw2 (w.heap.size) (0) (by first | omega | (simp only [World.size_alloc, World.size_drew, World.size_setCell, size_drewN]; omega))).trans (by first | assumption | (simp [go_sem, *]; done)); have cm2_1 : w2.cell? ⟨w.heap.size, 1, none⟩ = some (.int .i64 (m.Metal)) := (hcw2 (w.heap.size) (1) (by first | omega | (simp only [World.size_alloc, World.size_drew, World.size_setCell, size_drewN]; omega))).trans (by first | assumption | (simp [go_sem, *]; done)); have cm2_2 : w2.cell? ⟨w.heap.size, 2, none⟩ = some (.int .i64 (m.Skips)) := (hcw2 (w.heap.size) (2) (by first | omega | (simp only [World.size_alloc, World.size_drew, World.size_setCell, size_drewN]; omega))).trans (by first | assumption | (simp [go_sem, *]; done)); have cm2_3 : w2.cell? ⟨w.heap.size, 3, none⟩ = some (.int .i64 (m.Thick)) := (hcw2 (w.heap.size) (3) (by first | omega | (simp only [World.size_alloc, World.size_drew, World.size_setCell, size_drewN]; omega))).trans (by first | assumption | (simp [go_sem, *]; done)); have om2 : w.heap.size < w2.heap.size := (by omega)
  clear cm1_0 cm1_1 cm1_2 cm1_3
  have cx2_0 : w2.cell? ⟨w1.heap.size, 0, none⟩ = some (.int .i64 (fx)) := (hcw2 (w1.heap.size) (0) (by first | omega | (simp only [World.size_alloc, World.size_drew, World.size_setCell, size_drewN]; omega))).trans (by first | assumption | (simp [go_sem, *]; done)); have cx2_1 : w2.cell? ⟨w1.heap.size, 1, none⟩ = some (.int .i64 (hz)) := (hcw2 (w1.heap.size) (1) (by first | omega | (simp only [World.size_alloc, World.size_drew, World.size_setCell, size_drewN]; omega))).trans (by first | assumption | (simp [go_sem, *]; done)); have cx2_2 : w2.cell? ⟨w1.heap.size, 2, none⟩ = some (.int .i64 (m.Wedge)) := (hcw2 (w1.heap.size) (2) (by first | omega | (simp only [World.size_alloc, World.size_drew, World.size_setCell, size_drewN]; omega))).trans (by first | assumption | (simp [go_sem, *]; done)); have cx2_3 : w2.cell? ⟨w1.heap.size, 3, none⟩ = some (.int .i64 (tx)) := (hcw2 (w1.heap.size) (3) (by first | omega | (simp only [World.size_alloc, World.size_drew, World.size_setCell, size_drewN]; omega))).trans (by first | assumption | (simp [go_sem, *]; done)); have cx2_4 : w2.cell? ⟨w1.heap.size, 4, none⟩ = some (.int .i64 (u)) := (hcw2 (w1.heap.size) (4) (by first | omega | (simp only [World.size_alloc, World.size_drew, World.size_setCell, size_drewN]; omega))).trans (by first | assumption | (simp [go_sem, *]; done)); have cx2_5 : w2.cell? ⟨w1.heap.size, 5, none⟩ = some (.int .i64 (m.Metal)) := (hcw2 (w1.heap.size) (5) (by first | omega | (simp only [World.size_alloc, World.size_drew, World.size_setCell, size_drewN]; omega))).trans (by first | assumption | (simp [go_sem, *]; done)); have ox2 : w1.heap.size < w2.heap.size := (by omega)
  go_wp2_with fail; (refine (K3.out _).mono ?_; rintro e w3 ⟨rfl, hw3⟩; obtain ⟨hcw3, hfw3, hlw3, hmw3, hnw3⟩ := bcell3 hw3; have hzw3 := hw3.size; (try simp only [World.size_alloc, World.size_setCell, World.size_drew, size_drewN] at hzw3))
  have cm3_0 : w3.cell? ⟨w.heap.size, 0, none⟩ = some (.int .i64 (m.Wedge)) := (hcw3 (w.heap.size) (0) (by first | omega | (simp only [World.size_alloc, World.size_drew, World.size_setCell, size_drewN]; omega))).trans (by first | assumption | (simp [go_sem, *]; done)); have cm3_1 : w3.cell? ⟨w.heap.size, 1, none⟩ = some (.int .i64 (m.Metal)) := (hcw3 (w.heap.size) (1) (by first | omega | (simp only [World.size_alloc, World.size_drew, World.size_setCell, size_drewN]; omega))).trans (by first | assumption | (simp [go_sem, *]; done)); have cm3_2 : w3.cell? ⟨w.heap.size, 2, none⟩ = some (.int .i64 (m.Skips)) := (hcw3 (w.heap.size) (2) (by first | omega | (simp only [World.size_alloc, World.size_drew, World.size_setCell, size_drewN]; omega))).trans (by first | assumption | (simp [go_sem, *]; done)); have cm3_3 : w3.cell? ⟨w.heap.size, 3, none⟩ = some (.int .i64 (m.Thick)) := (hcw3 (w.heap.size) (3) (by first | omega | (simp only [World.size_alloc, World.size_drew, World.size_setCell, size_drewN]; omega))).trans (by first | assumption | (simp [go_sem, *]; done)); have om3 : w.heap.size < w3.heap.size := (by omega)
  clear cm2_0 cm2_1 cm2_2 cm2_3
  have cx3_0 : w3.cell? ⟨w1.heap.size, 0, none⟩ = some (.int .i64 (fx)) := (hcw3 (w1.heap.size) (0) (by first | omega | (simp only [World.size_alloc, World.size_drew, World.size_setCell, size_drewN]; omega))).trans (by first | assumption | (simp [go_sem, *]; done)); have cx3_1 : w3.cell? ⟨w1.heap.size, 1, none⟩ = some (.int .i64 (hz)) := (hcw3 (w1.heap.size) (1) (by first | omega | (simp only [World.size_alloc, World.size_drew, World.size_setCell, size_drewN]; omega))).trans (by first | assumption | (simp [go_sem, *]; done)); have cx3_2 : w3.cell? ⟨w1.heap.size, 2, none⟩ = some (.int .i64 (m.Wedge)) := (hcw3 (w1.heap.size) (2) (by first | omega | (simp only [World.size_alloc, World.size_drew, World.size_setCell, size_drewN]; omega))).trans (by first | assumption | (simp [go_sem, *]; done)); have cx3_3 : w3.cell? ⟨w1.heap.size, 3, none⟩ = some (.int .i64 (tx)) := (hcw3 (w1.heap.size) (3) (by first | omega | (simp only [World.size_alloc, World.size_drew, World.size_setCell, size_drewN]; omega))).trans (by first | assumption | (simp [go_sem, *]; done)); have cx3_4 : w3.cell? ⟨w1.heap.size, 4, none⟩ = some (.int .i64 (u)) := (hcw3 (w1.heap.size) (4) (by first | omega | (simp only [World.size_alloc, World.size_drew, World.size_setCell, size_drewN]; omega))).trans (by first | assumption | (simp [go_sem, *]; done)); have cx3_5 : w3.cell? ⟨w1.heap.size, 5, none⟩ = some (.int .i64 (m.Metal)) := (hcw3 (w1.heap.size) (5) (by first | omega | (simp only [World.size_alloc, World.size_drew, World.size_setCell, size_drewN]; omega))).trans (by first | assumption | (simp [go_sem, *]; done)); have ox3 : w1.heap.size < w3.heap.size := (by omega)
  clear cx2_0 cx2_1 cx2_2 cx2_3 cx2_4 cx2_5
  go_wp2
  go_loopw [11, 12] (fun v j wr => ∃ k : Nat, (k : Int) ≤ m.Skips ∧ j = .int .i64 ((k : Int) + 1) ∧ wr.ownsRow w3.heap.size 26 2 v k (wls c kk m.Thick k) ∧ Below w3.heap.size w3 wr) (fun _ j _ => (5 - intOf j).toNat)
  case atStart => exact ⟨0, by omega, by simp, World.ownsRow_nil _ _ _ _, Below.refl _ _⟩
  case round =>
    obtain ⟨k, hk, rfl, hown, hB⟩ := hrel
    have hzr := hB.size
    have cmr_0 : wr.cell? ⟨w.heap.size, 0, none⟩ = some (.int .i64 (m.Wedge)) := ((bcell (hB)).1 _ _ (by omega)).trans cm3_0
    have cmr_1 : wr.cell? ⟨w.heap.size, 1, none⟩ = some (.int .i64 (m.Metal)) := ((bcell (hB)).1 _ _ (by omega)).trans cm3_1
    have cmr_2 : wr.cell? ⟨w.heap.size, 2, none⟩ = some (.int .i64 (m.Skips)) := ((bcell (hB)).1 _ _ (by omega)).trans cm3_2
    have cmr_3 : wr.cell? ⟨w.heap.size, 3, none⟩ = some (.int .i64 (m.Thick)) := ((bcell (hB)).1 _ _ (by omega)).trans cm3_3
    have cxr_0 : wr.cell? ⟨w1.heap.size, 0, none⟩ = some (.int .i64 (fx)) := ((bcell (hB)).1 _ _ (by omega)).trans cx3_0
    have cxr_1 : wr.cell? ⟨w1.heap.size, 1, none⟩ = some (.int .i64 (hz)) := ((bcell (hB)).1 _ _ (by omega)).trans cx3_1
    have cxr_2 : wr.cell? ⟨w1.heap.size, 2, none⟩ = some (.int .i64 (m.Wedge)) := ((bcell (hB)).1 _ _ (by omega)).trans cx3_2
    have cxr_3 : wr.cell? ⟨w1.heap.size, 3, none⟩ = some (.int .i64 (tx)) := ((bcell (hB)).1 _ _ (by omega)).trans cx3_3
    have cxr_4 : wr.cell? ⟨w1.heap.size, 4, none⟩ = some (.int .i64 (u)) := ((bcell (hB)).1 _ _ (by omega)).trans cx3_4
    have cxr_5 : wr.cell? ⟨w1.heap.size, 5, none⟩ = some (.int .i64 (m.Metal)) := ((bcell (hB)).1 _ _ (by omega)).trans cx3_5
    have hO := Lib.hid hown
    have hBB := Lib.hid hB
    clear hown hB
    by_cases hlt : (k : Int) + 1 ≤ m.Skips
    · obtain ⟨b1, b2, b3⟩ := HBD.out k (by omega)
      have q1 := ediv_small (n := (tx - kk) * ((k : Int) + 1) * m.Thick) (b := u) (M := 16000000000) (by omega) b3
      have q2 := cdiv_small (n := (tx - kk) * ((k : Int) + 1) * m.Thick) (b := u) (M := 16000000000) (by omega) b3
      have D1 := Lib.hid (fun W => dd_any ((tx - kk) * ((k : Int) + 1) * m.Thick) u W (by omega) (by omega) (by omega) (by omega))
      have D2 := Lib.hid (fun W => du_any ((tx - kk) * ((k : Int) + 1) * m.Thick) u W (by omega) (by omega) (by omega) (by omega))
      have HWk := Lib.hid (HW.out k)
      go_wp2_with fail
      refine wp_region_held_drew (S := fun w' => w'.cell? ⟨w.heap.size, 0, none⟩ = some (.int .i64 (m.Wedge)) ∧ w'.cell? ⟨w.heap.size, 1, none⟩ = some (.int .i64 (m.Metal)) ∧ w'.cell? ⟨w.heap.size, 2, none⟩ = some (.int .i64 (m.Skips)) ∧ w'.cell? ⟨w.heap.size, 3, none⟩ = some (.int .i64 (m.Thick)) ∧ w'.cell? ⟨w1.heap.size, 0, none⟩ = some (.int .i64 (fx)) ∧ w'.cell? ⟨w1.heap.size, 1, none⟩ = some (.int .i64 (hz)) ∧ w'.cell? ⟨w1.heap.size, 2, none⟩ = some (.int .i64 (m.Wedge)) ∧ w'.cell? ⟨w1.heap.size, 3, none⟩ = some (.int .i64 (tx)) ∧ w'.cell? ⟨w1.heap.size, 4, none⟩ = some (.int .i64 (u)) ∧ w'.cell? ⟨w1.heap.size, 5, none⟩ = some (.int .i64 (m.Metal))) (by kernel_rfl) ?_ (fun hH1 => ?_)
      · (first | assumption | (refine ⟨?_, ?_, ?_, ?_, ?_, ?_, ?_, ?_, ?_, ?_⟩ <;> assumption) | (go_keep; done) | (simp [*, go_sem]; done))
      refine wpAnyH_pure (i := 0) (v := ?_) rfl (by kernel_rfl) (by kernel_rfl) (by kernel_rfl) (fun _ _ _ h => h) (by rfl) (by assumption) ?_ ?_
      rotate_left
      · (intro w hSw; (try dsimp only at hSw); go_simp; (try with_reducible rfl))
      simp only [Act.put, List.getElem_toArray, List.getElem_cons_succ, List.getElem_cons_zero, List.setIfInBounds_toArray, List.set_cons_zero, List.set_cons_succ]
      refine wpAnyH_pure (i := 1) (v := ?_) rfl (by kernel_rfl) (by kernel_rfl) (by kernel_rfl) (fun _ _ _ h => h) (by rfl) (by assumption) ?_ ?_
      rotate_left
      · (intro w hSw; (try dsimp only at hSw); go_simp; (try with_reducible rfl))
      simp only [Act.put, List.getElem_toArray, List.getElem_cons_succ, List.getElem_cons_zero, List.setIfInBounds_toArray, List.set_cons_zero, List.set_cons_succ]
      refine wpAnyH_pure (i := 2) (v := ?_) rfl (by kernel_rfl) (by kernel_rfl) (by kernel_rfl) (fun _ _ _ h => h) (by rfl) (by assumption) ?_ ?_
      rotate_left
      · (intro w hSw; (try dsimp only at hSw); go_simp; (try with_reducible rfl))
      simp only [Act.put, List.getElem_toArray, List.getElem_cons_succ, List.getElem_cons_zero, List.setIfInBounds_toArray, List.set_cons_zero, List.set_cons_succ]
      refine wpAnyH_pure (i := 3) (v := ?_) rfl (by kernel_rfl) (by kernel_rfl) (by kernel_rfl) (fun _ _ _ h => h) (by rfl) (by assumption) ?_ ?_
      rotate_left
      · (intro w hSw; (try dsimp only at hSw); go_simp; (try with_reducible rfl))
      simp only [Act.put, List.getElem_toArray, List.getElem_cons_succ, List.getElem_cons_zero, List.setIfInBounds_toArray, List.set_cons_zero, List.set_cons_succ]
      refine wpAnyH_pure (i := 4) (v := ?_) rfl (by kernel_rfl) (by kernel_rfl) (by kernel_rfl) (fun _ _ _ h => h) (by rfl) (by assumption) ?_ ?_
      rotate_left
      · (intro w hSw; (try dsimp only at hSw); go_simp; (try with_reducible rfl))
      simp only [Act.put, List.getElem_toArray, List.getElem_cons_succ, List.getElem_cons_zero, List.setIfInBounds_toArray, List.set_cons_zero, List.set_cons_succ]
      refine wpAnyH_pure (i := 7) (v := ?_) rfl (by kernel_rfl) (by kernel_rfl) (by kernel_rfl) (fun _ _ _ h => h) (by rfl) (by assumption) ?_ ?_
      rotate_left
      · (intro w hSw; (try dsimp only at hSw); go_simp; (try with_reducible rfl))
      simp only [Act.put, List.getElem_toArray, List.getElem_cons_succ, List.getElem_cons_zero, List.setIfInBounds_toArray, List.set_cons_zero, List.set_cons_succ]
      refine wpAnyH_pure (i := 8) (v := ?_) rfl (by kernel_rfl) (by kernel_rfl) (by kernel_rfl) (fun _ _ _ h => h) (by rfl) (by assumption) ?_ ?_
      rotate_left
      · (intro w hSw; (try dsimp only at hSw); go_simp; (try with_reducible rfl))
      simp only [Act.put, List.getElem_toArray, List.getElem_cons_succ, List.getElem_cons_zero, List.setIfInBounds_toArray, List.set_cons_zero, List.set_cons_succ]
      refine wpAnyH_pure (i := 9) (v := ?_) rfl (by kernel_rfl) (by kernel_rfl) (by kernel_rfl) (fun _ _ _ h => h) (by rfl) (by assumption) ?_ ?_
      rotate_left
      · (intro w hSw; (try dsimp only at hSw); go_simp; (try with_reducible rfl))
      simp only [Act.put, List.getElem_toArray, List.getElem_cons_succ, List.getElem_cons_zero, List.setIfInBounds_toArray, List.set_cons_zero, List.set_cons_succ]
      refine wpAnyH_pure (i := 10) (v := ?_) rfl (by kernel_rfl) (by kernel_rfl) (by kernel_rfl) (fun _ _ _ h => h) (by rfl) (by assumption) ?_ ?_
      rotate_left
      · (intro w hSw; (try dsimp only at hSw); go_simp; (try with_reducible rfl))
      simp only [Act.put, List.getElem_toArray, List.getElem_cons_succ, List.getElem_cons_zero, List.setIfInBounds_toArray, List.set_cons_zero, List.set_cons_succ]
      refine wpAnyH_ready (rs := [5]) (by kernel_rfl) (by simp) ?_
      refine AllReadyH.cons rfl (fun Kq hKq => ?_) AllReadyH.nil
      go_simp
      refine (D1.out _).mono ?_
      (rintro e w' ⟨rfl, rfl⟩)
      refine hKq.out _ _ ?_ (fun hH2 => ?_)
      · (first | assumption | (refine ⟨?_, ?_, ?_, ?_, ?_, ?_, ?_, ?_, ?_, ?_⟩ <;> assumption) | (go_keep; done) | (simp [*, go_sem]; done))
      clear hKq Kq
      clear hH1
      refine wpAnyH_pure (i := 6) (v := ?_) rfl (by kernel_rfl) (by kernel_rfl) (by kernel_rfl) (fun _ _ _ h => h) (by rfl) (by assumption) ?_ ?_
      rotate_left
      · (intro w hSw; (try dsimp only at hSw); go_simp; (try with_reducible rfl))
      simp only [Act.put, List.getElem_toArray, List.getElem_cons_succ, List.getElem_cons_zero, List.setIfInBounds_toArray, List.set_cons_zero, List.set_cons_succ]
      refine wpAnyH_ready (rs := [11]) (by kernel_rfl) (by simp) ?_
      refine AllReadyH.cons rfl (fun Kq hKq => ?_) AllReadyH.nil
      go_simp
      refine (D2.out _).mono ?_
      (rintro e w' ⟨rfl, rfl⟩)
      refine hKq.out _ _ ?_ (fun hH3 => ?_)
      · (first | assumption | (refine ⟨?_, ?_, ?_, ?_, ?_, ?_, ?_, ?_, ?_, ?_⟩ <;> assumption) | (go_keep; done) | (simp [*, go_sem]; done))
      clear hKq Kq
      clear hH2
      refine wpAnyH_pure (i := 12) (v := ?_) rfl (by kernel_rfl) (by kernel_rfl) (by kernel_rfl) (fun _ _ _ h => h) (by rfl) (by assumption) ?_ ?_
      rotate_left
      · (intro w hSw; (try dsimp only at hSw); go_simp; (try with_reducible rfl))
      simp only [Act.put, List.getElem_toArray, List.getElem_cons_succ, List.getElem_cons_zero, List.setIfInBounds_toArray, List.set_cons_zero, List.set_cons_succ]
      refine wpAnyH_pure (i := 13) (v := ?_) rfl (by kernel_rfl) (by kernel_rfl) (by kernel_rfl) (fun _ _ _ h => h) (by rfl) (by assumption) ?_ ?_
      rotate_left
      · (intro w hSw; (try dsimp only at hSw); go_simp; (try with_reducible rfl))
      simp only [Act.put, List.getElem_toArray, List.getElem_cons_succ, List.getElem_cons_zero, List.setIfInBounds_toArray, List.set_cons_zero, List.set_cons_succ]
      refine wpAnyH_ready (rs := [14]) (by kernel_rfl) (by simp) ?_
      refine AllReadyH.cons rfl (fun Kq hKq => ?_) AllReadyH.nil
      go_simp
      refine hKq.out _ _ ?_ (fun hH4 => ?_)
      · (first | assumption | (refine ⟨?_, ?_, ?_, ?_, ?_, ?_, ?_, ?_, ?_, ?_⟩ <;> assumption) | (go_keep; done) | (simp [*, go_sem]; done))
      clear hKq Kq
      clear hH3
      refine wpAnyH_ready (rs := [15]) (by kernel_rfl) (by simp) ?_
      refine AllReadyH.cons rfl (fun Kq hKq => ?_) AllReadyH.nil
      have hown := hO.out
      have hB := hBB.out
      rw [if_pos (by rfl)]
      refine wp_append_own _ (.tmp 42) (.tmp 56) 66 rfl w3.heap.size 26 i0 (.agg #[.int .i64 0, .int .i64 0]) 2 16 Try.underlying66 HI.out HZ.out HZ1.out HZ2.out rfl (by decide) _ _ _ rfl (hown.drew.alloc _) ⟨wr.heap.size, 0, none⟩ 1 1 [.int .i64 (kk + (tx - kk) * ((k : Int) + 1) * m.Thick / u), .int .i64 (kk + cdiv ((tx - kk) * ((k : Int) + 1) * m.Thick) u)] rfl rfl ?_ ?_ ?_ ?_ ?_ ?_
      rotate_right
      intro v' wA hown' hgrow _
      rw [← HWk.out, ← wls_succ] at hown'
      have hB' : Below w3.heap.size w3 wA := Below.grown ((Below.drew hB).alloc (by simp; omega) _) hgrow (by simp; omega) (fun b hb => (hown.lt b hb).1)
      have cmA_0 : wA.cell? ⟨w.heap.size, 0, none⟩ = some (.int .i64 (m.Wedge)) := ((bcell (hB')).1 _ _ (by omega)).trans cm3_0
      have cmA_1 : wA.cell? ⟨w.heap.size, 1, none⟩ = some (.int .i64 (m.Metal)) := ((bcell (hB')).1 _ _ (by omega)).trans cm3_1
      have cmA_2 : wA.cell? ⟨w.heap.size, 2, none⟩ = some (.int .i64 (m.Skips)) := ((bcell (hB')).1 _ _ (by omega)).trans cm3_2
      have cmA_3 : wA.cell? ⟨w.heap.size, 3, none⟩ = some (.int .i64 (m.Thick)) := ((bcell (hB')).1 _ _ (by omega)).trans cm3_3
      have cxA_0 : wA.cell? ⟨w1.heap.size, 0, none⟩ = some (.int .i64 (fx)) := ((bcell (hB')).1 _ _ (by omega)).trans cx3_0
      have cxA_1 : wA.cell? ⟨w1.heap.size, 1, none⟩ = some (.int .i64 (hz)) := ((bcell (hB')).1 _ _ (by omega)).trans cx3_1
      have cxA_2 : wA.cell? ⟨w1.heap.size, 2, none⟩ = some (.int .i64 (m.Wedge)) := ((bcell (hB')).1 _ _ (by omega)).trans cx3_2
      have cxA_3 : wA.cell? ⟨w1.heap.size, 3, none⟩ = some (.int .i64 (tx)) := ((bcell (hB')).1 _ _ (by omega)).trans cx3_3
      have cxA_4 : wA.cell? ⟨w1.heap.size, 4, none⟩ = some (.int .i64 (u)) := ((bcell (hB')).1 _ _ (by omega)).trans cx3_4
      have cxA_5 : wA.cell? ⟨w1.heap.size, 5, none⟩ = some (.int .i64 (m.Metal)) := ((bcell (hB')).1 _ _ (by omega)).trans cx3_5
      have hO' := Lib.hid hown'
      have hBB' := Lib.hid hB'
      clear hown hB hown' hB' hgrow
      refine hKq.out _ _ ?_ (fun hH5 => ?_)
      · (first | assumption | (refine ⟨?_, ?_, ?_, ?_, ?_, ?_, ?_, ?_, ?_, ?_⟩ <;> assumption) | (go_keep; done) | (simp [*, go_sem]; done))
      clear hKq Kq
      clear hH4
      refine wpAnyH_pure (i := 16) (v := ?_) rfl (by kernel_rfl) (by kernel_rfl) (by kernel_rfl) (fun _ _ _ h => h) (by rfl) (by assumption) ?_ ?_
      rotate_left
      · (intro w hSw; (try dsimp only at hSw); go_simp; (try with_reducible rfl))
      simp only [Act.put, List.getElem_toArray, List.getElem_cons_succ, List.getElem_cons_zero, List.setIfInBounds_toArray, List.set_cons_zero, List.set_cons_succ]
      refine wpAnyH_done (by kernel_rfl) ?_ _
      go_wp2
      go_roundw
      case rel => exact ⟨k + 1, by omega, by go_num, hO'.out, hBB'.out⟩
      case measure => simp [intOf]; omega
      · intro j v hj
        match j, hj with
        | 0, hj => simp at hj; subst hj; simp [Addr.add]; exact IntWalk.i64_in _ (by omega)
        | 1, hj => simp at hj; subst hj; simp [Addr.add]; exact IntWalk.i64_in _ (by omega)
      · intro v hv; simp at hv; rcases hv with rfl | rfl <;> rfl
      · unfold maxLen; omega
      · omega
      · simp; omega
    · have hown := hO.out
      have hB := hBB.out
      have ek : k = m.Skips.toNat := by omega
      subst ek
      go_wp2
      go_ret2
      exact ⟨_, rfl, hown.mono (by omega), by (repeat' (first | (with_reducible exact Below.refl _ _) | (with_reducible assumption) | (with_reducible refine Below.alloc ?_ ?_ _) | (with_reducible refine Below.drew ?_) | (with_reducible refine below_drewN ?_ _) | (with_reducible refine Below.setCell ?_ ?_ _) | (with_reducible refine below_step (by with_reducible assumption) ?_ ?_) | (with_reducible exact Below.size (by with_reducible assumption)) | go_size))⟩

theorem Walls_ok (m : Md) (fx fz tx tz : Int) (w : World) (h : okM m) (hw : okW m fx fz tx tz) :
    Calls Try.prog 48 #[.agg #[.int .i64 m.Wedge, .int .i64 m.Metal, .int .i64 m.Skips, .int .i64 m.Thick], .agg #[.int .i64 fx, .int .i64 fz], .agg #[.int .i64 tx, .int .i64 tz]] w (Rngs w (wls (crM m fx fz tx tz) (plc (crM m fx fz tx tz)) m.Thick m.Skips.toNat) m.Skips.toNat 0) := by
  have hx := okC_of h hw
  have hk := plc_in hx
  refine walls_walk m fx fz tx tz (-fz) (unf m tz) (plc (crM m fx fz tx tz)) (crM m fx fz tx tz) w h.2.2.1 h.2.2.2 hx.2.2.2.1 ?_ (Lib.hid fun j hj => wX_bd (j := j) hx hk h.2.2.2 hj) (Lib.hid fun j => rfl)
    (Lib.hid fun W => CrossOf_ok m fx fz tx tz W h hw) (Lib.hid fun W => crossingOf_any (crM m fx fz tx tz) W) (Lib.hid fun W => place_any (crM m fx fz tx tz) W hx)
  have a := hx.1
  have b := hx.2.1
  unfold inC at hk
  omega
end Go.Proofs.Ytpphnnbijmoodaa
