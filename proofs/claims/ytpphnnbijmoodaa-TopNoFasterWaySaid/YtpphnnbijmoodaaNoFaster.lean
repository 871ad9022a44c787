/-
  NO WAY IS FASTER: the walk of TopNoFasterWay.
-/
import Derived.Test.YtpphnnbijmoodaaFaster
import Derived.Test.YtpphnnbijmoodaaWayErr
import Derived.Test.YtpphnnbijmoodaaLegT
import Derived.Test.YtpphnnbijmoodaaSnell
import Derived.Test.YtpphnnbijmoodaaReg
set_option linter.unusedVariables false
set_option linter.unusedSimpArgs false
namespace Go.Proofs.Ytpphnnbijmoodaa
open Go.RowKit

theorem abs_last {α : Sort _} {f : α → Prop} {x : α} (h : ∀ y, y = x → f y) : f x := h x rfl
theorem abs_calls {P : Program} {f : FuncId} {vs : Array Value} {w : World} {Q : Ending → World → Prop} (h : ∀ W, W = w → Calls P f vs W Q) : Calls P f vs w Q := h w rfl

theorem bl {B : Nat} {w w' : World} (h : Below B w w') {b o : Nat} {v : Value} (hb : b < B) (hc : w.cell? ⟨b, o, none⟩ = some v) : w'.cell? ⟨b, o, none⟩ = some v := (h.cell (p := ⟨b, o, none⟩) hb).trans hc
/-- the state of the loop -/
def NfSt (G : Int → Nat → Int → Prop) (T : Int) (S A L : Nat) (w6 : World) (k : Nat) (all p l0 l1 : Int) (wr : World) : Prop :=
  k ≤ S ∧ G p k all ∧ (0 ≤ all ∧ all ≤ ((k : Int) + 1) * 6000000101) ∧ (-50000 ≤ p ∧ p ≤ 50000) ∧ Below A w6 wr ∧
  (wr.cell? ⟨A, 0, none⟩ = some (.int .i64 p) ∧ wr.cell? ⟨A, 1, none⟩ = some (.int .i64 (alt k T)) ∧ wr.frozen? ⟨A, 0, none⟩ = false ∧ wr.frozen? ⟨A, 1, none⟩ = false) ∧
  (wr.cell? ⟨L, 0, none⟩ = some (.int .i64 l0) ∧ wr.cell? ⟨L, 1, none⟩ = some (.int .i64 l1) ∧ wr.frozen? ⟨L, 0, none⟩ = false ∧ wr.frozen? ⟨L, 1, none⟩ = false)

set_option maxRecDepth 100000 in
set_option maxHeartbeats 1000000 in
theorem nf_err (m : Md) (fx fz tx tz g s q0 q1 q2 q3 : Int) (w : World) (hg : ¬ g = 0)
    (H2 : Hid (∀ W, Calls Try.prog 46 #[.agg #[.int .i64 m.Wedge, .int .i64 m.Metal, .int .i64 m.Skips, .int .i64 m.Thick], .agg #[.int .i64 fx, .int .i64 fz], .agg #[.int .i64 tx, .int .i64 tz]] W fun e w' => e = .returned (.tuple #[.agg #[.int .i64 0, .int .i64 0], .int .i64 g]) ∧ Below W.heap.size W w')) :
    Calls Try.prog 17 #[.agg #[.int .i64 m.Wedge, .int .i64 m.Metal, .int .i64 m.Skips, .int .i64 m.Thick, .int .i64 fx, .int .i64 fz, .int .i64 tx, .int .i64 tz], .int .i64 s, .agg #[.int .i64 q0, .int .i64 q1, .int .i64 q2, .int .i64 q3]] w fun e w' => e = .returned (.bool true) ∧ Below w.heap.size w w' := by
  go_enter Try.func17, Try.ntmps17
  go_wp2_with fail; (refine (rayed_any _).mono ?_; rintro e w1 ⟨rfl, hw1⟩; obtain ⟨hcw1, hfw1, hlw1, hmw1, hnw1⟩ := bcell3 hw1; have hzw1 := hw1.size; (try simp only [World.size_alloc, World.size_setCell, World.size_drew, size_drewN] at hzw1))
  have ca1_0 : w1.cell? ⟨w.heap.size, 0, none⟩ = some (.int .i64 (m.Wedge)) := (hcw1 (w.heap.size) (0) (by first | omega | (simp only [World.size_alloc, World.size_drew, World.size_setCell, size_drewN]; omega))).trans (by first | assumption | (simp [go_sem, *]; done)); have ca1_1 : w1.cell? ⟨w.heap.size, 1, none⟩ = some (.int .i64 (m.Metal)) := (hcw1 (w.heap.size) (1) (by first | omega | (simp only [World.size_alloc, World.size_drew, World.size_setCell, size_drewN]; omega))).trans (by first | assumption | (simp [go_sem, *]; done)); have ca1_2 : w1.cell? ⟨w.heap.size, 2, none⟩ = some (.int .i64 (m.Skips)) := (hcw1 (w.heap.size) (2) (by first | omega | (simp only [World.size_alloc, World.size_drew, World.size_setCell, size_drewN]; omega))).trans (by first | assumption | (simp [go_sem, *]; done)); have ca1_3 : w1.cell? ⟨w.heap.size, 3, none⟩ = some (.int .i64 (m.Thick)) := (hcw1 (w.heap.size) (3) (by first | omega | (simp only [World.size_alloc, World.size_drew, World.size_setCell, size_drewN]; omega))).trans (by first | assumption | (simp [go_sem, *]; done)); have ca1_4 : w1.cell? ⟨w.heap.size, 4, none⟩ = some (.int .i64 (fx)) := (hcw1 (w.heap.size) (4) (by first | omega | (simp only [World.size_alloc, World.size_drew, World.size_setCell, size_drewN]; omega))).trans (by first | assumption | (simp [go_sem, *]; done)); have ca1_5 : w1.cell? ⟨w.heap.size, 5, none⟩ = some (.int .i64 (fz)) := (hcw1 (w.heap.size) (5) (by first | omega | (simp only [World.size_alloc, World.size_drew, World.size_setCell, size_drewN]; omega))).trans (by first | assumption | (simp [go_sem, *]; done)); have ca1_6 : w1.cell? ⟨w.heap.size, 6, none⟩ = some (.int .i64 (tx)) := (hcw1 (w.heap.size) (6) (by first | omega | (simp only [World.size_alloc, World.size_drew, World.size_setCell, size_drewN]; omega))).trans (by first | assumption | (simp [go_sem, *]; done)); have ca1_7 : w1.cell? ⟨w.heap.size, 7, none⟩ = some (.int .i64 (tz)) := (hcw1 (w.heap.size) (7) (by first | omega | (simp only [World.size_alloc, World.size_drew, World.size_setCell, size_drewN]; omega))).trans (by first | assumption | (simp [go_sem, *]; done)); have oa1 : w.heap.size < w1.heap.size := (by omega)
  go_wp2_with fail; (refine (H2.out _).mono ?_; rintro e w2 ⟨rfl, hw2⟩; obtain ⟨hcw2, hfw2, hlw2, hmw2, hnw2⟩ := bcell3 hw2; have hzw2 := hw2.size; (try simp only [World.size_alloc, World.size_setCell, World.size_drew, size_drewN] at hzw2))
  have ca2_0 : w2.cell? ⟨w.heap.size, 0, none⟩ = some (.int .i64 (m.Wedge)) := (hcw2 (w.heap.size) (0) (by first | omega | (simp only [World.size_alloc, World.size_drew, World.size_setCell, size_drewN]; omega))).trans (by first | assumption | (simp [go_sem, *]; done)); have ca2_1 : w2.cell? ⟨w.heap.size, 1, none⟩ = some (.int .i64 (m.Metal)) := (hcw2 (w.heap.size) (1) (by first | omega | (simp only [World.size_alloc, World.size_drew, World.size_setCell, size_drewN]; omega))).trans (by first | assumption | (simp [go_sem, *]; done)); have ca2_2 : w2.cell? ⟨w.heap.size, 2, none⟩ = some (.int .i64 (m.Skips)) := (hcw2 (w.heap.size) (2) (by first | omega | (simp only [World.size_alloc, World.size_drew, World.size_setCell, size_drewN]; omega))).trans (by first | assumption | (simp [go_sem, *]; done)); have ca2_3 : w2.cell? ⟨w.heap.size, 3, none⟩ = some (.int .i64 (m.Thick)) := (hcw2 (w.heap.size) (3) (by first | omega | (simp only [World.size_alloc, World.size_drew, World.size_setCell, size_drewN]; omega))).trans (by first | assumption | (simp [go_sem, *]; done)); have ca2_4 : w2.cell? ⟨w.heap.size, 4, none⟩ = some (.int .i64 (fx)) := (hcw2 (w.heap.size) (4) (by first | omega | (simp only [World.size_alloc, World.size_drew, World.size_setCell, size_drewN]; omega))).trans (by first | assumption | (simp [go_sem, *]; done)); have ca2_5 : w2.cell? ⟨w.heap.size, 5, none⟩ = some (.int .i64 (fz)) := (hcw2 (w.heap.size) (5) (by first | omega | (simp only [World.size_alloc, World.size_drew, World.size_setCell, size_drewN]; omega))).trans (by first | assumption | (simp [go_sem, *]; done)); have ca2_6 : w2.cell? ⟨w.heap.size, 6, none⟩ = some (.int .i64 (tx)) := (hcw2 (w.heap.size) (6) (by first | omega | (simp only [World.size_alloc, World.size_drew, World.size_setCell, size_drewN]; omega))).trans (by first | assumption | (simp [go_sem, *]; done)); have ca2_7 : w2.cell? ⟨w.heap.size, 7, none⟩ = some (.int .i64 (tz)) := (hcw2 (w.heap.size) (7) (by first | omega | (simp only [World.size_alloc, World.size_drew, World.size_setCell, size_drewN]; omega))).trans (by first | assumption | (simp [go_sem, *]; done)); have oa2 : w.heap.size < w2.heap.size := (by omega)
  clear ca1_0 ca1_1 ca1_2 ca1_3 ca1_4 ca1_5 ca1_6 ca1_7
  go_wp2
  go_ret
  exact ⟨rfl, by (repeat' (first | (with_reducible exact Below.refl _ _) | (with_reducible assumption) | (with_reducible refine Below.alloc ?_ ?_ _) | (with_reducible refine Below.drew ?_) | (with_reducible refine below_drewN ?_ _) | (with_reducible refine Below.setCell ?_ ?_ _) | (with_reducible refine below_step (by with_reducible assumption) ?_ ?_) | (with_reducible exact Below.size (by with_reducible assumption)) | go_size))⟩
set_option maxRecDepth 100000 in
set_option maxHeartbeats 1000000 in
theorem nf_far (V M T fx fz tx tz a b s q0 q1 q2 q3 : Int) (S : Nat) (w : World) (hS4 : S ≤ 4) (hs : inB s (-50000) 50000 = false)
    (H2 : Hid (∀ W, Calls Try.prog 46 #[.agg #[.int .i64 V, .int .i64 M, .int .i64 (S : Int), .int .i64 T], .agg #[.int .i64 fx, .int .i64 fz], .agg #[.int .i64 tx, .int .i64 tz]] W fun e w' => e = .returned (.tuple #[.agg #[.int .i64 a, .int .i64 b], .int .i64 0]) ∧ Below W.heap.size W w')) :
    Calls Try.prog 17 #[.agg #[.int .i64 V, .int .i64 M, .int .i64 (S : Int), .int .i64 T, .int .i64 fx, .int .i64 fz, .int .i64 tx, .int .i64 tz], .int .i64 s, .agg #[.int .i64 q0, .int .i64 q1, .int .i64 q2, .int .i64 q3]] w fun e w' => e = .returned (.bool true) ∧ Below w.heap.size w w' := by
  have K1 : ∀ W, _ := fun W => bwithin_any s (-50000) 50000 W
  rw [hs] at K1
  have B1 := Lib.hid K1
  clear K1 hs
  have K2 : ∀ W, _ := fun W => bwithin_any (S : Int) 0 4 W
  rw [inB_iff.2 (show (0 : Int) ≤ (S : Int) ∧ (S : Int) ≤ 4 by omega)] at K2
  have B2 := Lib.hid K2
  clear K2
  go_enter Try.func17, Try.ntmps17
  go_wp2_with fail; (refine (rayed_any _).mono ?_; rintro e w1 ⟨rfl, hw1⟩; obtain ⟨hcw1, hfw1, hlw1, hmw1, hnw1⟩ := bcell3 hw1; have hzw1 := hw1.size; (try simp only [World.size_alloc, World.size_setCell, World.size_drew, size_drewN] at hzw1))
  have ca1_0 : w1.cell? ⟨w.heap.size, 0, none⟩ = some (.int .i64 (V)) := (hcw1 (w.heap.size) (0) (by first | omega | (simp only [World.size_alloc, World.size_drew, World.size_setCell, size_drewN]; omega))).trans (by first | assumption | (simp [go_sem, *]; done)); have ca1_1 : w1.cell? ⟨w.heap.size, 1, none⟩ = some (.int .i64 (M)) := (hcw1 (w.heap.size) (1) (by first | omega | (simp only [World.size_alloc, World.size_drew, World.size_setCell, size_drewN]; omega))).trans (by first | assumption | (simp [go_sem, *]; done)); have ca1_2 : w1.cell? ⟨w.heap.size, 2, none⟩ = some (.int .i64 ((S : Int))) := (hcw1 (w.heap.size) (2) (by first | omega | (simp only [World.size_alloc, World.size_drew, World.size_setCell, size_drewN]; omega))).trans (by first | assumption | (simp [go_sem, *]; done)); have ca1_3 : w1.cell? ⟨w.heap.size, 3, none⟩ = some (.int .i64 (T)) := (hcw1 (w.heap.size) (3) (by first | omega | (simp only [World.size_alloc, World.size_drew, World.size_setCell, size_drewN]; omega))).trans (by first | assumption | (simp [go_sem, *]; done)); have ca1_4 : w1.cell? ⟨w.heap.size, 4, none⟩ = some (.int .i64 (fx)) := (hcw1 (w.heap.size) (4) (by first | omega | (simp only [World.size_alloc, World.size_drew, World.size_setCell, size_drewN]; omega))).trans (by first | assumption | (simp [go_sem, *]; done)); have ca1_5 : w1.cell? ⟨w.heap.size, 5, none⟩ = some (.int .i64 (fz)) := (hcw1 (w.heap.size) (5) (by first | omega | (simp only [World.size_alloc, World.size_drew, World.size_setCell, size_drewN]; omega))).trans (by first | assumption | (simp [go_sem, *]; done)); have ca1_6 : w1.cell? ⟨w.heap.size, 6, none⟩ = some (.int .i64 (tx)) := (hcw1 (w.heap.size) (6) (by first | omega | (simp only [World.size_alloc, World.size_drew, World.size_setCell, size_drewN]; omega))).trans (by first | assumption | (simp [go_sem, *]; done)); have ca1_7 : w1.cell? ⟨w.heap.size, 7, none⟩ = some (.int .i64 (tz)) := (hcw1 (w.heap.size) (7) (by first | omega | (simp only [World.size_alloc, World.size_drew, World.size_setCell, size_drewN]; omega))).trans (by first | assumption | (simp [go_sem, *]; done)); have oa1 : w.heap.size < w1.heap.size := (by omega)
  go_wp2_with fail; (refine (H2.out _).mono ?_; rintro e w2 ⟨rfl, hw2⟩; obtain ⟨hcw2, hfw2, hlw2, hmw2, hnw2⟩ := bcell3 hw2; have hzw2 := hw2.size; (try simp only [World.size_alloc, World.size_setCell, World.size_drew, size_drewN] at hzw2))
  have ca2_0 : w2.cell? ⟨w.heap.size, 0, none⟩ = some (.int .i64 (V)) := (hcw2 (w.heap.size) (0) (by first | omega | (simp only [World.size_alloc, World.size_drew, World.size_setCell, size_drewN]; omega))).trans (by first | assumption | (simp [go_sem, *]; done)); have ca2_1 : w2.cell? ⟨w.heap.size, 1, none⟩ = some (.int .i64 (M)) := (hcw2 (w.heap.size) (1) (by first | omega | (simp only [World.size_alloc, World.size_drew, World.size_setCell, size_drewN]; omega))).trans (by first | assumption | (simp [go_sem, *]; done)); have ca2_2 : w2.cell? ⟨w.heap.size, 2, none⟩ = some (.int .i64 ((S : Int))) := (hcw2 (w.heap.size) (2) (by first | omega | (simp only [World.size_alloc, World.size_drew, World.size_setCell, size_drewN]; omega))).trans (by first | assumption | (simp [go_sem, *]; done)); have ca2_3 : w2.cell? ⟨w.heap.size, 3, none⟩ = some (.int .i64 (T)) := (hcw2 (w.heap.size) (3) (by first | omega | (simp only [World.size_alloc, World.size_drew, World.size_setCell, size_drewN]; omega))).trans (by first | assumption | (simp [go_sem, *]; done)); have ca2_4 : w2.cell? ⟨w.heap.size, 4, none⟩ = some (.int .i64 (fx)) := (hcw2 (w.heap.size) (4) (by first | omega | (simp only [World.size_alloc, World.size_drew, World.size_setCell, size_drewN]; omega))).trans (by first | assumption | (simp [go_sem, *]; done)); have ca2_5 : w2.cell? ⟨w.heap.size, 5, none⟩ = some (.int .i64 (fz)) := (hcw2 (w.heap.size) (5) (by first | omega | (simp only [World.size_alloc, World.size_drew, World.size_setCell, size_drewN]; omega))).trans (by first | assumption | (simp [go_sem, *]; done)); have ca2_6 : w2.cell? ⟨w.heap.size, 6, none⟩ = some (.int .i64 (tx)) := (hcw2 (w.heap.size) (6) (by first | omega | (simp only [World.size_alloc, World.size_drew, World.size_setCell, size_drewN]; omega))).trans (by first | assumption | (simp [go_sem, *]; done)); have ca2_7 : w2.cell? ⟨w.heap.size, 7, none⟩ = some (.int .i64 (tz)) := (hcw2 (w.heap.size) (7) (by first | omega | (simp only [World.size_alloc, World.size_drew, World.size_setCell, size_drewN]; omega))).trans (by first | assumption | (simp [go_sem, *]; done)); have oa2 : w.heap.size < w2.heap.size := (by omega)
  clear ca1_0 ca1_1 ca1_2 ca1_3 ca1_4 ca1_5 ca1_6 ca1_7
  go_wp2_with fail
  refine (B1.out _).mono ?_
  rintro e w' ⟨rfl, rfl⟩
  go_wp2_with fail
  refine (B2.out _).mono ?_
  rintro e w' ⟨rfl, rfl⟩
  go_wp2
  go_ret
  exact ⟨rfl, by (repeat' (first | (with_reducible exact Below.refl _ _) | (with_reducible assumption) | (with_reducible refine Below.alloc ?_ ?_ _) | (with_reducible refine Below.drew ?_) | (with_reducible refine below_drewN ?_ _) | (with_reducible refine Below.setCell ?_ ?_ _) | (with_reducible refine below_step (by with_reducible assumption) ?_ ?_) | (with_reducible exact Below.size (by with_reducible assumption)) | go_size))⟩
theorem arr4 {q : Nat → Int} {k : Nat} (h : k < 4) : (#[Value.int .i64 (q 0), .int .i64 (q 1), .int .i64 (q 2), .int .i64 (q 3)] : Array Value)[k]? = some (.int .i64 (q k)) := by
  match k, h with
  | 0, _ => rfl
  | 1, _ => rfl
  | 2, _ => rfl
  | 3, _ => rfl
set_option maxRecDepth 100000 in
set_option maxHeartbeats 8000000 in
theorem nf_walk (G : Int → Nat → Int → Prop) (V M T fx fz tx tz a b s : Int) (q : Nat → Int) (S : Nat) (w : World) (hS4 : S ≤ 4) (hs : -50000 ≤ s ∧ s ≤ 50000) (l0 l1 : Int) (hl1 : 0 ≤ l1 ∧ l1 ≤ 6000000101)
    (G0 : Hid (G s 0 l1))
    (H2 : Hid (∀ W, Calls Try.prog 46 #[.agg #[.int .i64 V, .int .i64 M, .int .i64 (S : Int), .int .i64 T], .agg #[.int .i64 fx, .int .i64 fz], .agg #[.int .i64 tx, .int .i64 tz]] W fun e w' => e = .returned (.tuple #[.agg #[.int .i64 a, .int .i64 b], .int .i64 0]) ∧ Below W.heap.size W w'))
    (H3 : Hid (∀ W, Calls Try.prog 21 #[.agg #[.int .i64 fx, .int .i64 fz], .agg #[.int .i64 s, .int .i64 0], .int .i64 V] W fun e w' => e = .returned (.tuple #[.agg #[.int .i64 l0, .int .i64 l1], .int .i64 0]) ∧ Below W.heap.size W w'))
    (H4 : Hid (∀ (k : Nat) (p r A : Int), k ≤ 4 → (-50000 ≤ p ∧ p ≤ 50000) → (-50000 ≤ r ∧ r ≤ 50000) → G p k A → ∃ x0 x1 : Int, (0 ≤ x1 ∧ x1 ≤ 6000000101) ∧ G r (k + 1) (A + x1) ∧ ∀ W, Calls Try.prog 21 #[.agg #[.int .i64 p, .int .i64 (alt k T)], .agg #[.int .i64 r, .int .i64 (alt (k + 1) T)], .int .i64 M] W fun e w' => e = .returned (.tuple #[.agg #[.int .i64 x0, .int .i64 x1], .int .i64 0]) ∧ Below W.heap.size W w'))
    (H5 : Hid (∀ (p A : Int), (-50000 ≤ p ∧ p ≤ 50000) → G p S A → ∃ x0 x1 : Int, (0 ≤ x1 ∧ x1 ≤ 6000000101) ∧ a ≤ A + x1 ∧ ∀ W, Calls Try.prog 21 #[.agg #[.int .i64 p, .int .i64 (alt S T)], .agg #[.int .i64 tx, .int .i64 tz], .int .i64 M] W fun e w' => e = .returned (.tuple #[.agg #[.int .i64 x0, .int .i64 x1], .int .i64 0]) ∧ Below W.heap.size W w')) :
    Calls Try.prog 17 #[.agg #[.int .i64 V, .int .i64 M, .int .i64 (S : Int), .int .i64 T, .int .i64 fx, .int .i64 fz, .int .i64 tx, .int .i64 tz], .int .i64 s, .agg #[.int .i64 (q 0), .int .i64 (q 1), .int .i64 (q 2), .int .i64 (q 3)]] w fun e w' => e = .returned (.bool true) ∧ Below w.heap.size w w' := by
  have K1 : ∀ W, _ := fun W => bwithin_any s (-50000) 50000 W
  rw [inB_iff.2 hs] at K1
  have B1 := Lib.hid K1
  clear K1
  have K2 : ∀ W, _ := fun W => bwithin_any (S : Int) 0 4 W
  rw [inB_iff.2 (show (0 : Int) ≤ (S : Int) ∧ (S : Int) ≤ 4 by omega)] at K2
  have B2 := Lib.hid K2
  clear K2
  go_enter Try.func17, Try.ntmps17
  go_wp2_with fail; (refine (rayed_any _).mono ?_; rintro e w1 ⟨rfl, hw1⟩; obtain ⟨hcw1, hfw1, hlw1, hmw1, hnw1⟩ := bcell3 hw1; have hzw1 := hw1.size; (try simp only [World.size_alloc, World.size_setCell, World.size_drew, size_drewN] at hzw1))
  have cx1_0 : w1.cell? ⟨w.heap.size, 0, none⟩ = some (.int .i64 (V)) := (hcw1 (w.heap.size) (0) (by first | omega | (simp only [World.size_alloc, World.size_drew, World.size_setCell, size_drewN]; omega))).trans (by first | assumption | (simp [go_sem, *]; done)); have cx1_1 : w1.cell? ⟨w.heap.size, 1, none⟩ = some (.int .i64 (M)) := (hcw1 (w.heap.size) (1) (by first | omega | (simp only [World.size_alloc, World.size_drew, World.size_setCell, size_drewN]; omega))).trans (by first | assumption | (simp [go_sem, *]; done)); have cx1_2 : w1.cell? ⟨w.heap.size, 2, none⟩ = some (.int .i64 ((S : Int))) := (hcw1 (w.heap.size) (2) (by first | omega | (simp only [World.size_alloc, World.size_drew, World.size_setCell, size_drewN]; omega))).trans (by first | assumption | (simp [go_sem, *]; done)); have cx1_3 : w1.cell? ⟨w.heap.size, 3, none⟩ = some (.int .i64 (T)) := (hcw1 (w.heap.size) (3) (by first | omega | (simp only [World.size_alloc, World.size_drew, World.size_setCell, size_drewN]; omega))).trans (by first | assumption | (simp [go_sem, *]; done)); have cx1_4 : w1.cell? ⟨w.heap.size, 4, none⟩ = some (.int .i64 (fx)) := (hcw1 (w.heap.size) (4) (by first | omega | (simp only [World.size_alloc, World.size_drew, World.size_setCell, size_drewN]; omega))).trans (by first | assumption | (simp [go_sem, *]; done)); have cx1_5 : w1.cell? ⟨w.heap.size, 5, none⟩ = some (.int .i64 (fz)) := (hcw1 (w.heap.size) (5) (by first | omega | (simp only [World.size_alloc, World.size_drew, World.size_setCell, size_drewN]; omega))).trans (by first | assumption | (simp [go_sem, *]; done)); have cx1_6 : w1.cell? ⟨w.heap.size, 6, none⟩ = some (.int .i64 (tx)) := (hcw1 (w.heap.size) (6) (by first | omega | (simp only [World.size_alloc, World.size_drew, World.size_setCell, size_drewN]; omega))).trans (by first | assumption | (simp [go_sem, *]; done)); have cx1_7 : w1.cell? ⟨w.heap.size, 7, none⟩ = some (.int .i64 (tz)) := (hcw1 (w.heap.size) (7) (by first | omega | (simp only [World.size_alloc, World.size_drew, World.size_setCell, size_drewN]; omega))).trans (by first | assumption | (simp [go_sem, *]; done)); have ox1 : w.heap.size < w1.heap.size := (by omega)
  have cq1_0 : w1.cell? ⟨w.heap.size + 1, 0, none⟩ = some (.int .i64 (q 0)) := (hcw1 (w.heap.size + 1) (0) (by first | omega | (simp only [World.size_alloc, World.size_drew, World.size_setCell, size_drewN]; omega))).trans (by first | assumption | (simp [go_sem, *]; done)); have cq1_1 : w1.cell? ⟨w.heap.size + 1, 1, none⟩ = some (.int .i64 (q 1)) := (hcw1 (w.heap.size + 1) (1) (by first | omega | (simp only [World.size_alloc, World.size_drew, World.size_setCell, size_drewN]; omega))).trans (by first | assumption | (simp [go_sem, *]; done)); have cq1_2 : w1.cell? ⟨w.heap.size + 1, 2, none⟩ = some (.int .i64 (q 2)) := (hcw1 (w.heap.size + 1) (2) (by first | omega | (simp only [World.size_alloc, World.size_drew, World.size_setCell, size_drewN]; omega))).trans (by first | assumption | (simp [go_sem, *]; done)); have cq1_3 : w1.cell? ⟨w.heap.size + 1, 3, none⟩ = some (.int .i64 (q 3)) := (hcw1 (w.heap.size + 1) (3) (by first | omega | (simp only [World.size_alloc, World.size_drew, World.size_setCell, size_drewN]; omega))).trans (by first | assumption | (simp [go_sem, *]; done)); have oq1 : w.heap.size + 1 < w1.heap.size := (by omega)
  go_wp2_with fail; (refine (H2.out _).mono ?_; rintro e w2 ⟨rfl, hw2⟩; obtain ⟨hcw2, hfw2, hlw2, hmw2, hnw2⟩ := bcell3 hw2; have hzw2 := hw2.size; (try simp only [World.size_alloc, World.size_setCell, World.size_drew, size_drewN] at hzw2))
  have cx2_0 : w2.cell? ⟨w.heap.size, 0, none⟩ = some (.int .i64 (V)) := (hcw2 (w.heap.size) (0) (by first | omega | (simp only [World.size_alloc, World.size_drew, World.size_setCell, size_drewN]; omega))).trans (by first | assumption | (simp [go_sem, *]; done)); have cx2_1 : w2.cell? ⟨w.heap.size, 1, none⟩ = some (.int .i64 (M)) := (hcw2 (w.heap.size) (1) (by first | omega | (simp only [World.size_alloc, World.size_drew, World.size_setCell, size_drewN]; omega))).trans (by first | assumption | (simp [go_sem, *]; done)); have cx2_2 : w2.cell? ⟨w.heap.size, 2, none⟩ = some (.int .i64 ((S : Int))) := (hcw2 (w.heap.size) (2) (by first | omega | (simp only [World.size_alloc, World.size_drew, World.size_setCell, size_drewN]; omega))).trans (by first | assumption | (simp [go_sem, *]; done)); have cx2_3 : w2.cell? ⟨w.heap.size, 3, none⟩ = some (.int .i64 (T)) := (hcw2 (w.heap.size) (3) (by first | omega | (simp only [World.size_alloc, World.size_drew, World.size_setCell, size_drewN]; omega))).trans (by first | assumption | (simp [go_sem, *]; done)); have cx2_4 : w2.cell? ⟨w.heap.size, 4, none⟩ = some (.int .i64 (fx)) := (hcw2 (w.heap.size) (4) (by first | omega | (simp only [World.size_alloc, World.size_drew, World.size_setCell, size_drewN]; omega))).trans (by first | assumption | (simp [go_sem, *]; done)); have cx2_5 : w2.cell? ⟨w.heap.size, 5, none⟩ = some (.int .i64 (fz)) := (hcw2 (w.heap.size) (5) (by first | omega | (simp only [World.size_alloc, World.size_drew, World.size_setCell, size_drewN]; omega))).trans (by first | assumption | (simp [go_sem, *]; done)); have cx2_6 : w2.cell? ⟨w.heap.size, 6, none⟩ = some (.int .i64 (tx)) := (hcw2 (w.heap.size) (6) (by first | omega | (simp only [World.size_alloc, World.size_drew, World.size_setCell, size_drewN]; omega))).trans (by first | assumption | (simp [go_sem, *]; done)); have cx2_7 : w2.cell? ⟨w.heap.size, 7, none⟩ = some (.int .i64 (tz)) := (hcw2 (w.heap.size) (7) (by first | omega | (simp only [World.size_alloc, World.size_drew, World.size_setCell, size_drewN]; omega))).trans (by first | assumption | (simp [go_sem, *]; done)); have ox2 : w.heap.size < w2.heap.size := (by omega)
  clear cx1_0 cx1_1 cx1_2 cx1_3 cx1_4 cx1_5 cx1_6 cx1_7
  have cq2_0 : w2.cell? ⟨w.heap.size + 1, 0, none⟩ = some (.int .i64 (q 0)) := (hcw2 (w.heap.size + 1) (0) (by first | omega | (simp only [World.size_alloc, World.size_drew, World.size_setCell, size_drewN]; omega))).trans (by first | assumption | (simp [go_sem, *]; done)); have cq2_1 : w2.cell? ⟨w.heap.size + 1, 1, none⟩ = some (.int .i64 (q 1)) := (hcw2 (w.heap.size + 1) (1) (by first | omega | (simp only [World.size_alloc, World.size_drew, World.size_setCell, size_drewN]; omega))).trans (by first | assumption | (simp [go_sem, *]; done)); have cq2_2 : w2.cell? ⟨w.heap.size + 1, 2, none⟩ = some (.int .i64 (q 2)) := (hcw2 (w.heap.size + 1) (2) (by first | omega | (simp only [World.size_alloc, World.size_drew, World.size_setCell, size_drewN]; omega))).trans (by first | assumption | (simp [go_sem, *]; done)); have cq2_3 : w2.cell? ⟨w.heap.size + 1, 3, none⟩ = some (.int .i64 (q 3)) := (hcw2 (w.heap.size + 1) (3) (by first | omega | (simp only [World.size_alloc, World.size_drew, World.size_setCell, size_drewN]; omega))).trans (by first | assumption | (simp [go_sem, *]; done)); have oq2 : w.heap.size + 1 < w2.heap.size := (by omega)
  clear cq1_0 cq1_1 cq1_2 cq1_3
  go_wp2_with fail
  refine (B1.out _).mono ?_
  rintro e w' ⟨rfl, rfl⟩
  go_wp2_with fail
  refine (B2.out _).mono ?_
  rintro e w' ⟨rfl, rfl⟩
  go_wp2_with fail
  first | refine abs_calls (fun w4 hw4 => ?_) | refine abs_last (fun w4 hw4 => ?_)
  have hw40 : Below w.heap.size w w4 := by rw [hw4]; (repeat' (first | (with_reducible exact Below.refl _ _) | (with_reducible assumption) | (with_reducible refine Below.alloc ?_ ?_ _) | (with_reducible refine Below.drew ?_) | (with_reducible refine below_drewN ?_ _) | (with_reducible refine Below.setCell ?_ ?_ _) | (with_reducible refine below_step (by with_reducible assumption) ?_ ?_) | (with_reducible exact Below.size (by with_reducible assumption)) | go_size))
  have cx4_0 : w4.cell? ⟨w.heap.size, 0, none⟩ = some (.int .i64 (V)) := by (first | (rw [hw4]; assumption) | (simp [go_sem, *]; done))
  have cx4_1 : w4.cell? ⟨w.heap.size, 1, none⟩ = some (.int .i64 (M)) := by (first | (rw [hw4]; assumption) | (simp [go_sem, *]; done))
  have cx4_2 : w4.cell? ⟨w.heap.size, 2, none⟩ = some (.int .i64 ((S : Int))) := by (first | (rw [hw4]; assumption) | (simp [go_sem, *]; done))
  have cx4_3 : w4.cell? ⟨w.heap.size, 3, none⟩ = some (.int .i64 (T)) := by (first | (rw [hw4]; assumption) | (simp [go_sem, *]; done))
  have cx4_4 : w4.cell? ⟨w.heap.size, 4, none⟩ = some (.int .i64 (fx)) := by (first | (rw [hw4]; assumption) | (simp [go_sem, *]; done))
  have cx4_5 : w4.cell? ⟨w.heap.size, 5, none⟩ = some (.int .i64 (fz)) := by (first | (rw [hw4]; assumption) | (simp [go_sem, *]; done))
  have cx4_6 : w4.cell? ⟨w.heap.size, 6, none⟩ = some (.int .i64 (tx)) := by (first | (rw [hw4]; assumption) | (simp [go_sem, *]; done))
  have cx4_7 : w4.cell? ⟨w.heap.size, 7, none⟩ = some (.int .i64 (tz)) := by (first | (rw [hw4]; assumption) | (simp [go_sem, *]; done))
  have cq4_0 : w4.cell? ⟨w.heap.size + 1, 0, none⟩ = some (.int .i64 (q 0)) := by (first | (rw [hw4]; assumption) | (simp [go_sem, *]; done))
  have cq4_1 : w4.cell? ⟨w.heap.size + 1, 1, none⟩ = some (.int .i64 (q 1)) := by (first | (rw [hw4]; assumption) | (simp [go_sem, *]; done))
  have cq4_2 : w4.cell? ⟨w.heap.size + 1, 2, none⟩ = some (.int .i64 (q 2)) := by (first | (rw [hw4]; assumption) | (simp [go_sem, *]; done))
  have cq4_3 : w4.cell? ⟨w.heap.size + 1, 3, none⟩ = some (.int .i64 (q 3)) := by (first | (rw [hw4]; assumption) | (simp [go_sem, *]; done))
  have ct4_0 : w4.cell? ⟨w2.heap.size, 0, none⟩ = some (.int .i64 (a)) := by (first | (rw [hw4]; assumption) | (simp [go_sem, *]; done))
  have ct4_1 : w4.cell? ⟨w2.heap.size, 1, none⟩ = some (.int .i64 (b)) := by (first | (rw [hw4]; assumption) | (simp [go_sem, *]; done))
  have caz4_0 : w4.cell? ⟨w2.heap.size + 1, 0, none⟩ = some (.int .i64 (s)) := by (first | (rw [hw4]; assumption) | (simp [go_sem, *]; done))
  have paz4_0 : w4.frozen? ⟨w2.heap.size + 1, 0, none⟩ = false := by (first | (rw [hw4]; assumption) | (simp [go_sem, *]; done))
  have caz4_1 : w4.cell? ⟨w2.heap.size + 1, 1, none⟩ = some (.int .i64 (0)) := by (first | (rw [hw4]; assumption) | (simp [go_sem, *]; done))
  have paz4_1 : w4.frozen? ⟨w2.heap.size + 1, 1, none⟩ = false := by (first | (rw [hw4]; assumption) | (simp [go_sem, *]; done))
  have hz40 : w.heap.size < w4.heap.size := by (first | (rw [hw4]; simp; omega) | (rw [hw4]; simp; done) | (rw [hw4]; omega))
  have hz41 : w.heap.size + 1 < w4.heap.size := by (first | (rw [hw4]; simp; omega) | (rw [hw4]; simp; done) | (rw [hw4]; omega))
  have hz42 : w2.heap.size < w4.heap.size := by (first | (rw [hw4]; simp; omega) | (rw [hw4]; simp; done) | (rw [hw4]; omega))
  have hz43 : w2.heap.size + 1 < w4.heap.size := by (first | (rw [hw4]; simp; omega) | (rw [hw4]; simp; done) | (rw [hw4]; omega))
  clear cx2_0 cx2_1 cx2_2 cx2_3 cx2_4 cx2_5 cx2_6 cx2_7
  clear cq2_0 cq2_1 cq2_2 cq2_3
  clear hw4
  clear hcw1 hfw1 hlw1 hmw1 hnw1 hcw2 hfw2 hlw2 hmw2 hnw2
  refine (H3.out _).mono ?_
  rintro e w5 ⟨rfl, hw5⟩
  obtain ⟨hcw5, hfw5, hlw5, hmw5, hnw5⟩ := bcell3 hw5
  have hzw5 := hw5.size
  have cx5_0 : w5.cell? ⟨w.heap.size, 0, none⟩ = some (.int .i64 (V)) := (hcw5 (w.heap.size) (0) (by first | omega | (simp only [World.size_alloc, World.size_drew, World.size_setCell, size_drewN]; omega))).trans (by first | assumption | (simp [go_sem, *]; done)); have cx5_1 : w5.cell? ⟨w.heap.size, 1, none⟩ = some (.int .i64 (M)) := (hcw5 (w.heap.size) (1) (by first | omega | (simp only [World.size_alloc, World.size_drew, World.size_setCell, size_drewN]; omega))).trans (by first | assumption | (simp [go_sem, *]; done)); have cx5_2 : w5.cell? ⟨w.heap.size, 2, none⟩ = some (.int .i64 ((S : Int))) := (hcw5 (w.heap.size) (2) (by first | omega | (simp only [World.size_alloc, World.size_drew, World.size_setCell, size_drewN]; omega))).trans (by first | assumption | (simp [go_sem, *]; done)); have cx5_3 : w5.cell? ⟨w.heap.size, 3, none⟩ = some (.int .i64 (T)) := (hcw5 (w.heap.size) (3) (by first | omega | (simp only [World.size_alloc, World.size_drew, World.size_setCell, size_drewN]; omega))).trans (by first | assumption | (simp [go_sem, *]; done)); have cx5_4 : w5.cell? ⟨w.heap.size, 4, none⟩ = some (.int .i64 (fx)) := (hcw5 (w.heap.size) (4) (by first | omega | (simp only [World.size_alloc, World.size_drew, World.size_setCell, size_drewN]; omega))).trans (by first | assumption | (simp [go_sem, *]; done)); have cx5_5 : w5.cell? ⟨w.heap.size, 5, none⟩ = some (.int .i64 (fz)) := (hcw5 (w.heap.size) (5) (by first | omega | (simp only [World.size_alloc, World.size_drew, World.size_setCell, size_drewN]; omega))).trans (by first | assumption | (simp [go_sem, *]; done)); have cx5_6 : w5.cell? ⟨w.heap.size, 6, none⟩ = some (.int .i64 (tx)) := (hcw5 (w.heap.size) (6) (by first | omega | (simp only [World.size_alloc, World.size_drew, World.size_setCell, size_drewN]; omega))).trans (by first | assumption | (simp [go_sem, *]; done)); have cx5_7 : w5.cell? ⟨w.heap.size, 7, none⟩ = some (.int .i64 (tz)) := (hcw5 (w.heap.size) (7) (by first | omega | (simp only [World.size_alloc, World.size_drew, World.size_setCell, size_drewN]; omega))).trans (by first | assumption | (simp [go_sem, *]; done)); have ox5 : w.heap.size < w5.heap.size := (by omega)
  clear cx4_0 cx4_1 cx4_2 cx4_3 cx4_4 cx4_5 cx4_6 cx4_7
  have cq5_0 : w5.cell? ⟨w.heap.size + 1, 0, none⟩ = some (.int .i64 (q 0)) := (hcw5 (w.heap.size + 1) (0) (by first | omega | (simp only [World.size_alloc, World.size_drew, World.size_setCell, size_drewN]; omega))).trans (by first | assumption | (simp [go_sem, *]; done)); have cq5_1 : w5.cell? ⟨w.heap.size + 1, 1, none⟩ = some (.int .i64 (q 1)) := (hcw5 (w.heap.size + 1) (1) (by first | omega | (simp only [World.size_alloc, World.size_drew, World.size_setCell, size_drewN]; omega))).trans (by first | assumption | (simp [go_sem, *]; done)); have cq5_2 : w5.cell? ⟨w.heap.size + 1, 2, none⟩ = some (.int .i64 (q 2)) := (hcw5 (w.heap.size + 1) (2) (by first | omega | (simp only [World.size_alloc, World.size_drew, World.size_setCell, size_drewN]; omega))).trans (by first | assumption | (simp [go_sem, *]; done)); have cq5_3 : w5.cell? ⟨w.heap.size + 1, 3, none⟩ = some (.int .i64 (q 3)) := (hcw5 (w.heap.size + 1) (3) (by first | omega | (simp only [World.size_alloc, World.size_drew, World.size_setCell, size_drewN]; omega))).trans (by first | assumption | (simp [go_sem, *]; done)); have oq5 : w.heap.size + 1 < w5.heap.size := (by omega)
  clear cq4_0 cq4_1 cq4_2 cq4_3
  have ct5_0 : w5.cell? ⟨w2.heap.size, 0, none⟩ = some (.int .i64 (a)) := (hcw5 (w2.heap.size) (0) (by first | omega | (simp only [World.size_alloc, World.size_drew, World.size_setCell, size_drewN]; omega))).trans (by first | assumption | (simp [go_sem, *]; done)); have ct5_1 : w5.cell? ⟨w2.heap.size, 1, none⟩ = some (.int .i64 (b)) := (hcw5 (w2.heap.size) (1) (by first | omega | (simp only [World.size_alloc, World.size_drew, World.size_setCell, size_drewN]; omega))).trans (by first | assumption | (simp [go_sem, *]; done)); have ot5 : w2.heap.size < w5.heap.size := (by omega)
  clear ct4_0 ct4_1
  have caz5_0 : w5.cell? ⟨w2.heap.size + 1, 0, none⟩ = some (.int .i64 (s)) := (hcw5 (w2.heap.size + 1) (0) (by first | omega | (simp only [World.size_alloc, World.size_drew, World.size_setCell, size_drewN]; omega))).trans (by first | assumption | (simp [go_sem, *]; done)); have caz5_1 : w5.cell? ⟨w2.heap.size + 1, 1, none⟩ = some (.int .i64 (0)) := (hcw5 (w2.heap.size + 1) (1) (by first | omega | (simp only [World.size_alloc, World.size_drew, World.size_setCell, size_drewN]; omega))).trans (by first | assumption | (simp [go_sem, *]; done)); have oaz5 : w2.heap.size + 1 < w5.heap.size := (by omega)
  have paz5_0 : w5.frozen? ⟨w2.heap.size + 1, 0, none⟩ = false := (hfw5 (w2.heap.size + 1) (0) (by first | omega | (simp only [World.size_alloc, World.size_drew, World.size_setCell, size_drewN]; omega))).trans (by first | assumption | (simp [go_sem, *]; done)); have paz5_1 : w5.frozen? ⟨w2.heap.size + 1, 1, none⟩ = false := (hfw5 (w2.heap.size + 1) (1) (by first | omega | (simp only [World.size_alloc, World.size_drew, World.size_setCell, size_drewN]; omega))).trans (by first | assumption | (simp [go_sem, *]; done))
  clear caz4_0 caz4_1 paz4_0 paz4_1
  go_wp2_with fail
  clear hcw5 hfw5 hlw5 hmw5 hnw5
  first | refine abs_calls (fun w6 hw6 => ?_) | refine abs_last (fun w6 hw6 => ?_)
  have hw60 : Below w.heap.size w w6 := by rw [hw6]; (repeat' (first | (with_reducible exact Below.refl _ _) | (with_reducible assumption) | (with_reducible refine Below.alloc ?_ ?_ _) | (with_reducible refine Below.drew ?_) | (with_reducible refine below_drewN ?_ _) | (with_reducible refine Below.setCell ?_ ?_ _) | (with_reducible refine below_step (by with_reducible assumption) ?_ ?_) | (with_reducible exact Below.size (by with_reducible assumption)) | go_size))
  have cx6_0 : w6.cell? ⟨w.heap.size, 0, none⟩ = some (.int .i64 (V)) := by (first | (rw [hw6]; assumption) | (simp [go_sem, *]; done))
  have cx6_1 : w6.cell? ⟨w.heap.size, 1, none⟩ = some (.int .i64 (M)) := by (first | (rw [hw6]; assumption) | (simp [go_sem, *]; done))
  have cx6_2 : w6.cell? ⟨w.heap.size, 2, none⟩ = some (.int .i64 ((S : Int))) := by (first | (rw [hw6]; assumption) | (simp [go_sem, *]; done))
  have cx6_3 : w6.cell? ⟨w.heap.size, 3, none⟩ = some (.int .i64 (T)) := by (first | (rw [hw6]; assumption) | (simp [go_sem, *]; done))
  have cx6_4 : w6.cell? ⟨w.heap.size, 4, none⟩ = some (.int .i64 (fx)) := by (first | (rw [hw6]; assumption) | (simp [go_sem, *]; done))
  have cx6_5 : w6.cell? ⟨w.heap.size, 5, none⟩ = some (.int .i64 (fz)) := by (first | (rw [hw6]; assumption) | (simp [go_sem, *]; done))
  have cx6_6 : w6.cell? ⟨w.heap.size, 6, none⟩ = some (.int .i64 (tx)) := by (first | (rw [hw6]; assumption) | (simp [go_sem, *]; done))
  have cx6_7 : w6.cell? ⟨w.heap.size, 7, none⟩ = some (.int .i64 (tz)) := by (first | (rw [hw6]; assumption) | (simp [go_sem, *]; done))
  have cq6_0 : w6.cell? ⟨w.heap.size + 1, 0, none⟩ = some (.int .i64 (q 0)) := by (first | (rw [hw6]; assumption) | (simp [go_sem, *]; done))
  have cq6_1 : w6.cell? ⟨w.heap.size + 1, 1, none⟩ = some (.int .i64 (q 1)) := by (first | (rw [hw6]; assumption) | (simp [go_sem, *]; done))
  have cq6_2 : w6.cell? ⟨w.heap.size + 1, 2, none⟩ = some (.int .i64 (q 2)) := by (first | (rw [hw6]; assumption) | (simp [go_sem, *]; done))
  have cq6_3 : w6.cell? ⟨w.heap.size + 1, 3, none⟩ = some (.int .i64 (q 3)) := by (first | (rw [hw6]; assumption) | (simp [go_sem, *]; done))
  have ct6_0 : w6.cell? ⟨w2.heap.size, 0, none⟩ = some (.int .i64 (a)) := by (first | (rw [hw6]; assumption) | (simp [go_sem, *]; done))
  have ct6_1 : w6.cell? ⟨w2.heap.size, 1, none⟩ = some (.int .i64 (b)) := by (first | (rw [hw6]; assumption) | (simp [go_sem, *]; done))
  have caz6_0 : w6.cell? ⟨w2.heap.size + 1, 0, none⟩ = some (.int .i64 (s)) := by (first | (rw [hw6]; assumption) | (simp [go_sem, *]; done))
  have paz6_0 : w6.frozen? ⟨w2.heap.size + 1, 0, none⟩ = false := by (first | (rw [hw6]; assumption) | (simp [go_sem, *]; done))
  have caz6_1 : w6.cell? ⟨w2.heap.size + 1, 1, none⟩ = some (.int .i64 (0)) := by (first | (rw [hw6]; assumption) | (simp [go_sem, *]; done))
  have paz6_1 : w6.frozen? ⟨w2.heap.size + 1, 1, none⟩ = false := by (first | (rw [hw6]; assumption) | (simp [go_sem, *]; done))
  have clz6_0 : w6.cell? ⟨w5.heap.size, 0, none⟩ = some (.int .i64 (l0)) := by (first | (rw [hw6]; assumption) | (simp [go_sem, *]; done))
  have plz6_0 : w6.frozen? ⟨w5.heap.size, 0, none⟩ = false := by (first | (rw [hw6]; assumption) | (simp [go_sem, *]; done))
  have clz6_1 : w6.cell? ⟨w5.heap.size, 1, none⟩ = some (.int .i64 (l1)) := by (first | (rw [hw6]; assumption) | (simp [go_sem, *]; done))
  have plz6_1 : w6.frozen? ⟨w5.heap.size, 1, none⟩ = false := by (first | (rw [hw6]; assumption) | (simp [go_sem, *]; done))
  have hz60 : w.heap.size < w6.heap.size := by (first | (rw [hw6]; simp; omega) | (rw [hw6]; simp; done) | (rw [hw6]; omega))
  have hz61 : w.heap.size + 1 < w6.heap.size := by (first | (rw [hw6]; simp; omega) | (rw [hw6]; simp; done) | (rw [hw6]; omega))
  have hz62 : w2.heap.size < w6.heap.size := by (first | (rw [hw6]; simp; omega) | (rw [hw6]; simp; done) | (rw [hw6]; omega))
  have hz63 : w2.heap.size + 1 < w6.heap.size := by (first | (rw [hw6]; simp; omega) | (rw [hw6]; simp; done) | (rw [hw6]; omega))
  have hz64 : w5.heap.size < w6.heap.size := by (first | (rw [hw6]; simp; omega) | (rw [hw6]; simp; done) | (rw [hw6]; omega))
  clear cx5_0 cx5_1 cx5_2 cx5_3 cx5_4 cx5_5 cx5_6 cx5_7
  clear cq5_0 cq5_1 cq5_2 cq5_3
  clear ct5_0 ct5_1
  clear caz5_0 caz5_1 paz5_0 paz5_1
  clear hw6
  have HQ := Lib.hid (show ∀ k : Nat, k < 4 → w6.cell? ⟨w.heap.size + 1, k, none⟩ = some (.int .i64 (q k)) from fun k hk => match k, hk with
    | 0, _ => cq6_0
    | 1, _ => cq6_1
    | 2, _ => cq6_2
    | 3, _ => cq6_3)
  have hA5 : w2.heap.size + 1 < w5.heap.size := by omega
  clear cq6_0 cq6_1 cq6_2 cq6_3
  have hst : NfSt G T S (w2.heap.size + 1) w5.heap.size w6 0 l1 s l0 l1 w6 := ⟨Nat.zero_le _, G0.out, by omega, hs, Below.refl _ _, ⟨caz6_0, caz6_1, paz6_0, paz6_1⟩, ⟨clz6_0, clz6_1, plz6_0, plz6_1⟩⟩
  clear caz6_0 caz6_1 paz6_0 paz6_1 clz6_0 clz6_1 plz6_0 plz6_1
  go_loopw [12, 13] (fun al j wr => ∃ (k : Nat) (A p l0 l1 : Int), j = .int .i64 (k : Int) ∧ al = .int .i64 A ∧ NfSt G T S (w2.heap.size + 1) w5.heap.size w6 k A p l0 l1 wr) (fun _ j _ => S - (intOf j).toNat)
  case atStart => exact ⟨0, l1, s, l0, l1, rfl, rfl, hst⟩
  case round =>
    clear hst
    obtain ⟨k, A, p, y0, y1, rfl, rfl, hk, hG, hA, hp, hB, ⟨ca0, ca1, pa0, pa1⟩, ⟨cl0, cl1, pl0, pl1⟩⟩ := hrel
    have hzr := hB.size
    have hbr : Below w.heap.size w wr := hw60.trans (hB.mono (by omega))
    have oxr : w.heap.size < wr.heap.size := by omega
    have oar : w2.heap.size + 1 < wr.heap.size := by omega
    have olr : w5.heap.size < wr.heap.size := by omega
    have cxr_0 : wr.cell? ⟨w.heap.size, 0, none⟩ = some (.int .i64 (V)) := bl hB (by omega) cx6_0
    have cxr_1 : wr.cell? ⟨w.heap.size, 1, none⟩ = some (.int .i64 (M)) := bl hB (by omega) cx6_1
    have cxr_2 : wr.cell? ⟨w.heap.size, 2, none⟩ = some (.int .i64 ((S : Int))) := bl hB (by omega) cx6_2
    have cxr_3 : wr.cell? ⟨w.heap.size, 3, none⟩ = some (.int .i64 (T)) := bl hB (by omega) cx6_3
    have cxr_4 : wr.cell? ⟨w.heap.size, 4, none⟩ = some (.int .i64 (fx)) := bl hB (by omega) cx6_4
    have cxr_5 : wr.cell? ⟨w.heap.size, 5, none⟩ = some (.int .i64 (fz)) := bl hB (by omega) cx6_5
    have cxr_6 : wr.cell? ⟨w.heap.size, 6, none⟩ = some (.int .i64 (tx)) := bl hB (by omega) cx6_6
    have cxr_7 : wr.cell? ⟨w.heap.size, 7, none⟩ = some (.int .i64 (tz)) := bl hB (by omega) cx6_7
    have ctr_0 : wr.cell? ⟨w2.heap.size, 0, none⟩ = some (.int .i64 a) := bl hB (by omega) ct6_0
    have ctr_1 : wr.cell? ⟨w2.heap.size, 1, none⟩ = some (.int .i64 b) := bl hB (by omega) ct6_1
    have otr : w2.heap.size < wr.heap.size := by omega
    by_cases hlt : k < S
    · have cq := bl hB (by omega) (HQ.out k (by omega))
      have KB : ∀ W, _ := fun W => bwithin_any (q k) (-50000) 50000 W
      obtain ⟨r, hr⟩ : ∃ r, r = q k := ⟨_, rfl⟩
      rw [← hr] at cq KB
      clear hr
      have e0 : (0 : Int) ≤ (k : Int) := by omega
      have e1 : (k : Int) < (S : Int) := by omega
      have e4 : (k : Int) < 4 := by omega
      clear cx6_0 cx6_1 cx6_2 cx6_3 cx6_4 cx6_5 cx6_6 cx6_7 ct6_0 ct6_1
      cases hin : inB r (-50000) 50000
      · rw [hin] at KB
        have B := Lib.hid KB
        clear KB hin
        go_wp2_with fail
        refine (B.out _).mono ?_
        rintro e w' ⟨rfl, rfl⟩
        go_wp2
        go_ret
        exact ⟨rfl, hbr⟩
      · have hr5 := inB_iff.1 hin
        rw [hin] at KB
        have B := Lib.hid KB
        clear KB hin
        obtain ⟨x0, x1, hx1, hG2, hT⟩ := H4.out k p r A (by omega) hp hr5 hG
        have HG2 := Lib.hid hG2
        have HG := Lib.hid hG
        clear hG hG2
        rcases Nat.mod_two_eq_zero_or_one k with h2 | h2
        · have ea : alt (k + 1) T = T := by rw [alt_succ]; rw [if_pos h2]
          rw [ea] at hT
          have HEA := Lib.hid ea
          have HT := Lib.hid hT
          clear hT ea
          have t1 : ((k : Int) % 2 == 0) = true := by simp; omega
          clear h2
          generalize alt k T = z at *
          go_wp2_with fail
          refine (B.out _).mono ?_
          rintro e w' ⟨rfl, rfl⟩
          go_wp2_with fail
          first | refine abs_calls (fun w8 hw8 => ?_) | refine abs_last (fun w8 hw8 => ?_)
          have hw80 : Below w.heap.size w w8 := by rw [hw8]; (repeat' (first | (with_reducible exact Below.refl _ _) | (with_reducible assumption) | (with_reducible refine Below.alloc ?_ ?_ _) | (with_reducible refine Below.drew ?_) | (with_reducible refine below_drewN ?_ _) | (with_reducible refine Below.setCell ?_ ?_ _) | (with_reducible refine below_step (by with_reducible assumption) ?_ ?_) | (with_reducible exact Below.size (by with_reducible assumption)) | go_size))
          have cx8_0 : w8.cell? ⟨w.heap.size, 0, none⟩ = some (.int .i64 (V)) := by (first | (rw [hw8]; assumption) | (simp [go_sem, *]; done))
          have cx8_1 : w8.cell? ⟨w.heap.size, 1, none⟩ = some (.int .i64 (M)) := by (first | (rw [hw8]; assumption) | (simp [go_sem, *]; done))
          have cx8_2 : w8.cell? ⟨w.heap.size, 2, none⟩ = some (.int .i64 ((S : Int))) := by (first | (rw [hw8]; assumption) | (simp [go_sem, *]; done))
          have cx8_3 : w8.cell? ⟨w.heap.size, 3, none⟩ = some (.int .i64 (T)) := by (first | (rw [hw8]; assumption) | (simp [go_sem, *]; done))
          have cx8_4 : w8.cell? ⟨w.heap.size, 4, none⟩ = some (.int .i64 (fx)) := by (first | (rw [hw8]; assumption) | (simp [go_sem, *]; done))
          have cx8_5 : w8.cell? ⟨w.heap.size, 5, none⟩ = some (.int .i64 (fz)) := by (first | (rw [hw8]; assumption) | (simp [go_sem, *]; done))
          have cx8_6 : w8.cell? ⟨w.heap.size, 6, none⟩ = some (.int .i64 (tx)) := by (first | (rw [hw8]; assumption) | (simp [go_sem, *]; done))
          have cx8_7 : w8.cell? ⟨w.heap.size, 7, none⟩ = some (.int .i64 (tz)) := by (first | (rw [hw8]; assumption) | (simp [go_sem, *]; done))
          have caz8_0 : w8.cell? ⟨w2.heap.size + 1, 0, none⟩ = some (.int .i64 (p)) := by (first | (rw [hw8]; assumption) | (simp [go_sem, *]; done))
          have paz8_0 : w8.frozen? ⟨w2.heap.size + 1, 0, none⟩ = false := by (first | (rw [hw8]; assumption) | (simp [go_sem, *]; done))
          have caz8_1 : w8.cell? ⟨w2.heap.size + 1, 1, none⟩ = some (.int .i64 (z)) := by (first | (rw [hw8]; assumption) | (simp [go_sem, *]; done))
          have paz8_1 : w8.frozen? ⟨w2.heap.size + 1, 1, none⟩ = false := by (first | (rw [hw8]; assumption) | (simp [go_sem, *]; done))
          have clz8_0 : w8.cell? ⟨w5.heap.size, 0, none⟩ = some (.int .i64 (y0)) := by (first | (rw [hw8]; assumption) | (simp [go_sem, *]; done))
          have plz8_0 : w8.frozen? ⟨w5.heap.size, 0, none⟩ = false := by (first | (rw [hw8]; assumption) | (simp [go_sem, *]; done))
          have clz8_1 : w8.cell? ⟨w5.heap.size, 1, none⟩ = some (.int .i64 (y1)) := by (first | (rw [hw8]; assumption) | (simp [go_sem, *]; done))
          have plz8_1 : w8.frozen? ⟨w5.heap.size, 1, none⟩ = false := by (first | (rw [hw8]; assumption) | (simp [go_sem, *]; done))
          have cnz8_0 : w8.cell? ⟨wr.heap.size, 0, none⟩ = some (.int .i64 (r)) := by (first | (rw [hw8]; assumption) | (simp [go_sem, *]; done))
          have pnz8_0 : w8.frozen? ⟨wr.heap.size, 0, none⟩ = false := by (first | (rw [hw8]; assumption) | (simp [go_sem, *]; done))
          have cnz8_1 : w8.cell? ⟨wr.heap.size, 1, none⟩ = some (.int .i64 (T)) := by (first | (rw [hw8]; assumption) | (simp [go_sem, *]; done))
          have pnz8_1 : w8.frozen? ⟨wr.heap.size, 1, none⟩ = false := by (first | (rw [hw8]; assumption) | (simp [go_sem, *]; done))
          have hz80 : w.heap.size < w8.heap.size := by (first | (rw [hw8]; simp; omega) | (rw [hw8]; simp; done) | (rw [hw8]; omega))
          have hz81 : w2.heap.size + 1 < w8.heap.size := by (first | (rw [hw8]; simp; omega) | (rw [hw8]; simp; done) | (rw [hw8]; omega))
          have hz82 : w5.heap.size < w8.heap.size := by (first | (rw [hw8]; simp; omega) | (rw [hw8]; simp; done) | (rw [hw8]; omega))
          have hz83 : wr.heap.size < w8.heap.size := by (first | (rw [hw8]; simp; omega) | (rw [hw8]; simp; done) | (rw [hw8]; omega))
          have hbA : Below (w2.heap.size + 1) w6 w8 := by rw [hw8]; first | assumption | ((repeat' (first | (with_reducible exact Below.refl _ _) | (with_reducible assumption) | (with_reducible refine Below.alloc ?_ ?_ _) | (with_reducible refine Below.drew ?_) | (with_reducible refine below_drewN ?_ _) | (with_reducible refine Below.setCell ?_ ?_ _) | (with_reducible refine below_step (by with_reducible assumption) ?_ ?_) | (with_reducible exact Below.size (by with_reducible assumption)) | go_size)))
          clear hw8
          clear cxr_0 cxr_1 cxr_2 cxr_3 cxr_4 cxr_5 cxr_6 cxr_7 ca0 ca1 pa0 pa1 cl0 cl1 pl0 pl1 cq ctr_0 ctr_1
          refine (HT.out _).mono ?_
          rintro e w9 ⟨rfl, hw9⟩
          obtain ⟨hcw9, hfw9, hlw9, hmw9, hnw9⟩ := bcell3 hw9
          have hzw9 := hw9.size
          have cx9_0 : w9.cell? ⟨w.heap.size, 0, none⟩ = some (.int .i64 (V)) := (hcw9 (w.heap.size) (0) (by first | omega | (simp only [World.size_alloc, World.size_drew, World.size_setCell, size_drewN]; omega))).trans (by first | assumption | (simp [go_sem, *]; done)); have cx9_1 : w9.cell? ⟨w.heap.size, 1, none⟩ = some (.int .i64 (M)) := (hcw9 (w.heap.size) (1) (by first | omega | (simp only [World.size_alloc, World.size_drew, World.size_setCell, size_drewN]; omega))).trans (by first | assumption | (simp [go_sem, *]; done)); have cx9_2 : w9.cell? ⟨w.heap.size, 2, none⟩ = some (.int .i64 ((S : Int))) := (hcw9 (w.heap.size) (2) (by first | omega | (simp only [World.size_alloc, World.size_drew, World.size_setCell, size_drewN]; omega))).trans (by first | assumption | (simp [go_sem, *]; done)); have cx9_3 : w9.cell? ⟨w.heap.size, 3, none⟩ = some (.int .i64 (T)) := (hcw9 (w.heap.size) (3) (by first | omega | (simp only [World.size_alloc, World.size_drew, World.size_setCell, size_drewN]; omega))).trans (by first | assumption | (simp [go_sem, *]; done)); have cx9_4 : w9.cell? ⟨w.heap.size, 4, none⟩ = some (.int .i64 (fx)) := (hcw9 (w.heap.size) (4) (by first | omega | (simp only [World.size_alloc, World.size_drew, World.size_setCell, size_drewN]; omega))).trans (by first | assumption | (simp [go_sem, *]; done)); have cx9_5 : w9.cell? ⟨w.heap.size, 5, none⟩ = some (.int .i64 (fz)) := (hcw9 (w.heap.size) (5) (by first | omega | (simp only [World.size_alloc, World.size_drew, World.size_setCell, size_drewN]; omega))).trans (by first | assumption | (simp [go_sem, *]; done)); have cx9_6 : w9.cell? ⟨w.heap.size, 6, none⟩ = some (.int .i64 (tx)) := (hcw9 (w.heap.size) (6) (by first | omega | (simp only [World.size_alloc, World.size_drew, World.size_setCell, size_drewN]; omega))).trans (by first | assumption | (simp [go_sem, *]; done)); have cx9_7 : w9.cell? ⟨w.heap.size, 7, none⟩ = some (.int .i64 (tz)) := (hcw9 (w.heap.size) (7) (by first | omega | (simp only [World.size_alloc, World.size_drew, World.size_setCell, size_drewN]; omega))).trans (by first | assumption | (simp [go_sem, *]; done)); have ox9 : w.heap.size < w9.heap.size := (by omega)
          clear cx8_0 cx8_1 cx8_2 cx8_3 cx8_4 cx8_5 cx8_6 cx8_7
          have caz9_0 : w9.cell? ⟨w2.heap.size + 1, 0, none⟩ = some (.int .i64 (p)) := (hcw9 (w2.heap.size + 1) (0) (by first | omega | (simp only [World.size_alloc, World.size_drew, World.size_setCell, size_drewN]; omega))).trans (by first | assumption | (simp [go_sem, *]; done)); have caz9_1 : w9.cell? ⟨w2.heap.size + 1, 1, none⟩ = some (.int .i64 (z)) := (hcw9 (w2.heap.size + 1) (1) (by first | omega | (simp only [World.size_alloc, World.size_drew, World.size_setCell, size_drewN]; omega))).trans (by first | assumption | (simp [go_sem, *]; done)); have oaz9 : w2.heap.size + 1 < w9.heap.size := (by omega)
          have paz9_0 : w9.frozen? ⟨w2.heap.size + 1, 0, none⟩ = false := (hfw9 (w2.heap.size + 1) (0) (by first | omega | (simp only [World.size_alloc, World.size_drew, World.size_setCell, size_drewN]; omega))).trans (by first | assumption | (simp [go_sem, *]; done)); have paz9_1 : w9.frozen? ⟨w2.heap.size + 1, 1, none⟩ = false := (hfw9 (w2.heap.size + 1) (1) (by first | omega | (simp only [World.size_alloc, World.size_drew, World.size_setCell, size_drewN]; omega))).trans (by first | assumption | (simp [go_sem, *]; done))
          clear caz8_0 caz8_1 paz8_0 paz8_1
          have clz9_0 : w9.cell? ⟨w5.heap.size, 0, none⟩ = some (.int .i64 (y0)) := (hcw9 (w5.heap.size) (0) (by first | omega | (simp only [World.size_alloc, World.size_drew, World.size_setCell, size_drewN]; omega))).trans (by first | assumption | (simp [go_sem, *]; done)); have clz9_1 : w9.cell? ⟨w5.heap.size, 1, none⟩ = some (.int .i64 (y1)) := (hcw9 (w5.heap.size) (1) (by first | omega | (simp only [World.size_alloc, World.size_drew, World.size_setCell, size_drewN]; omega))).trans (by first | assumption | (simp [go_sem, *]; done)); have olz9 : w5.heap.size < w9.heap.size := (by omega)
          have plz9_0 : w9.frozen? ⟨w5.heap.size, 0, none⟩ = false := (hfw9 (w5.heap.size) (0) (by first | omega | (simp only [World.size_alloc, World.size_drew, World.size_setCell, size_drewN]; omega))).trans (by first | assumption | (simp [go_sem, *]; done)); have plz9_1 : w9.frozen? ⟨w5.heap.size, 1, none⟩ = false := (hfw9 (w5.heap.size) (1) (by first | omega | (simp only [World.size_alloc, World.size_drew, World.size_setCell, size_drewN]; omega))).trans (by first | assumption | (simp [go_sem, *]; done))
          clear clz8_0 clz8_1 plz8_0 plz8_1
          have cnz9_0 : w9.cell? ⟨wr.heap.size, 0, none⟩ = some (.int .i64 (r)) := (hcw9 (wr.heap.size) (0) (by first | omega | (simp only [World.size_alloc, World.size_drew, World.size_setCell, size_drewN]; omega))).trans (by first | assumption | (simp [go_sem, *]; done)); have cnz9_1 : w9.cell? ⟨wr.heap.size, 1, none⟩ = some (.int .i64 (T)) := (hcw9 (wr.heap.size) (1) (by first | omega | (simp only [World.size_alloc, World.size_drew, World.size_setCell, size_drewN]; omega))).trans (by first | assumption | (simp [go_sem, *]; done)); have onz9 : wr.heap.size < w9.heap.size := (by omega)
          have pnz9_0 : w9.frozen? ⟨wr.heap.size, 0, none⟩ = false := (hfw9 (wr.heap.size) (0) (by first | omega | (simp only [World.size_alloc, World.size_drew, World.size_setCell, size_drewN]; omega))).trans (by first | assumption | (simp [go_sem, *]; done)); have pnz9_1 : w9.frozen? ⟨wr.heap.size, 1, none⟩ = false := (hfw9 (wr.heap.size) (1) (by first | omega | (simp only [World.size_alloc, World.size_drew, World.size_setCell, size_drewN]; omega))).trans (by first | assumption | (simp [go_sem, *]; done))
          clear cnz8_0 cnz8_1 pnz8_0 pnz8_1
          have hb9 : Below (w2.heap.size + 1) w6 w9 := hbA.trans (hw9.mono (by omega))
          clear hcw9 hfw9 hlw9 hmw9 hnw9 hbA
          have wr1 : IntKind.i64.wrap (A + x1) = A + x1 := IntWalk.i64_in _ (by omega)
          go_wp2_with fail
          first | refine abs_calls (fun w10 hw10 => ?_) | refine abs_last (fun w10 hw10 => ?_)
          have hw100 : Below w.heap.size w w10 := by rw [hw10]; (repeat' (first | (with_reducible exact Below.refl _ _) | (with_reducible assumption) | (with_reducible refine Below.alloc ?_ ?_ _) | (with_reducible refine Below.drew ?_) | (with_reducible refine below_drewN ?_ _) | (with_reducible refine Below.setCell ?_ ?_ _) | (with_reducible refine below_step (by with_reducible assumption) ?_ ?_) | (with_reducible exact Below.size (by with_reducible assumption)) | go_size))
          have cx10_0 : w10.cell? ⟨w.heap.size, 0, none⟩ = some (.int .i64 (V)) := by (first | (rw [hw10]; assumption) | (simp [go_sem, *]; done))
          have cx10_1 : w10.cell? ⟨w.heap.size, 1, none⟩ = some (.int .i64 (M)) := by (first | (rw [hw10]; assumption) | (simp [go_sem, *]; done))
          have cx10_2 : w10.cell? ⟨w.heap.size, 2, none⟩ = some (.int .i64 ((S : Int))) := by (first | (rw [hw10]; assumption) | (simp [go_sem, *]; done))
          have cx10_3 : w10.cell? ⟨w.heap.size, 3, none⟩ = some (.int .i64 (T)) := by (first | (rw [hw10]; assumption) | (simp [go_sem, *]; done))
          have cx10_4 : w10.cell? ⟨w.heap.size, 4, none⟩ = some (.int .i64 (fx)) := by (first | (rw [hw10]; assumption) | (simp [go_sem, *]; done))
          have cx10_5 : w10.cell? ⟨w.heap.size, 5, none⟩ = some (.int .i64 (fz)) := by (first | (rw [hw10]; assumption) | (simp [go_sem, *]; done))
          have cx10_6 : w10.cell? ⟨w.heap.size, 6, none⟩ = some (.int .i64 (tx)) := by (first | (rw [hw10]; assumption) | (simp [go_sem, *]; done))
          have cx10_7 : w10.cell? ⟨w.heap.size, 7, none⟩ = some (.int .i64 (tz)) := by (first | (rw [hw10]; assumption) | (simp [go_sem, *]; done))
          have caz10_0 : w10.cell? ⟨w2.heap.size + 1, 0, none⟩ = some (.int .i64 (p)) := by (first | (rw [hw10]; assumption) | (simp [go_sem, *]; done))
          have paz10_0 : w10.frozen? ⟨w2.heap.size + 1, 0, none⟩ = false := by (first | (rw [hw10]; assumption) | (simp [go_sem, *]; done))
          have caz10_1 : w10.cell? ⟨w2.heap.size + 1, 1, none⟩ = some (.int .i64 (z)) := by (first | (rw [hw10]; assumption) | (simp [go_sem, *]; done))
          have paz10_1 : w10.frozen? ⟨w2.heap.size + 1, 1, none⟩ = false := by (first | (rw [hw10]; assumption) | (simp [go_sem, *]; done))
          have clz10_0 : w10.cell? ⟨w5.heap.size, 0, none⟩ = some (.int .i64 (x0)) := by (first | (rw [hw10]; assumption) | (simp [go_sem, *]; done))
          have plz10_0 : w10.frozen? ⟨w5.heap.size, 0, none⟩ = false := by (first | (rw [hw10]; assumption) | (simp [go_sem, *]; done))
          have clz10_1 : w10.cell? ⟨w5.heap.size, 1, none⟩ = some (.int .i64 (x1)) := by (first | (rw [hw10]; assumption) | (simp [go_sem, *]; done))
          have plz10_1 : w10.frozen? ⟨w5.heap.size, 1, none⟩ = false := by (first | (rw [hw10]; assumption) | (simp [go_sem, *]; done))
          have cnz10_0 : w10.cell? ⟨wr.heap.size, 0, none⟩ = some (.int .i64 (r)) := by (first | (rw [hw10]; assumption) | (simp [go_sem, *]; done))
          have pnz10_0 : w10.frozen? ⟨wr.heap.size, 0, none⟩ = false := by (first | (rw [hw10]; assumption) | (simp [go_sem, *]; done))
          have cnz10_1 : w10.cell? ⟨wr.heap.size, 1, none⟩ = some (.int .i64 (T)) := by (first | (rw [hw10]; assumption) | (simp [go_sem, *]; done))
          have pnz10_1 : w10.frozen? ⟨wr.heap.size, 1, none⟩ = false := by (first | (rw [hw10]; assumption) | (simp [go_sem, *]; done))
          have hz100 : w.heap.size < w10.heap.size := by (first | (rw [hw10]; simp; omega) | (rw [hw10]; simp; done) | (rw [hw10]; omega))
          have hz101 : w2.heap.size + 1 < w10.heap.size := by (first | (rw [hw10]; simp; omega) | (rw [hw10]; simp; done) | (rw [hw10]; omega))
          have hz102 : w5.heap.size < w10.heap.size := by (first | (rw [hw10]; simp; omega) | (rw [hw10]; simp; done) | (rw [hw10]; omega))
          have hz103 : wr.heap.size < w10.heap.size := by (first | (rw [hw10]; simp; omega) | (rw [hw10]; simp; done) | (rw [hw10]; omega))
          clear cx9_0 cx9_1 cx9_2 cx9_3 cx9_4 cx9_5 cx9_6 cx9_7
          clear caz9_0 caz9_1 paz9_0 paz9_1
          clear cnz9_0 cnz9_1 pnz9_0 pnz9_1
          have hb10 : Below (w2.heap.size + 1) w6 w10 := by rw [hw10]; first | assumption | ((repeat' (first | (with_reducible exact Below.refl _ _) | (with_reducible assumption) | (with_reducible refine Below.alloc ?_ ?_ _) | (with_reducible refine Below.drew ?_) | (with_reducible refine below_drewN ?_ _) | (with_reducible refine Below.setCell ?_ ?_ _) | (with_reducible refine below_step (by with_reducible assumption) ?_ ?_) | (with_reducible exact Below.size (by with_reducible assumption)) | go_size)))
          clear hw10
          clear hb9 hw9
          refine wp_region_held_drew (S := fun w' => w'.cell? ⟨w.heap.size, 0, none⟩ = some (.int .i64 (V)) ∧ w'.cell? ⟨w.heap.size, 1, none⟩ = some (.int .i64 (M)) ∧ w'.cell? ⟨w.heap.size, 2, none⟩ = some (.int .i64 ((S : Int))) ∧ w'.cell? ⟨w.heap.size, 3, none⟩ = some (.int .i64 (T)) ∧ w'.cell? ⟨w.heap.size, 4, none⟩ = some (.int .i64 (fx)) ∧ w'.cell? ⟨w.heap.size, 5, none⟩ = some (.int .i64 (fz)) ∧ w'.cell? ⟨w.heap.size, 6, none⟩ = some (.int .i64 (tx)) ∧ w'.cell? ⟨w.heap.size, 7, none⟩ = some (.int .i64 (tz)) ∧ w'.cell? ⟨w5.heap.size, 0, none⟩ = some (.int .i64 (x0)) ∧ w'.cell? ⟨w5.heap.size, 1, none⟩ = some (.int .i64 (x1)) ∧ w'.cell? ⟨wr.heap.size, 0, none⟩ = some (.int .i64 (r)) ∧ w'.cell? ⟨wr.heap.size, 1, none⟩ = some (.int .i64 (T)) ∧ w'.frozen? ⟨w5.heap.size, 0, none⟩ = false ∧ w'.frozen? ⟨w5.heap.size, 1, none⟩ = false ∧ w'.frozen? ⟨wr.heap.size, 0, none⟩ = false ∧ w'.frozen? ⟨wr.heap.size, 1, none⟩ = false) (by kernel_rfl) ?_ (fun hH1 => ?_)
          · (first | assumption | (refine ⟨?_, ?_, ?_, ?_, ?_, ?_, ?_, ?_, ?_, ?_, ?_, ?_, ?_, ?_, ?_, ?_⟩ <;> assumption) | (go_keep; done) | (simp [*, go_sem]; done))
          refine wpAnyH_pure (i := 0) (v := ?_) rfl (by kernel_rfl) (by kernel_rfl) (by kernel_rfl) (fun _ _ _ h => h) (by rfl) (by assumption) ?_ ?_
          rotate_left
          · (intro w hSw; (try dsimp only at hSw); go_simp; (try with_reducible rfl))
          simp only [Act.put, List.getElem_toArray, List.getElem_cons_succ, List.getElem_cons_zero, List.setIfInBounds_toArray, List.set_cons_zero, List.set_cons_succ]
          refine wpAnyH_pure (i := 1) (v := ?_) rfl (by kernel_rfl) (by kernel_rfl) (by kernel_rfl) (fun _ _ _ h => h) (by rfl) (by assumption) ?_ ?_
          rotate_left
          · (intro w hSw; (try dsimp only at hSw); go_simp; (try with_reducible rfl))
          simp only [Act.put, List.getElem_toArray, List.getElem_cons_succ, List.getElem_cons_zero, List.setIfInBounds_toArray, List.set_cons_zero, List.set_cons_succ]
          refine wpAnyH_pure (i := 2) (v := ?_) rfl (by kernel_rfl) (by kernel_rfl) (by kernel_rfl) (fun _ _ _ h => h) (by rfl) (by assumption) ?_ ?_
          rotate_left
          · (intro w hSw; (try dsimp only at hSw); go_simp; (try with_reducible rfl))
          simp only [Act.put, List.getElem_toArray, List.getElem_cons_succ, List.getElem_cons_zero, List.setIfInBounds_toArray, List.set_cons_zero, List.set_cons_succ]
          refine wpAnyH_pure (i := 3) (v := ?_) rfl (by kernel_rfl) (by kernel_rfl) (by kernel_rfl) (fun _ _ _ h => h) (by rfl) (by assumption) ?_ ?_
          rotate_left
          · (intro w hSw; (try dsimp only at hSw); go_simp; (try with_reducible rfl))
          simp only [Act.put, List.getElem_toArray, List.getElem_cons_succ, List.getElem_cons_zero, List.setIfInBounds_toArray, List.set_cons_zero, List.set_cons_succ]
          refine wpAnyH_pure (i := 4) (v := ?_) rfl (by kernel_rfl) (by kernel_rfl) (by kernel_rfl) (fun _ _ _ h => h) (by rfl) (by assumption) ?_ ?_
          rotate_left
          · (intro w hSw; (try dsimp only at hSw); go_simp; (try with_reducible rfl))
          simp only [Act.put, List.getElem_toArray, List.getElem_cons_succ, List.getElem_cons_zero, List.setIfInBounds_toArray, List.set_cons_zero, List.set_cons_succ]
          refine wpAnyH_pure (i := 5) (v := ?_) rfl (by kernel_rfl) (by kernel_rfl) (by kernel_rfl) (fun _ _ _ h => h) (by rfl) (by assumption) ?_ ?_
          rotate_left
          · (intro w hSw; (try dsimp only at hSw); go_simp; (try with_reducible rfl))
          simp only [Act.put, List.getElem_toArray, List.getElem_cons_succ, List.getElem_cons_zero, List.setIfInBounds_toArray, List.set_cons_zero, List.set_cons_succ]
          refine wpAnyH_ready (rs := [6]) (by kernel_rfl) (by simp) ?_
          refine AllReadyH.cons rfl (fun Kq hKq => ?_) AllReadyH.nil
          go_simp
          refine hKq.out _ _ ?_ (fun hH2 => ?_)
          · (first | (refine ⟨?_, ?_, ?_, ?_, ?_, ?_, ?_, ?_, ?_, ?_, ?_, ?_, ?_, ?_, ?_, ?_⟩ <;> ((repeat (first | refine (World.cell?_setCell_far _ _ _ _ (by dsimp only; omega)).trans ?_ | refine World.frozen?_setCell.trans ?_)); with_reducible assumption)) | (go_keep; done) | (simp [*, go_sem]; done))
          clear hKq Kq
          clear hH1
          refine wpAnyH_done (by kernel_rfl) ?_ _
          go_wp2
          go_roundw
          case rel =>
            refine ⟨k + 1, A + x1, r, x0, x1, by go_num, rfl, ⟨by omega, HG2.out, by omega, hr5, by (repeat' (first | (with_reducible exact Below.refl _ _) | (with_reducible assumption) | (with_reducible refine Below.alloc ?_ ?_ _) | (with_reducible refine Below.drew ?_) | (with_reducible refine below_drewN ?_ _) | (with_reducible refine Below.setCell ?_ ?_ _) | (with_reducible refine below_step (by with_reducible assumption) ?_ ?_) | (with_reducible exact Below.size (by with_reducible assumption)) | go_size)), ⟨by simp [go_sem, *], ?_, by simp [go_sem, *], by simp [go_sem, *]⟩, ⟨by simp [go_sem, *], by simp [go_sem, *], by simp [go_sem, *], by simp [go_sem, *]⟩⟩⟩
            rw [HEA.out]
            simp [go_sem, *]
          case measure => simp [intOf]; omega
        · have ea : alt (k + 1) T = 0 := by rw [alt_succ]; rw [if_neg (by omega)]
          rw [ea] at hT
          have HEA := Lib.hid ea
          have HT := Lib.hid hT
          clear hT ea
          have t1 : ((k : Int) % 2 == 0) = false := by simp; omega
          clear h2
          generalize alt k T = z at *
          go_wp2_with fail
          refine (B.out _).mono ?_
          rintro e w' ⟨rfl, rfl⟩
          go_wp2_with fail
          first | refine abs_calls (fun w8 hw8 => ?_) | refine abs_last (fun w8 hw8 => ?_)
          have hw80 : Below w.heap.size w w8 := by rw [hw8]; (repeat' (first | (with_reducible exact Below.refl _ _) | (with_reducible assumption) | (with_reducible refine Below.alloc ?_ ?_ _) | (with_reducible refine Below.drew ?_) | (with_reducible refine below_drewN ?_ _) | (with_reducible refine Below.setCell ?_ ?_ _) | (with_reducible refine below_step (by with_reducible assumption) ?_ ?_) | (with_reducible exact Below.size (by with_reducible assumption)) | go_size))
          have cx8_0 : w8.cell? ⟨w.heap.size, 0, none⟩ = some (.int .i64 (V)) := by (first | (rw [hw8]; assumption) | (simp [go_sem, *]; done))
          have cx8_1 : w8.cell? ⟨w.heap.size, 1, none⟩ = some (.int .i64 (M)) := by (first | (rw [hw8]; assumption) | (simp [go_sem, *]; done))
          have cx8_2 : w8.cell? ⟨w.heap.size, 2, none⟩ = some (.int .i64 ((S : Int))) := by (first | (rw [hw8]; assumption) | (simp [go_sem, *]; done))
          have cx8_3 : w8.cell? ⟨w.heap.size, 3, none⟩ = some (.int .i64 (T)) := by (first | (rw [hw8]; assumption) | (simp [go_sem, *]; done))
          have cx8_4 : w8.cell? ⟨w.heap.size, 4, none⟩ = some (.int .i64 (fx)) := by (first | (rw [hw8]; assumption) | (simp [go_sem, *]; done))
          have cx8_5 : w8.cell? ⟨w.heap.size, 5, none⟩ = some (.int .i64 (fz)) := by (first | (rw [hw8]; assumption) | (simp [go_sem, *]; done))
          have cx8_6 : w8.cell? ⟨w.heap.size, 6, none⟩ = some (.int .i64 (tx)) := by (first | (rw [hw8]; assumption) | (simp [go_sem, *]; done))
          have cx8_7 : w8.cell? ⟨w.heap.size, 7, none⟩ = some (.int .i64 (tz)) := by (first | (rw [hw8]; assumption) | (simp [go_sem, *]; done))
          have caz8_0 : w8.cell? ⟨w2.heap.size + 1, 0, none⟩ = some (.int .i64 (p)) := by (first | (rw [hw8]; assumption) | (simp [go_sem, *]; done))
          have paz8_0 : w8.frozen? ⟨w2.heap.size + 1, 0, none⟩ = false := by (first | (rw [hw8]; assumption) | (simp [go_sem, *]; done))
          have caz8_1 : w8.cell? ⟨w2.heap.size + 1, 1, none⟩ = some (.int .i64 (z)) := by (first | (rw [hw8]; assumption) | (simp [go_sem, *]; done))
          have paz8_1 : w8.frozen? ⟨w2.heap.size + 1, 1, none⟩ = false := by (first | (rw [hw8]; assumption) | (simp [go_sem, *]; done))
          have clz8_0 : w8.cell? ⟨w5.heap.size, 0, none⟩ = some (.int .i64 (y0)) := by (first | (rw [hw8]; assumption) | (simp [go_sem, *]; done))
          have plz8_0 : w8.frozen? ⟨w5.heap.size, 0, none⟩ = false := by (first | (rw [hw8]; assumption) | (simp [go_sem, *]; done))
          have clz8_1 : w8.cell? ⟨w5.heap.size, 1, none⟩ = some (.int .i64 (y1)) := by (first | (rw [hw8]; assumption) | (simp [go_sem, *]; done))
          have plz8_1 : w8.frozen? ⟨w5.heap.size, 1, none⟩ = false := by (first | (rw [hw8]; assumption) | (simp [go_sem, *]; done))
          have cnz8_0 : w8.cell? ⟨wr.heap.size, 0, none⟩ = some (.int .i64 (r)) := by (first | (rw [hw8]; assumption) | (simp [go_sem, *]; done))
          have pnz8_0 : w8.frozen? ⟨wr.heap.size, 0, none⟩ = false := by (first | (rw [hw8]; assumption) | (simp [go_sem, *]; done))
          have cnz8_1 : w8.cell? ⟨wr.heap.size, 1, none⟩ = some (.int .i64 (0)) := by (first | (rw [hw8]; assumption) | (simp [go_sem, *]; done))
          have pnz8_1 : w8.frozen? ⟨wr.heap.size, 1, none⟩ = false := by (first | (rw [hw8]; assumption) | (simp [go_sem, *]; done))
          have hz80 : w.heap.size < w8.heap.size := by (first | (rw [hw8]; simp; omega) | (rw [hw8]; simp; done) | (rw [hw8]; omega))
          have hz81 : w2.heap.size + 1 < w8.heap.size := by (first | (rw [hw8]; simp; omega) | (rw [hw8]; simp; done) | (rw [hw8]; omega))
          have hz82 : w5.heap.size < w8.heap.size := by (first | (rw [hw8]; simp; omega) | (rw [hw8]; simp; done) | (rw [hw8]; omega))
          have hz83 : wr.heap.size < w8.heap.size := by (first | (rw [hw8]; simp; omega) | (rw [hw8]; simp; done) | (rw [hw8]; omega))
          have hbA : Below (w2.heap.size + 1) w6 w8 := by rw [hw8]; first | assumption | ((repeat' (first | (with_reducible exact Below.refl _ _) | (with_reducible assumption) | (with_reducible refine Below.alloc ?_ ?_ _) | (with_reducible refine Below.drew ?_) | (with_reducible refine below_drewN ?_ _) | (with_reducible refine Below.setCell ?_ ?_ _) | (with_reducible refine below_step (by with_reducible assumption) ?_ ?_) | (with_reducible exact Below.size (by with_reducible assumption)) | go_size)))
          clear hw8
          clear cxr_0 cxr_1 cxr_2 cxr_3 cxr_4 cxr_5 cxr_6 cxr_7 ca0 ca1 pa0 pa1 cl0 cl1 pl0 pl1 cq ctr_0 ctr_1
          refine (HT.out _).mono ?_
          rintro e w9 ⟨rfl, hw9⟩
          obtain ⟨hcw9, hfw9, hlw9, hmw9, hnw9⟩ := bcell3 hw9
          have hzw9 := hw9.size
          have cx9_0 : w9.cell? ⟨w.heap.size, 0, none⟩ = some (.int .i64 (V)) := (hcw9 (w.heap.size) (0) (by first | omega | (simp only [World.size_alloc, World.size_drew, World.size_setCell, size_drewN]; omega))).trans (by first | assumption | (simp [go_sem, *]; done)); have cx9_1 : w9.cell? ⟨w.heap.size, 1, none⟩ = some (.int .i64 (M)) := (hcw9 (w.heap.size) (1) (by first | omega | (simp only [World.size_alloc, World.size_drew, World.size_setCell, size_drewN]; omega))).trans (by first | assumption | (simp [go_sem, *]; done)); have cx9_2 : w9.cell? ⟨w.heap.size, 2, none⟩ = some (.int .i64 ((S : Int))) := (hcw9 (w.heap.size) (2) (by first | omega | (simp only [World.size_alloc, World.size_drew, World.size_setCell, size_drewN]; omega))).trans (by first | assumption | (simp [go_sem, *]; done)); have cx9_3 : w9.cell? ⟨w.heap.size, 3, none⟩ = some (.int .i64 (T)) := (hcw9 (w.heap.size) (3) (by first | omega | (simp only [World.size_alloc, World.size_drew, World.size_setCell, size_drewN]; omega))).trans (by first | assumption | (simp [go_sem, *]; done)); have cx9_4 : w9.cell? ⟨w.heap.size, 4, none⟩ = some (.int .i64 (fx)) := (hcw9 (w.heap.size) (4) (by first | omega | (simp only [World.size_alloc, World.size_drew, World.size_setCell, size_drewN]; omega))).trans (by first | assumption | (simp [go_sem, *]; done)); have cx9_5 : w9.cell? ⟨w.heap.size, 5, none⟩ = some (.int .i64 (fz)) := (hcw9 (w.heap.size) (5) (by first | omega | (simp only [World.size_alloc, World.size_drew, World.size_setCell, size_drewN]; omega))).trans (by first | assumption | (simp [go_sem, *]; done)); have cx9_6 : w9.cell? ⟨w.heap.size, 6, none⟩ = some (.int .i64 (tx)) := (hcw9 (w.heap.size) (6) (by first | omega | (simp only [World.size_alloc, World.size_drew, World.size_setCell, size_drewN]; omega))).trans (by first | assumption | (simp [go_sem, *]; done)); have cx9_7 : w9.cell? ⟨w.heap.size, 7, none⟩ = some (.int .i64 (tz)) := (hcw9 (w.heap.size) (7) (by first | omega | (simp only [World.size_alloc, World.size_drew, World.size_setCell, size_drewN]; omega))).trans (by first | assumption | (simp [go_sem, *]; done)); have ox9 : w.heap.size < w9.heap.size := (by omega)
          clear cx8_0 cx8_1 cx8_2 cx8_3 cx8_4 cx8_5 cx8_6 cx8_7
          have caz9_0 : w9.cell? ⟨w2.heap.size + 1, 0, none⟩ = some (.int .i64 (p)) := (hcw9 (w2.heap.size + 1) (0) (by first | omega | (simp only [World.size_alloc, World.size_drew, World.size_setCell, size_drewN]; omega))).trans (by first | assumption | (simp [go_sem, *]; done)); have caz9_1 : w9.cell? ⟨w2.heap.size + 1, 1, none⟩ = some (.int .i64 (z)) := (hcw9 (w2.heap.size + 1) (1) (by first | omega | (simp only [World.size_alloc, World.size_drew, World.size_setCell, size_drewN]; omega))).trans (by first | assumption | (simp [go_sem, *]; done)); have oaz9 : w2.heap.size + 1 < w9.heap.size := (by omega)
          have paz9_0 : w9.frozen? ⟨w2.heap.size + 1, 0, none⟩ = false := (hfw9 (w2.heap.size + 1) (0) (by first | omega | (simp only [World.size_alloc, World.size_drew, World.size_setCell, size_drewN]; omega))).trans (by first | assumption | (simp [go_sem, *]; done)); have paz9_1 : w9.frozen? ⟨w2.heap.size + 1, 1, none⟩ = false := (hfw9 (w2.heap.size + 1) (1) (by first | omega | (simp only [World.size_alloc, World.size_drew, World.size_setCell, size_drewN]; omega))).trans (by first | assumption | (simp [go_sem, *]; done))
          clear caz8_0 caz8_1 paz8_0 paz8_1
          have clz9_0 : w9.cell? ⟨w5.heap.size, 0, none⟩ = some (.int .i64 (y0)) := (hcw9 (w5.heap.size) (0) (by first | omega | (simp only [World.size_alloc, World.size_drew, World.size_setCell, size_drewN]; omega))).trans (by first | assumption | (simp [go_sem, *]; done)); have clz9_1 : w9.cell? ⟨w5.heap.size, 1, none⟩ = some (.int .i64 (y1)) := (hcw9 (w5.heap.size) (1) (by first | omega | (simp only [World.size_alloc, World.size_drew, World.size_setCell, size_drewN]; omega))).trans (by first | assumption | (simp [go_sem, *]; done)); have olz9 : w5.heap.size < w9.heap.size := (by omega)
          have plz9_0 : w9.frozen? ⟨w5.heap.size, 0, none⟩ = false := (hfw9 (w5.heap.size) (0) (by first | omega | (simp only [World.size_alloc, World.size_drew, World.size_setCell, size_drewN]; omega))).trans (by first | assumption | (simp [go_sem, *]; done)); have plz9_1 : w9.frozen? ⟨w5.heap.size, 1, none⟩ = false := (hfw9 (w5.heap.size) (1) (by first | omega | (simp only [World.size_alloc, World.size_drew, World.size_setCell, size_drewN]; omega))).trans (by first | assumption | (simp [go_sem, *]; done))
          clear clz8_0 clz8_1 plz8_0 plz8_1
          have cnz9_0 : w9.cell? ⟨wr.heap.size, 0, none⟩ = some (.int .i64 (r)) := (hcw9 (wr.heap.size) (0) (by first | omega | (simp only [World.size_alloc, World.size_drew, World.size_setCell, size_drewN]; omega))).trans (by first | assumption | (simp [go_sem, *]; done)); have cnz9_1 : w9.cell? ⟨wr.heap.size, 1, none⟩ = some (.int .i64 (0)) := (hcw9 (wr.heap.size) (1) (by first | omega | (simp only [World.size_alloc, World.size_drew, World.size_setCell, size_drewN]; omega))).trans (by first | assumption | (simp [go_sem, *]; done)); have onz9 : wr.heap.size < w9.heap.size := (by omega)
          have pnz9_0 : w9.frozen? ⟨wr.heap.size, 0, none⟩ = false := (hfw9 (wr.heap.size) (0) (by first | omega | (simp only [World.size_alloc, World.size_drew, World.size_setCell, size_drewN]; omega))).trans (by first | assumption | (simp [go_sem, *]; done)); have pnz9_1 : w9.frozen? ⟨wr.heap.size, 1, none⟩ = false := (hfw9 (wr.heap.size) (1) (by first | omega | (simp only [World.size_alloc, World.size_drew, World.size_setCell, size_drewN]; omega))).trans (by first | assumption | (simp [go_sem, *]; done))
          clear cnz8_0 cnz8_1 pnz8_0 pnz8_1
          have hb9 : Below (w2.heap.size + 1) w6 w9 := hbA.trans (hw9.mono (by omega))
          clear hcw9 hfw9 hlw9 hmw9 hnw9 hbA
          have wr1 : IntKind.i64.wrap (A + x1) = A + x1 := IntWalk.i64_in _ (by omega)
          go_wp2_with fail
          first | refine abs_calls (fun w10 hw10 => ?_) | refine abs_last (fun w10 hw10 => ?_)
          have hw100 : Below w.heap.size w w10 := by rw [hw10]; (repeat' (first | (with_reducible exact Below.refl _ _) | (with_reducible assumption) | (with_reducible refine Below.alloc ?_ ?_ _) | (with_reducible refine Below.drew ?_) | (with_reducible refine below_drewN ?_ _) | (with_reducible refine Below.setCell ?_ ?_ _) | (with_reducible refine below_step (by with_reducible assumption) ?_ ?_) | (with_reducible exact Below.size (by with_reducible assumption)) | go_size))
          have cx10_0 : w10.cell? ⟨w.heap.size, 0, none⟩ = some (.int .i64 (V)) := by (first | (rw [hw10]; assumption) | (simp [go_sem, *]; done))
          have cx10_1 : w10.cell? ⟨w.heap.size, 1, none⟩ = some (.int .i64 (M)) := by (first | (rw [hw10]; assumption) | (simp [go_sem, *]; done))
          have cx10_2 : w10.cell? ⟨w.heap.size, 2, none⟩ = some (.int .i64 ((S : Int))) := by (first | (rw [hw10]; assumption) | (simp [go_sem, *]; done))
          have cx10_3 : w10.cell? ⟨w.heap.size, 3, none⟩ = some (.int .i64 (T)) := by (first | (rw [hw10]; assumption) | (simp [go_sem, *]; done))
          have cx10_4 : w10.cell? ⟨w.heap.size, 4, none⟩ = some (.int .i64 (fx)) := by (first | (rw [hw10]; assumption) | (simp [go_sem, *]; done))
          have cx10_5 : w10.cell? ⟨w.heap.size, 5, none⟩ = some (.int .i64 (fz)) := by (first | (rw [hw10]; assumption) | (simp [go_sem, *]; done))
          have cx10_6 : w10.cell? ⟨w.heap.size, 6, none⟩ = some (.int .i64 (tx)) := by (first | (rw [hw10]; assumption) | (simp [go_sem, *]; done))
          have cx10_7 : w10.cell? ⟨w.heap.size, 7, none⟩ = some (.int .i64 (tz)) := by (first | (rw [hw10]; assumption) | (simp [go_sem, *]; done))
          have caz10_0 : w10.cell? ⟨w2.heap.size + 1, 0, none⟩ = some (.int .i64 (p)) := by (first | (rw [hw10]; assumption) | (simp [go_sem, *]; done))
          have paz10_0 : w10.frozen? ⟨w2.heap.size + 1, 0, none⟩ = false := by (first | (rw [hw10]; assumption) | (simp [go_sem, *]; done))
          have caz10_1 : w10.cell? ⟨w2.heap.size + 1, 1, none⟩ = some (.int .i64 (z)) := by (first | (rw [hw10]; assumption) | (simp [go_sem, *]; done))
          have paz10_1 : w10.frozen? ⟨w2.heap.size + 1, 1, none⟩ = false := by (first | (rw [hw10]; assumption) | (simp [go_sem, *]; done))
          have clz10_0 : w10.cell? ⟨w5.heap.size, 0, none⟩ = some (.int .i64 (x0)) := by (first | (rw [hw10]; assumption) | (simp [go_sem, *]; done))
          have plz10_0 : w10.frozen? ⟨w5.heap.size, 0, none⟩ = false := by (first | (rw [hw10]; assumption) | (simp [go_sem, *]; done))
          have clz10_1 : w10.cell? ⟨w5.heap.size, 1, none⟩ = some (.int .i64 (x1)) := by (first | (rw [hw10]; assumption) | (simp [go_sem, *]; done))
          have plz10_1 : w10.frozen? ⟨w5.heap.size, 1, none⟩ = false := by (first | (rw [hw10]; assumption) | (simp [go_sem, *]; done))
          have cnz10_0 : w10.cell? ⟨wr.heap.size, 0, none⟩ = some (.int .i64 (r)) := by (first | (rw [hw10]; assumption) | (simp [go_sem, *]; done))
          have pnz10_0 : w10.frozen? ⟨wr.heap.size, 0, none⟩ = false := by (first | (rw [hw10]; assumption) | (simp [go_sem, *]; done))
          have cnz10_1 : w10.cell? ⟨wr.heap.size, 1, none⟩ = some (.int .i64 (0)) := by (first | (rw [hw10]; assumption) | (simp [go_sem, *]; done))
          have pnz10_1 : w10.frozen? ⟨wr.heap.size, 1, none⟩ = false := by (first | (rw [hw10]; assumption) | (simp [go_sem, *]; done))
          have hz100 : w.heap.size < w10.heap.size := by (first | (rw [hw10]; simp; omega) | (rw [hw10]; simp; done) | (rw [hw10]; omega))
          have hz101 : w2.heap.size + 1 < w10.heap.size := by (first | (rw [hw10]; simp; omega) | (rw [hw10]; simp; done) | (rw [hw10]; omega))
          have hz102 : w5.heap.size < w10.heap.size := by (first | (rw [hw10]; simp; omega) | (rw [hw10]; simp; done) | (rw [hw10]; omega))
          have hz103 : wr.heap.size < w10.heap.size := by (first | (rw [hw10]; simp; omega) | (rw [hw10]; simp; done) | (rw [hw10]; omega))
          clear cx9_0 cx9_1 cx9_2 cx9_3 cx9_4 cx9_5 cx9_6 cx9_7
          clear caz9_0 caz9_1 paz9_0 paz9_1
          clear cnz9_0 cnz9_1 pnz9_0 pnz9_1
          have hb10 : Below (w2.heap.size + 1) w6 w10 := by rw [hw10]; first | assumption | ((repeat' (first | (with_reducible exact Below.refl _ _) | (with_reducible assumption) | (with_reducible refine Below.alloc ?_ ?_ _) | (with_reducible refine Below.drew ?_) | (with_reducible refine below_drewN ?_ _) | (with_reducible refine Below.setCell ?_ ?_ _) | (with_reducible refine below_step (by with_reducible assumption) ?_ ?_) | (with_reducible exact Below.size (by with_reducible assumption)) | go_size)))
          clear hw10
          clear hb9 hw9
          refine wp_region_held_drew (S := fun w' => w'.cell? ⟨w.heap.size, 0, none⟩ = some (.int .i64 (V)) ∧ w'.cell? ⟨w.heap.size, 1, none⟩ = some (.int .i64 (M)) ∧ w'.cell? ⟨w.heap.size, 2, none⟩ = some (.int .i64 ((S : Int))) ∧ w'.cell? ⟨w.heap.size, 3, none⟩ = some (.int .i64 (T)) ∧ w'.cell? ⟨w.heap.size, 4, none⟩ = some (.int .i64 (fx)) ∧ w'.cell? ⟨w.heap.size, 5, none⟩ = some (.int .i64 (fz)) ∧ w'.cell? ⟨w.heap.size, 6, none⟩ = some (.int .i64 (tx)) ∧ w'.cell? ⟨w.heap.size, 7, none⟩ = some (.int .i64 (tz)) ∧ w'.cell? ⟨w5.heap.size, 0, none⟩ = some (.int .i64 (x0)) ∧ w'.cell? ⟨w5.heap.size, 1, none⟩ = some (.int .i64 (x1)) ∧ w'.cell? ⟨wr.heap.size, 0, none⟩ = some (.int .i64 (r)) ∧ w'.cell? ⟨wr.heap.size, 1, none⟩ = some (.int .i64 (0)) ∧ w'.frozen? ⟨w5.heap.size, 0, none⟩ = false ∧ w'.frozen? ⟨w5.heap.size, 1, none⟩ = false ∧ w'.frozen? ⟨wr.heap.size, 0, none⟩ = false ∧ w'.frozen? ⟨wr.heap.size, 1, none⟩ = false) (by kernel_rfl) ?_ (fun hH3 => ?_)
          · (first | assumption | (refine ⟨?_, ?_, ?_, ?_, ?_, ?_, ?_, ?_, ?_, ?_, ?_, ?_, ?_, ?_, ?_, ?_⟩ <;> assumption) | (go_keep; done) | (simp [*, go_sem]; done))
          refine wpAnyH_pure (i := 0) (v := ?_) rfl (by kernel_rfl) (by kernel_rfl) (by kernel_rfl) (fun _ _ _ h => h) (by rfl) (by assumption) ?_ ?_
          rotate_left
          · (intro w hSw; (try dsimp only at hSw); go_simp; (try with_reducible rfl))
          simp only [Act.put, List.getElem_toArray, List.getElem_cons_succ, List.getElem_cons_zero, List.setIfInBounds_toArray, List.set_cons_zero, List.set_cons_succ]
          refine wpAnyH_pure (i := 1) (v := ?_) rfl (by kernel_rfl) (by kernel_rfl) (by kernel_rfl) (fun _ _ _ h => h) (by rfl) (by assumption) ?_ ?_
          rotate_left
          · (intro w hSw; (try dsimp only at hSw); go_simp; (try with_reducible rfl))
          simp only [Act.put, List.getElem_toArray, List.getElem_cons_succ, List.getElem_cons_zero, List.setIfInBounds_toArray, List.set_cons_zero, List.set_cons_succ]
          refine wpAnyH_pure (i := 2) (v := ?_) rfl (by kernel_rfl) (by kernel_rfl) (by kernel_rfl) (fun _ _ _ h => h) (by rfl) (by assumption) ?_ ?_
          rotate_left
          · (intro w hSw; (try dsimp only at hSw); go_simp; (try with_reducible rfl))
          simp only [Act.put, List.getElem_toArray, List.getElem_cons_succ, List.getElem_cons_zero, List.setIfInBounds_toArray, List.set_cons_zero, List.set_cons_succ]
          refine wpAnyH_pure (i := 3) (v := ?_) rfl (by kernel_rfl) (by kernel_rfl) (by kernel_rfl) (fun _ _ _ h => h) (by rfl) (by assumption) ?_ ?_
          rotate_left
          · (intro w hSw; (try dsimp only at hSw); go_simp; (try with_reducible rfl))
          simp only [Act.put, List.getElem_toArray, List.getElem_cons_succ, List.getElem_cons_zero, List.setIfInBounds_toArray, List.set_cons_zero, List.set_cons_succ]
          refine wpAnyH_pure (i := 4) (v := ?_) rfl (by kernel_rfl) (by kernel_rfl) (by kernel_rfl) (fun _ _ _ h => h) (by rfl) (by assumption) ?_ ?_
          rotate_left
          · (intro w hSw; (try dsimp only at hSw); go_simp; (try with_reducible rfl))
          simp only [Act.put, List.getElem_toArray, List.getElem_cons_succ, List.getElem_cons_zero, List.setIfInBounds_toArray, List.set_cons_zero, List.set_cons_succ]
          refine wpAnyH_pure (i := 5) (v := ?_) rfl (by kernel_rfl) (by kernel_rfl) (by kernel_rfl) (fun _ _ _ h => h) (by rfl) (by assumption) ?_ ?_
          rotate_left
          · (intro w hSw; (try dsimp only at hSw); go_simp; (try with_reducible rfl))
          simp only [Act.put, List.getElem_toArray, List.getElem_cons_succ, List.getElem_cons_zero, List.setIfInBounds_toArray, List.set_cons_zero, List.set_cons_succ]
          refine wpAnyH_ready (rs := [6]) (by kernel_rfl) (by simp) ?_
          refine AllReadyH.cons rfl (fun Kq hKq => ?_) AllReadyH.nil
          go_simp
          refine hKq.out _ _ ?_ (fun hH4 => ?_)
          · (first | (refine ⟨?_, ?_, ?_, ?_, ?_, ?_, ?_, ?_, ?_, ?_, ?_, ?_, ?_, ?_, ?_, ?_⟩ <;> ((repeat (first | refine (World.cell?_setCell_far _ _ _ _ (by dsimp only; omega)).trans ?_ | refine World.frozen?_setCell.trans ?_)); with_reducible assumption)) | (go_keep; done) | (simp [*, go_sem]; done))
          clear hKq Kq
          clear hH3
          refine wpAnyH_done (by kernel_rfl) ?_ _
          go_wp2
          go_roundw
          case rel =>
            refine ⟨k + 1, A + x1, r, x0, x1, by go_num, rfl, ⟨by omega, HG2.out, by omega, hr5, by (repeat' (first | (with_reducible exact Below.refl _ _) | (with_reducible assumption) | (with_reducible refine Below.alloc ?_ ?_ _) | (with_reducible refine Below.drew ?_) | (with_reducible refine below_drewN ?_ _) | (with_reducible refine Below.setCell ?_ ?_ _) | (with_reducible refine below_step (by with_reducible assumption) ?_ ?_) | (with_reducible exact Below.size (by with_reducible assumption)) | go_size)), ⟨by simp [go_sem, *], ?_, by simp [go_sem, *], by simp [go_sem, *]⟩, ⟨by simp [go_sem, *], by simp [go_sem, *], by simp [go_sem, *], by simp [go_sem, *]⟩⟩⟩
            rw [HEA.out]
            simp [go_sem, *]
          case measure => simp [intOf]; omega
    · have ek : k = S := by omega
      subst ek
      obtain ⟨x0, x1, hx1, hle, hT⟩ := H5.out p A hp hG
      have HT := Lib.hid hT
      clear hT hG
      have e1 : ¬ (k : Int) < (k : Int) := by omega
      generalize alt k T = z at *
      go_wp2_with fail
      refine (HT.out _).mono ?_
      rintro e w9 ⟨rfl, hw9⟩
      obtain ⟨hcw9, hfw9, hlw9, hmw9, hnw9⟩ := bcell3 hw9
      have hzw9 := hw9.size
      have ct9_0 : w9.cell? ⟨w2.heap.size, 0, none⟩ = some (.int .i64 (a)) := (hcw9 (w2.heap.size) (0) (by first | omega | (simp only [World.size_alloc, World.size_drew, World.size_setCell, size_drewN]; omega))).trans (by first | assumption | (simp [go_sem, *]; done)); have ct9_1 : w9.cell? ⟨w2.heap.size, 1, none⟩ = some (.int .i64 (b)) := (hcw9 (w2.heap.size) (1) (by first | omega | (simp only [World.size_alloc, World.size_drew, World.size_setCell, size_drewN]; omega))).trans (by first | assumption | (simp [go_sem, *]; done)); have ot9 : w2.heap.size < w9.heap.size := (by omega)
      have clz9_0 : w9.cell? ⟨w5.heap.size, 0, none⟩ = some (.int .i64 (y0)) := (hcw9 (w5.heap.size) (0) (by first | omega | (simp only [World.size_alloc, World.size_drew, World.size_setCell, size_drewN]; omega))).trans (by first | assumption | (simp [go_sem, *]; done)); have clz9_1 : w9.cell? ⟨w5.heap.size, 1, none⟩ = some (.int .i64 (y1)) := (hcw9 (w5.heap.size) (1) (by first | omega | (simp only [World.size_alloc, World.size_drew, World.size_setCell, size_drewN]; omega))).trans (by first | assumption | (simp [go_sem, *]; done)); have olz9 : w5.heap.size < w9.heap.size := (by omega)
      have plz9_0 : w9.frozen? ⟨w5.heap.size, 0, none⟩ = false := (hfw9 (w5.heap.size) (0) (by first | omega | (simp only [World.size_alloc, World.size_drew, World.size_setCell, size_drewN]; omega))).trans (by first | assumption | (simp [go_sem, *]; done)); have plz9_1 : w9.frozen? ⟨w5.heap.size, 1, none⟩ = false := (hfw9 (w5.heap.size) (1) (by first | omega | (simp only [World.size_alloc, World.size_drew, World.size_setCell, size_drewN]; omega))).trans (by first | assumption | (simp [go_sem, *]; done))
      clear hcw9 hfw9 hlw9 hmw9 hnw9
      go_wp2
      go_ret
      exact ⟨rfl, by (repeat' (first | (with_reducible exact Below.refl _ _) | (with_reducible assumption) | (with_reducible refine Below.alloc ?_ ?_ _) | (with_reducible refine Below.drew ?_) | (with_reducible refine below_drewN ?_ _) | (with_reducible refine Below.setCell ?_ ?_ _) | (with_reducible refine below_step (by with_reducible assumption) ?_ ?_) | (with_reducible exact Below.size (by with_reducible assumption)) | go_size))⟩
end Go.Proofs.Ytpphnnbijmoodaa
