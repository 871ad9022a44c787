/-
  WAYS: the walk of RayWays.
-/
import Derived.Test.YtpphnnbijmoodaaWallsR
import Derived.Test.YtpphnnbijmoodaaRanges
import Derived.Test.YtpphnnbijmoodaaWayErr
import Derived.Test.YtpphnnbijmoodaaAwake
set_option linter.unusedVariables false
set_option linter.unusedSimpArgs false
namespace Go.Proofs.Ytpphnnbijmoodaa
open Go.RowKit

theorem ownsRow_below {W W' : World} {base : Nat} {e : TypeId} {size n : Nat} {v : Value} {xs : List Value} (h : W.ownsRow base e size v n xs) (hB : Below W.heap.size W W') : W'.ownsRow base e size v n xs := by
  obtain ⟨h1, h2⟩ := h
  refine ⟨h1, ?_⟩
  rcases h2 with h2 | ⟨g, cap, cur, a, b, c, d⟩
  · exact .inl h2
  · exact .inr ⟨g, cap, cur, a, b, (hB.block g (Array.getElem?_eq_some_iff.1 c).1).trans c, d⟩
theorem wls_fl (x : Cr) (k T : Int) (n : Nat) : wls x k T n = fl ((List.range n).map fun j => (k + wX x k T j / x.H2, k + cdiv (wX x k T j) x.H2)) := by
  unfold wls fl
  rw [List.flatMap_map]
  rfl
theorem ranges_owned (W : World) (B1 B2 n : Nat) (v1 v2 : Value) (l : List (Int × Int)) (hl : l.length = n) (hb : n ≤ 1000) (h1 : W.ownsRow B1 26 2 v1 n (fl l)) (h2 : W.ownsRow B2 26 2 v2 n (fl l)) :
    Calls Try.prog 53 #[v1, v2] W fun e w' => e = .returned (.bool true) ∧ Below W.heap.size W w' := by
  by_cases h0 : n = 0
  · subst h0
    apply ranges_nil
    · rcases h1.2 with ⟨e, _⟩ | ⟨g, cap, cur, e, _⟩
      · exact .inl e
      · exact .inr ⟨g, cap, e⟩
    · rcases h2.2 with ⟨e, _⟩ | ⟨g, cap, cur, e, _⟩
      · exact .inl e
      · exact .inr ⟨g, cap, e⟩
  · have k1 := h1
    have k2 := h2
    rcases h1.2 with ⟨_, e⟩ | ⟨g1, c1, cur1, rfl, _, _, a1, m1, _⟩
    · exact absurd e h0
    · rcases h2.2 with ⟨_, e⟩ | ⟨g2, c2, cur2, rfl, _, _, a2, m2, _⟩
      · exact absurd e h0
      · exact ranges_rows g1 g2 c1 c2 n l W hl hb a1 a2 m1 m2 (fun j hj => k1.cellAt j hj) (fun j hj => k2.cellAt j hj)

set_option maxRecDepth 100000 in
set_option maxHeartbeats 1000000 in
theorem rrounded_any (m : Md) (fx fz tx tz : Int) (w : World) (h : okM m) (hw : okW m fx fz tx tz) :
    Calls Try.prog 52 #[.agg #[.int .i64 m.Wedge, .int .i64 m.Metal, .int .i64 m.Skips, .int .i64 m.Thick], .agg #[.int .i64 fx, .int .i64 fz], .agg #[.int .i64 tx, .int .i64 tz]] w fun e w' => e = .returned (.int .i64 ((lsL (crM m fx fz tx tz) + lsH (crM m fx fz tx tz)) / 2)) ∧ Below w.heap.size w w' := by
  have K1 := Lib.hid (fun W => rleastTime_any m fx fz tx tz W h hw)
  have b := ls_bd2 (okC_of h hw)
  clear h hw
  generalize lsL (crM m fx fz tx tz) = a1 at *
  generalize lsH (crM m fx fz tx tz) = a2 at *
  have F := Lib.hid (fun W => floor_any (a1 + a2) 2 W (by omega) (by omega) (by omega) (by omega))
  go_enter Try.func52, Try.ntmps52
  go_wp2_with fail; (refine (K1.out _).mono ?_; rintro e w1 ⟨rfl, hw1⟩; obtain ⟨hcw1, hfw1, hlw1, hmw1, hnw1⟩ := bcell3 hw1; have hzw1 := hw1.size; (try simp only [World.size_alloc, World.size_setCell, World.size_drew, size_drewN] at hzw1))
  go_wp2_with (go_at_call 94; refine (F.out _).mono ?_; rintro e w' ⟨rfl, rfl⟩)
  go_ret
  exact ⟨rfl, by (repeat' (first | (with_reducible exact Below.refl _ _) | (with_reducible assumption) | (with_reducible refine Below.alloc ?_ ?_ _) | (with_reducible refine Below.drew ?_) | (with_reducible refine below_drewN ?_ _) | (with_reducible refine Below.setCell ?_ ?_ _) | (with_reducible refine below_step (by with_reducible assumption) ?_ ?_) | (with_reducible exact Below.size (by with_reducible assumption)) | go_size))⟩
/-- a way, flat -/
def wayV (m : Md) (fx fz tx tz : Int) : Value := .agg #[.int .i64 m.Wedge, .int .i64 m.Metal, .int .i64 m.Skips, .int .i64 m.Thick, .int .i64 fx, .int .i64 fz, .int .i64 tx, .int .i64 tz]
set_option maxRecDepth 100000 in
set_option maxHeartbeats 1000000 in
theorem lwayErr_any (m : Md) (fx fz tx tz : Int) (w : World) :
    Calls Try.prog 49 #[wayV m fx fz tx tz] w fun e w' => e = .returned (.int .i64 (gE m fx fz tx tz)) ∧ Below w.heap.size w w' := by
  have K1 := Lib.hid (fun W => rcheckMode_any m W)
  unfold wayV
  by_cases h : mE m = 0
  · have K2 := Lib.hid (fun W => rwayErr_any m fx fz tx tz W (mE_zero.1 h))
    have HE := Lib.hid (show gE m fx fz tx tz = wE m fx fz tx tz by unfold gE; rw [h]; simp only [frst, if_pos]; split <;> simp_all)
    rw [h] at K1
    clear h
    generalize wE m fx fz tx tz = g at *
    go_enter Try.func49, Try.ntmps49
    go_wp2_with fail; (refine (K1.out _).mono ?_; rintro e w1 ⟨rfl, hw1⟩; obtain ⟨hcw1, hfw1, hlw1, hmw1, hnw1⟩ := bcell3 hw1; have hzw1 := hw1.size; (try simp only [World.size_alloc, World.size_setCell, World.size_drew, size_drewN] at hzw1))
    have ca1_0 : w1.cell? ⟨w.heap.size, 0, none⟩ = some (.int .i64 (m.Wedge)) := (hcw1 (w.heap.size) (0) (by first | omega | (simp only [World.size_alloc, World.size_drew, World.size_setCell, size_drewN]; omega))).trans (by first | assumption | (simp [go_sem, *]; done)); have ca1_1 : w1.cell? ⟨w.heap.size, 1, none⟩ = some (.int .i64 (m.Metal)) := (hcw1 (w.heap.size) (1) (by first | omega | (simp only [World.size_alloc, World.size_drew, World.size_setCell, size_drewN]; omega))).trans (by first | assumption | (simp [go_sem, *]; done)); have ca1_2 : w1.cell? ⟨w.heap.size, 2, none⟩ = some (.int .i64 (m.Skips)) := (hcw1 (w.heap.size) (2) (by first | omega | (simp only [World.size_alloc, World.size_drew, World.size_setCell, size_drewN]; omega))).trans (by first | assumption | (simp [go_sem, *]; done)); have ca1_3 : w1.cell? ⟨w.heap.size, 3, none⟩ = some (.int .i64 (m.Thick)) := (hcw1 (w.heap.size) (3) (by first | omega | (simp only [World.size_alloc, World.size_drew, World.size_setCell, size_drewN]; omega))).trans (by first | assumption | (simp [go_sem, *]; done)); have ca1_4 : w1.cell? ⟨w.heap.size, 4, none⟩ = some (.int .i64 (fx)) := (hcw1 (w.heap.size) (4) (by first | omega | (simp only [World.size_alloc, World.size_drew, World.size_setCell, size_drewN]; omega))).trans (by first | assumption | (simp [go_sem, *]; done)); have ca1_5 : w1.cell? ⟨w.heap.size, 5, none⟩ = some (.int .i64 (fz)) := (hcw1 (w.heap.size) (5) (by first | omega | (simp only [World.size_alloc, World.size_drew, World.size_setCell, size_drewN]; omega))).trans (by first | assumption | (simp [go_sem, *]; done)); have ca1_6 : w1.cell? ⟨w.heap.size, 6, none⟩ = some (.int .i64 (tx)) := (hcw1 (w.heap.size) (6) (by first | omega | (simp only [World.size_alloc, World.size_drew, World.size_setCell, size_drewN]; omega))).trans (by first | assumption | (simp [go_sem, *]; done)); have ca1_7 : w1.cell? ⟨w.heap.size, 7, none⟩ = some (.int .i64 (tz)) := (hcw1 (w.heap.size) (7) (by first | omega | (simp only [World.size_alloc, World.size_drew, World.size_setCell, size_drewN]; omega))).trans (by first | assumption | (simp [go_sem, *]; done)); have oa1 : w.heap.size < w1.heap.size := (by omega)
    go_wp2_with fail; (refine (K2.out _).mono ?_; rintro e w2 ⟨rfl, hw2⟩; obtain ⟨hcw2, hfw2, hlw2, hmw2, hnw2⟩ := bcell3 hw2; have hzw2 := hw2.size; (try simp only [World.size_alloc, World.size_setCell, World.size_drew, size_drewN] at hzw2))
    have ca2_0 : w2.cell? ⟨w.heap.size, 0, none⟩ = some (.int .i64 (m.Wedge)) := (hcw2 (w.heap.size) (0) (by first | omega | (simp only [World.size_alloc, World.size_drew, World.size_setCell, size_drewN]; omega))).trans (by first | assumption | (simp [go_sem, *]; done)); have ca2_1 : w2.cell? ⟨w.heap.size, 1, none⟩ = some (.int .i64 (m.Metal)) := (hcw2 (w.heap.size) (1) (by first | omega | (simp only [World.size_alloc, World.size_drew, World.size_setCell, size_drewN]; omega))).trans (by first | assumption | (simp [go_sem, *]; done)); have ca2_2 : w2.cell? ⟨w.heap.size, 2, none⟩ = some (.int .i64 (m.Skips)) := (hcw2 (w.heap.size) (2) (by first | omega | (simp only [World.size_alloc, World.size_drew, World.size_setCell, size_drewN]; omega))).trans (by first | assumption | (simp [go_sem, *]; done)); have ca2_3 : w2.cell? ⟨w.heap.size, 3, none⟩ = some (.int .i64 (m.Thick)) := (hcw2 (w.heap.size) (3) (by first | omega | (simp only [World.size_alloc, World.size_drew, World.size_setCell, size_drewN]; omega))).trans (by first | assumption | (simp [go_sem, *]; done)); have ca2_4 : w2.cell? ⟨w.heap.size, 4, none⟩ = some (.int .i64 (fx)) := (hcw2 (w.heap.size) (4) (by first | omega | (simp only [World.size_alloc, World.size_drew, World.size_setCell, size_drewN]; omega))).trans (by first | assumption | (simp [go_sem, *]; done)); have ca2_5 : w2.cell? ⟨w.heap.size, 5, none⟩ = some (.int .i64 (fz)) := (hcw2 (w.heap.size) (5) (by first | omega | (simp only [World.size_alloc, World.size_drew, World.size_setCell, size_drewN]; omega))).trans (by first | assumption | (simp [go_sem, *]; done)); have ca2_6 : w2.cell? ⟨w.heap.size, 6, none⟩ = some (.int .i64 (tx)) := (hcw2 (w.heap.size) (6) (by first | omega | (simp only [World.size_alloc, World.size_drew, World.size_setCell, size_drewN]; omega))).trans (by first | assumption | (simp [go_sem, *]; done)); have ca2_7 : w2.cell? ⟨w.heap.size, 7, none⟩ = some (.int .i64 (tz)) := (hcw2 (w.heap.size) (7) (by first | omega | (simp only [World.size_alloc, World.size_drew, World.size_setCell, size_drewN]; omega))).trans (by first | assumption | (simp [go_sem, *]; done)); have oa2 : w.heap.size < w2.heap.size := (by omega)
    clear ca1_0 ca1_1 ca1_2 ca1_3 ca1_4 ca1_5 ca1_6 ca1_7
    go_wp2
    go_ret
    exact ⟨ri HE.out.symm, by (repeat' (first | (with_reducible exact Below.refl _ _) | (with_reducible assumption) | (with_reducible refine Below.alloc ?_ ?_ _) | (with_reducible refine Below.drew ?_) | (with_reducible refine below_drewN ?_ _) | (with_reducible refine Below.setCell ?_ ?_ _) | (with_reducible refine below_step (by with_reducible assumption) ?_ ?_) | (with_reducible exact Below.size (by with_reducible assumption)) | go_size))⟩
  · have HE := Lib.hid (show gE m fx fz tx tz = mE m by unfold gE; rw [frst, if_neg h])
    generalize mE m = g at *
    go_enter Try.func49, Try.ntmps49
    go_wp2_with fail; (refine (K1.out _).mono ?_; rintro e w1 ⟨rfl, hw1⟩; obtain ⟨hcw1, hfw1, hlw1, hmw1, hnw1⟩ := bcell3 hw1; have hzw1 := hw1.size; (try simp only [World.size_alloc, World.size_setCell, World.size_drew, size_drewN] at hzw1))
    have ca1_0 : w1.cell? ⟨w.heap.size, 0, none⟩ = some (.int .i64 (m.Wedge)) := (hcw1 (w.heap.size) (0) (by first | omega | (simp only [World.size_alloc, World.size_drew, World.size_setCell, size_drewN]; omega))).trans (by first | assumption | (simp [go_sem, *]; done)); have ca1_1 : w1.cell? ⟨w.heap.size, 1, none⟩ = some (.int .i64 (m.Metal)) := (hcw1 (w.heap.size) (1) (by first | omega | (simp only [World.size_alloc, World.size_drew, World.size_setCell, size_drewN]; omega))).trans (by first | assumption | (simp [go_sem, *]; done)); have ca1_2 : w1.cell? ⟨w.heap.size, 2, none⟩ = some (.int .i64 (m.Skips)) := (hcw1 (w.heap.size) (2) (by first | omega | (simp only [World.size_alloc, World.size_drew, World.size_setCell, size_drewN]; omega))).trans (by first | assumption | (simp [go_sem, *]; done)); have ca1_3 : w1.cell? ⟨w.heap.size, 3, none⟩ = some (.int .i64 (m.Thick)) := (hcw1 (w.heap.size) (3) (by first | omega | (simp only [World.size_alloc, World.size_drew, World.size_setCell, size_drewN]; omega))).trans (by first | assumption | (simp [go_sem, *]; done)); have ca1_4 : w1.cell? ⟨w.heap.size, 4, none⟩ = some (.int .i64 (fx)) := (hcw1 (w.heap.size) (4) (by first | omega | (simp only [World.size_alloc, World.size_drew, World.size_setCell, size_drewN]; omega))).trans (by first | assumption | (simp [go_sem, *]; done)); have ca1_5 : w1.cell? ⟨w.heap.size, 5, none⟩ = some (.int .i64 (fz)) := (hcw1 (w.heap.size) (5) (by first | omega | (simp only [World.size_alloc, World.size_drew, World.size_setCell, size_drewN]; omega))).trans (by first | assumption | (simp [go_sem, *]; done)); have ca1_6 : w1.cell? ⟨w.heap.size, 6, none⟩ = some (.int .i64 (tx)) := (hcw1 (w.heap.size) (6) (by first | omega | (simp only [World.size_alloc, World.size_drew, World.size_setCell, size_drewN]; omega))).trans (by first | assumption | (simp [go_sem, *]; done)); have ca1_7 : w1.cell? ⟨w.heap.size, 7, none⟩ = some (.int .i64 (tz)) := (hcw1 (w.heap.size) (7) (by first | omega | (simp only [World.size_alloc, World.size_drew, World.size_setCell, size_drewN]; omega))).trans (by first | assumption | (simp [go_sem, *]; done)); have oa1 : w.heap.size < w1.heap.size := (by omega)
    go_wp2
    go_ret
    exact ⟨ri HE.out.symm, by (repeat' (first | (with_reducible exact Below.refl _ _) | (with_reducible assumption) | (with_reducible refine Below.alloc ?_ ?_ _) | (with_reducible refine Below.drew ?_) | (with_reducible refine below_drewN ?_ _) | (with_reducible refine Below.setCell ?_ ?_ _) | (with_reducible refine below_step (by with_reducible assumption) ?_ ?_) | (with_reducible exact Below.size (by with_reducible assumption)) | go_size))⟩
end Go.Proofs.Ytpphnnbijmoodaa
