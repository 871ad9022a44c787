/-
  STEEP: the reference's LimitErr, IsLowest, Cmp.
-/
import Derived.Test.YtpphnnbijmoodaaSteep
set_option linter.unusedVariables false
set_option linter.unusedSimpArgs false
namespace Go.Proofs.Ytpphnnbijmoodaa
open Go.RowKit

def lowB (n d : Int) : Bool := decide (0 < d) && (gcdR n d == 1)
set_option maxRecDepth 100000 in
set_option maxHeartbeats 1000000 in
theorem isLowest_any (n d : Int) (w : World) (hn : in64 n) (hd : in64 d) :
    Calls Try.prog 131 #[.agg #[.int .i64 n, .int .i64 d]] w fun e w' => e = .returned (.bool (lowB n d)) ∧ Below w.heap.size w w' := by
  have HE : lowB n d = (decide (0 < d) && (gcdR n d == 1)) := rfl
  have K := Lib.hid (fun W => bgcd_any n d W hn hd)
  clear hn hd
  generalize gcdR n d = g at *
  by_cases c : 0 < d
  · rw [decide_eq_true c, Bool.true_and] at HE
    have HE := Lib.hid HE
    go_enter Try.func131, Try.ntmps131
    go_wp2_with fail; (refine (K.out _).mono ?_; rintro e w1 ⟨rfl, hw1⟩; obtain ⟨hcw1, hfw1, hlw1, hmw1, hnw1⟩ := bcell3 hw1; have hzw1 := hw1.size; (try simp only [World.size_alloc, World.size_setCell, World.size_drew, size_drewN] at hzw1))
    go_wp2
    go_ret
    exact ⟨by rw [HE.out]; rfl, by (repeat' (first | (with_reducible exact Below.refl _ _) | (with_reducible assumption) | (with_reducible refine Below.alloc ?_ ?_ _) | (with_reducible refine Below.drew ?_) | (with_reducible refine below_drewN ?_ _) | (with_reducible refine Below.setCell ?_ ?_ _) | (with_reducible refine below_step (by with_reducible assumption) ?_ ?_) | (with_reducible exact Below.size (by with_reducible assumption)) | go_size))⟩
  · rw [decide_eq_false c, Bool.false_and] at HE
    have HE := Lib.hid HE
    have c2 : decide (0 < d) = false := decide_eq_false c
    go_enter Try.func131, Try.ntmps131
    go_wp2
    go_ret
    exact ⟨rfl, by (repeat' (first | (with_reducible exact Below.refl _ _) | (with_reducible assumption) | (with_reducible refine Below.alloc ?_ ?_ _) | (with_reducible refine Below.drew ?_) | (with_reducible refine below_drewN ?_ _) | (with_reducible refine Below.setCell ?_ ?_ _) | (with_reducible refine below_step (by with_reducible assumption) ?_ ?_) | (with_reducible exact Below.size (by with_reducible assumption)) | go_size))⟩
theorem fE_low {n d : Int} (h : lowB n d = false) : fE n d = 3 := by
  have : (decide (0 < d) && decide (gcdR n d = 1)) = false := h
  unfold fE
  rw [this]; rfl
theorem fE_neg {n d : Int} (h : lowB n d = true) (hn : n < 0) : fE n d = 2 := by
  have : (decide (0 < d) && decide (gcdR n d = 1)) = true := h
  unfold fE
  rw [this]
  have h2 : inB n 0 1000000000 = false := by unfold inB; exact decide_eq_false (by omega)
  rw [h2]; rfl
theorem fE_rest {n d : Int} (h : lowB n d = true) (hn : ¬ n < 0) : fE n d = if (inB n (-1000000000) 1000000000 && inB d 1 1000000000) = true then 0 else 2 := by
  have : (decide (0 < d) && decide (gcdR n d = 1)) = true := h
  unfold fE
  rw [this]
  have h2 : inB n 0 1000000000 = inB n (-1000000000) 1000000000 := by unfold inB; congr 1; simp; omega
  rw [h2]
  cases inB n (-1000000000) 1000000000 <;> cases inB d 1 1000000000 <;> rfl
set_option maxRecDepth 100000 in
set_option maxHeartbeats 1000000 in
theorem limitErr_any (n d : Int) (w : World) (hn : in64 n) (hd : in64 d) :
    Calls Try.prog 116 #[.agg #[.int .i64 n, .int .i64 d]] w fun e w' => e = .returned (.int .i64 (fE n d)) ∧ Below w.heap.size w w' := by
  have K : ∀ W, _ := fun W => isLowest_any n d W hn hd
  clear hn hd
  cases hl : lowB n d
  · have HE := Lib.hid (fE_low hl)
    rw [hl] at K
    have K := Lib.hid K
    clear hl
    go_enter Try.func116, Try.ntmps116
    go_wp2_with fail; (refine (K.out _).mono ?_; rintro e w1 ⟨rfl, hw1⟩; obtain ⟨hcw1, hfw1, hlw1, hmw1, hnw1⟩ := bcell3 hw1; have hzw1 := hw1.size; (try simp only [World.size_alloc, World.size_setCell, World.size_drew, size_drewN] at hzw1))
    go_wp2
    go_ret
    exact ⟨ri HE.out.symm, by (repeat' (first | (with_reducible exact Below.refl _ _) | (with_reducible assumption) | (with_reducible refine Below.alloc ?_ ?_ _) | (with_reducible refine Below.drew ?_) | (with_reducible refine below_drewN ?_ _) | (with_reducible refine Below.setCell ?_ ?_ _) | (with_reducible refine below_step (by with_reducible assumption) ?_ ?_) | (with_reducible exact Below.size (by with_reducible assumption)) | go_size))⟩
  · rw [hl] at K
    have K := Lib.hid K
    by_cases h0 : n < 0
    · have HE := Lib.hid (fE_neg hl h0)
      clear hl
      go_enter Try.func116, Try.ntmps116
      go_wp2_with fail; (refine (K.out _).mono ?_; rintro e w1 ⟨rfl, hw1⟩; obtain ⟨hcw1, hfw1, hlw1, hmw1, hnw1⟩ := bcell3 hw1; have hzw1 := hw1.size; (try simp only [World.size_alloc, World.size_setCell, World.size_drew, size_drewN] at hzw1))
      have ca1_0 : w1.cell? ⟨w.heap.size, 0, none⟩ = some (.int .i64 (n)) := (hcw1 (w.heap.size) (0) (by first | omega | (simp only [World.size_alloc, World.size_drew, World.size_setCell, size_drewN]; omega))).trans (by first | assumption | (simp [go_sem, *]; done)); have ca1_1 : w1.cell? ⟨w.heap.size, 1, none⟩ = some (.int .i64 (d)) := (hcw1 (w.heap.size) (1) (by first | omega | (simp only [World.size_alloc, World.size_drew, World.size_setCell, size_drewN]; omega))).trans (by first | assumption | (simp [go_sem, *]; done)); have oa1 : w.heap.size < w1.heap.size := (by omega)
      go_wp2
      go_ret
      exact ⟨ri HE.out.symm, by (repeat' (first | (with_reducible exact Below.refl _ _) | (with_reducible assumption) | (with_reducible refine Below.alloc ?_ ?_ _) | (with_reducible refine Below.drew ?_) | (with_reducible refine below_drewN ?_ _) | (with_reducible refine Below.setCell ?_ ?_ _) | (with_reducible refine below_step (by with_reducible assumption) ?_ ?_) | (with_reducible exact Below.size (by with_reducible assumption)) | go_size))⟩
    · have HE := fE_rest hl h0
      clear hl
      have K2 : ∀ W, _ := fun W => isSmall_any n d W
      cases hs : (inB n (-1000000000) 1000000000 && inB d 1 1000000000)
      all_goals
        rw [hs] at HE K2
        have HE := Lib.hid HE
        have K2 := Lib.hid K2
        clear hs
        go_enter Try.func116, Try.ntmps116
        go_wp2_with fail; (refine (K.out _).mono ?_; rintro e w1 ⟨rfl, hw1⟩; obtain ⟨hcw1, hfw1, hlw1, hmw1, hnw1⟩ := bcell3 hw1; have hzw1 := hw1.size; (try simp only [World.size_alloc, World.size_setCell, World.size_drew, size_drewN] at hzw1))
        have ca1_0 : w1.cell? ⟨w.heap.size, 0, none⟩ = some (.int .i64 (n)) := (hcw1 (w.heap.size) (0) (by first | omega | (simp only [World.size_alloc, World.size_drew, World.size_setCell, size_drewN]; omega))).trans (by first | assumption | (simp [go_sem, *]; done)); have ca1_1 : w1.cell? ⟨w.heap.size, 1, none⟩ = some (.int .i64 (d)) := (hcw1 (w.heap.size) (1) (by first | omega | (simp only [World.size_alloc, World.size_drew, World.size_setCell, size_drewN]; omega))).trans (by first | assumption | (simp [go_sem, *]; done)); have oa1 : w.heap.size < w1.heap.size := (by omega)
        go_wp2_with fail; (refine (K2.out _).mono ?_; rintro e w2 ⟨rfl, hw2⟩; obtain ⟨hcw2, hfw2, hlw2, hmw2, hnw2⟩ := bcell3 hw2; have hzw2 := hw2.size; (try simp only [World.size_alloc, World.size_setCell, World.size_drew, size_drewN] at hzw2))
        have ca2_0 : w2.cell? ⟨w.heap.size, 0, none⟩ = some (.int .i64 (n)) := (hcw2 (w.heap.size) (0) (by first | omega | (simp only [World.size_alloc, World.size_drew, World.size_setCell, size_drewN]; omega))).trans (by first | assumption | (simp [go_sem, *]; done)); have ca2_1 : w2.cell? ⟨w.heap.size, 1, none⟩ = some (.int .i64 (d)) := (hcw2 (w.heap.size) (1) (by first | omega | (simp only [World.size_alloc, World.size_drew, World.size_setCell, size_drewN]; omega))).trans (by first | assumption | (simp [go_sem, *]; done)); have oa2 : w.heap.size < w2.heap.size := (by omega)
        clear ca1_0 ca1_1
        go_wp2
        go_ret
        exact ⟨ri (by rw [HE.out]; rfl), by (repeat' (first | (with_reducible exact Below.refl _ _) | (with_reducible assumption) | (with_reducible refine Below.alloc ?_ ?_ _) | (with_reducible refine Below.drew ?_) | (with_reducible refine below_drewN ?_ _) | (with_reducible refine Below.setCell ?_ ?_ _) | (with_reducible refine below_step (by with_reducible assumption) ?_ ?_) | (with_reducible exact Below.size (by with_reducible assumption)) | go_size))⟩

/-- two small fractions compared -/
def cmpV (x y : Int) : Int := if x < y then -1 else if y < x then 1 else 0
set_option maxRecDepth 100000 in
set_option maxHeartbeats 1000000 in
theorem bcmp_any (n d m k : Int) (w : World) (h : (0 ≤ n ∧ n ≤ 1000000000) ∧ (0 ≤ d ∧ d ≤ 1000000000)) (h2 : (0 ≤ m ∧ m ≤ 1000000000) ∧ (0 ≤ k ∧ k ≤ 1000000000)) :
    Calls Try.prog 117 #[.agg #[.int .i64 n, .int .i64 d], .agg #[.int .i64 m, .int .i64 k]] w fun e w' => e = .returned (.int .i64 (cmpV (n * k) (m * d))) ∧ Below w.heap.size w w' := by
  have p1 := prod_bd (a := n) (b := k) (A := 1000000000) (B := 1000000000) (by omega) (by omega) (by omega) (by omega)
  have p2 := prod_bd (a := m) (b := d) (A := 1000000000) (B := 1000000000) (by omega) (by omega) (by omega) (by omega)
  have wr1 : IntKind.i64.wrap (n * k) = n * k := IntWalk.i64_in _ (by omega)
  have wr2 : IntKind.i64.wrap (m * d) = m * d := IntWalk.i64_in _ (by omega)
  have start : (n * k < m * d ∧ cmpV (n * k) (m * d) = -1) ∨ (¬ n * k < m * d ∧ m * d < n * k ∧ cmpV (n * k) (m * d) = 1) ∨ (¬ n * k < m * d ∧ ¬ m * d < n * k ∧ cmpV (n * k) (m * d) = 0) := by
    unfold cmpV
    split
    · exact .inl ⟨by assumption, rfl⟩
    · split
      · exact .inr (.inl ⟨by assumption, by assumption, rfl⟩)
      · exact .inr (.inr ⟨by assumption, by assumption, rfl⟩)
  rcases start with ⟨c1, c3⟩ | ⟨c1, c2, c3⟩ | ⟨c1, c2, c3⟩
  all_goals
    have HC := Lib.hid c3
    clear c3 p1 p2 h h2
    go_enter Try.func117, Try.ntmps117
    go_wp2
    go_quiet (fail)
    go_wp2
    go_ret
    exact ⟨ri HC.out.symm, by (repeat' (first | (with_reducible exact Below.refl _ _) | (with_reducible assumption) | (with_reducible refine Below.alloc ?_ ?_ _) | (with_reducible refine Below.drew ?_) | (with_reducible refine below_drewN ?_ _) | (with_reducible refine Below.setCell ?_ ?_ _) | (with_reducible refine below_step (by with_reducible assumption) ?_ ?_) | (with_reducible exact Below.size (by with_reducible assumption)) | go_size))⟩
end Go.Proofs.Ytpphnnbijmoodaa
