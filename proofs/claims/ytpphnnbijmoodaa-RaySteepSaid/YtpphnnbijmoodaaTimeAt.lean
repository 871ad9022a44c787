/-
  THE TIME AT A PLACE of a crossing, in package ray and in the reference.
-/
import Derived.Test.YtpphnnbijmoodaaPlace
import Derived.Test.YtpphnnbijmoodaaTime
set_option linter.unusedVariables false
set_option linter.unusedSimpArgs false
namespace Go.Proofs.Ytpphnnbijmoodaa
open Go.RowKit

/-- the time at a place, rounded down and up -/
def tL (x : Cr) (t : Int) : Int := tdn (lLo (t - x.X1) x.H1) x.V1 + tdn (lLo (x.X2 - t) x.H2) x.V2
def tH (x : Cr) (t : Int) : Int := tup (lHi (t - x.X1) x.H1) x.V1 + tup (lHi (x.X2 - t) x.H2) x.V2
theorem tup_bd {l v : Int} (hl : 0 ≤ l) (hl2 : l ≤ 300000001) (hv : 500 ≤ v) : 0 ≤ tup l v ∧ tup l v ≤ 6000000101 := by
  have := tdn_bd hl hl2 hv
  unfold tdn at this
  unfold tup cdiv
  generalize 10000 * l = n at *
  have e1 := Int.mul_ediv_add_emod n v
  have e2 := Int.emod_lt_of_pos n (show 0 < v by omega)
  have e3 := Int.mul_ediv_add_emod (-n) v
  have e4 := Int.emod_lt_of_pos (-n) (show 0 < v by omega)
  have e5 := Int.emod_nonneg n (show v ≠ 0 by omega)
  have e6 := Int.emod_nonneg (-n) (show v ≠ 0 by omega)
  generalize n / v = p at *
  generalize -n / v = q at *
  have h1 : v * (p + q) ≤ 0 := by grind
  have h2 : -(2 * v) < v * (p + q) := by grind
  have h3 : p + q ≤ 0 := by
    rcases Int.lt_or_le 0 (p + q) with h | h
    · have := Int.mul_pos (show 0 < v by omega) h; omega
    · exact h
  have h4 : -2 < p + q := by
    rcases Int.lt_or_le (-2) (p + q) with h | h
    · exact h
    · have : v * (p + q) ≤ v * (-2) := Int.mul_le_mul_of_nonneg_left h (by omega); omega
  omega
theorem time_bd {x : Cr} {t : Int} (h : okC x) (ht : inC x t) :
    (0 ≤ tdn (lLo (t - x.X1) x.H1) x.V1 ∧ tdn (lLo (t - x.X1) x.H1) x.V1 ≤ 6000000100) ∧ (0 ≤ tdn (lLo (x.X2 - t) x.H2) x.V2 ∧ tdn (lLo (x.X2 - t) x.H2) x.V2 ≤ 6000000100) ∧
    (0 ≤ tup (lHi (t - x.X1) x.H1) x.V1 ∧ tup (lHi (t - x.X1) x.H1) x.V1 ≤ 6000000101) ∧ (0 ≤ tup (lHi (x.X2 - t) x.H2) x.V2 ∧ tup (lHi (x.X2 - t) x.H2) x.V2 ≤ 6000000101) := by
  obtain ⟨h1, h2, h3, h4, h5, h6⟩ := h
  unfold inC at ht
  obtain ⟨s0, s1, s2, s3, s4, s5, -, -⟩ := len_spec (x := t - x.X1) (z := x.H1) (by omega) (by omega)
  obtain ⟨r0, r1, r2, r3, r4, r5, -, -⟩ := len_spec (x := x.X2 - t) (z := x.H2) (by omega) (by omega)
  exact ⟨tdn_bd (by omega) (by omega) (by omega), tdn_bd (by omega) (by omega) (by omega), tup_bd (by omega) (by omega) (by omega), tup_bd (by omega) (by omega) (by omega)⟩

set_option maxHeartbeats 400000 in
theorem added_any (a b c d : Int) (w : World) (ha : 0 ≤ a ∧ a ≤ 100000000000) (hb : 0 ≤ b ∧ b ≤ 100000000000) (hc : 0 ≤ c ∧ c ≤ 100000000000) (hd : 0 ≤ d ∧ d ≤ 100000000000) :
    Calls Try.prog 105 #[.agg #[.int .i64 a, .int .i64 b], .agg #[.int .i64 c, .int .i64 d]] w fun e w' => e = .returned (.agg #[.int .i64 (a + c), .int .i64 (b + d)]) ∧ Below w.heap.size w w' := by
  go_enter Try.func105, Try.ntmps105
  go_wp2
  go_returns
  exact ⟨rfl, by (repeat' (first | (with_reducible exact Below.refl _ _) | (with_reducible assumption) | (with_reducible refine Below.alloc ?_ ?_ _) | (with_reducible refine Below.drew ?_) | (with_reducible refine below_drewN ?_ _) | (with_reducible refine Below.setCell ?_ ?_ _) | (with_reducible refine below_step (by with_reducible assumption) ?_ ?_) | (with_reducible exact Below.size (by with_reducible assumption)) | go_size))⟩

/-- the times of both legs as legTime tells them -/
theorem leg1 (x : Cr) (t : Int) (w : World) (h : okC x) (ht : inC x t) :
    Calls Try.prog 81 #[.agg #[.int .i64 x.X1, .int .i64 x.H1], .agg #[.int .i64 t, .int .i64 0], .int .i64 x.V1] w fun e w' => e = .returned (.agg #[.int .i64 (tdn (lLo (t - x.X1) x.H1) x.V1), .int .i64 (tup (lHi (t - x.X1) x.H1) x.V1)]) ∧ Below w.heap.size w w' := by
  obtain ⟨h1, h2, h3, h4, h5, h6⟩ := h
  unfold inC at ht
  have := legTime_any x.X1 x.H1 t 0 x.V1 w (by simp [inB]; omega) (by simp [inB]; omega) (by simp [inB]; omega) (by simp [inB]) (by simp [inB]; omega)
  rw [show (0 : Int) - x.H1 = -x.H1 by omega, lLo_neg2, lHi_neg2] at this
  exact this
theorem leg2 (x : Cr) (t : Int) (w : World) (h : okC x) (ht : inC x t) :
    Calls Try.prog 81 #[.agg #[.int .i64 x.X2, .int .i64 x.H2], .agg #[.int .i64 t, .int .i64 0], .int .i64 x.V2] w fun e w' => e = .returned (.agg #[.int .i64 (tdn (lLo (x.X2 - t) x.H2) x.V2), .int .i64 (tup (lHi (x.X2 - t) x.H2) x.V2)]) ∧ Below w.heap.size w w' := by
  obtain ⟨h1, h2, h3, h4, h5, h6⟩ := h
  unfold inC at ht
  have := legTime_any x.X2 x.H2 t 0 x.V2 w (by simp [inB]; omega) (by simp [inB]; omega) (by simp [inB]; omega) (by simp [inB]) (by simp [inB]; omega)
  rw [show (0 : Int) - x.H2 = -x.H2 by omega, lLo_neg2, lHi_neg2, show t - x.X2 = -(x.X2 - t) by omega, lLo_neg, lHi_neg] at this
  exact this

set_option maxRecDepth 100000 in
set_option maxHeartbeats 1000000 in
theorem timeAt_any (x : Cr) (t : Int) (w : World) (h : okC x) (ht : inC x t) :
    Calls Try.prog 87 #[.agg #[.int .i64 x.X1, .int .i64 x.H1, .int .i64 x.V1, .int .i64 x.X2, .int .i64 x.H2, .int .i64 x.V2, .int .i64 (min x.X1 x.X2), .int .i64 (max x.X1 x.X2)], .int .i64 t] w fun e w' => e = .returned (.agg #[.int .i64 (tL x t), .int .i64 (tH x t)]) ∧ Below w.heap.size w w' := by
  have H := Lib.hid h
  have HT := Lib.hid ht
  obtain ⟨b1, b2, b3, b4⟩ := time_bd h ht
  clear h ht
  have HL := Lib.hid (show tL x t = tdn (lLo (t - x.X1) x.H1) x.V1 + tdn (lLo (x.X2 - t) x.H2) x.V2 from rfl)
  have HH := Lib.hid (show tH x t = tup (lHi (t - x.X1) x.H1) x.V1 + tup (lHi (x.X2 - t) x.H2) x.V2 from rfl)
  have K1 := Lib.hid (fun W => leg1 x t W H.out HT.out)
  have K2 := Lib.hid (fun W => leg2 x t W H.out HT.out)
  generalize tdn (lLo (t - x.X1) x.H1) x.V1 = p1 at *
  generalize tdn (lLo (x.X2 - t) x.H2) x.V2 = p2 at *
  generalize tup (lHi (t - x.X1) x.H1) x.V1 = q1 at *
  generalize tup (lHi (x.X2 - t) x.H2) x.V2 = q2 at *
  go_enter Try.func87, Try.ntmps87
  go_wp2_with fail
  refine (K1.out _).mono ?_
  rintro e w1 ⟨rfl, hw1⟩
  obtain ⟨hcw1, hfw1⟩ := bcell hw1
  have hzw1 := hw1.size
  simp only [World.size_alloc] at hzw1
  have o1 : w.heap.size < w1.heap.size := by omega
  have o2 : w.heap.size + 1 < w1.heap.size := by omega
  have o3 : w.heap.size + 1 + 1 < w1.heap.size := by omega
  go_wp2_with fail
  refine (K2.out _).mono ?_
  rintro e w2 ⟨rfl, hw2⟩
  obtain ⟨hcw2, hfw2⟩ := bcell hw2
  have hzw2 := hw2.size
  simp only [World.size_alloc] at hzw2
  have o4 : w.heap.size < w2.heap.size := by omega
  have o5 : w.heap.size + 1 < w2.heap.size := by omega
  have o6 : w.heap.size + 1 + 1 < w2.heap.size := by omega
  have o7 : w1.heap.size < w2.heap.size := by omega
  go_wp2_with fail
  refine (added_any p1 q1 p2 q2 _ (by omega) (by omega) (by omega) (by omega)).mono ?_
  rintro e w3 ⟨rfl, hw3⟩
  have hzw3 := hw3.size
  simp only [World.size_alloc] at hzw3
  have o8 : w.heap.size < w3.heap.size := by omega
  have o9 : w.heap.size + 1 < w3.heap.size := by omega
  obtain ⟨hcw3, hfw3⟩ := bcell hw3
  go_wp2
  refine bodyPost_ret (by simp [results, Try.results87, go_sem, *]; rfl) rfl ?_
  exact ⟨by rw [HL.out, HH.out], by (repeat' (first | (with_reducible exact Below.refl _ _) | (with_reducible assumption) | (with_reducible refine Below.alloc ?_ ?_ _) | (with_reducible refine Below.drew ?_) | (with_reducible refine below_drewN ?_ _) | (with_reducible refine Below.setCell ?_ ?_ _) | (with_reducible refine below_step (by with_reducible assumption) ?_ ?_) | (with_reducible exact Below.size (by with_reducible assumption)) | go_size))⟩
end Go.Proofs.Ytpphnnbijmoodaa
