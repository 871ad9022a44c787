/-
  THE SLOPE's CONTRACTS: of package ray's crossing, and of the reference.
-/
import Derived.Test.YtpphnnbijmoodaaSlope
import Derived.Deep.RegionHeld3
set_option linter.unusedVariables false
set_option linter.unusedSimpArgs false
namespace Go.Proofs.Ytpphnnbijmoodaa
open Go.RowKit

set_option maxHeartbeats 400000 in
theorem crossingOf_any (x : Cr) (w : World) :
    Calls Try.prog 85 #[.agg #[.int .i64 x.X1, .int .i64 x.H1, .int .i64 x.V1, .int .i64 x.X2, .int .i64 x.H2, .int .i64 x.V2]] w fun e w' => e = .returned (.agg #[.int .i64 x.X1, .int .i64 x.H1, .int .i64 x.V1, .int .i64 x.X2, .int .i64 x.H2, .int .i64 x.V2, .int .i64 (min x.X1 x.X2), .int .i64 (max x.X1 x.X2)]) ∧ Below w.heap.size w w' := by
  go_enter Try.func85, Try.ntmps85
  go_wp2
  go_returns
  exact ⟨rfl, by (repeat' (first | (with_reducible exact Below.refl _ _) | (with_reducible assumption) | (with_reducible refine Below.alloc ?_ ?_ _) | (with_reducible refine Below.drew ?_) | (with_reducible refine below_drewN ?_ _) | (with_reducible refine Below.setCell ?_ ?_ _) | (with_reducible refine below_step (by with_reducible assumption) ?_ ?_) | (with_reducible exact Below.size (by with_reducible assumption)) | go_size))⟩

theorem is_any (x : Cr) (t : Int) (w : World) :
    Calls Try.prog 31 #[.agg #[.int .i64 x.X1, .int .i64 x.H1, .int .i64 x.V1, .int .i64 x.X2, .int .i64 x.H2, .int .i64 x.V2], .int .i64 t] w fun e w' => e = .returned (.bool (inB t (min x.X1 x.X2) (max x.X1 x.X2))) ∧ Below w.heap.size w w' := by
  go_enter Try.func31, Try.ntmps31
  go_wp2_with (go_at_call 40; refine (bwithin_any _ _ _ _).mono ?_; rintro e w' ⟨rfl, rfl⟩)
  go_ret
  exact ⟨rfl, by (repeat' (first | (with_reducible exact Below.refl _ _) | (with_reducible assumption) | (with_reducible refine Below.alloc ?_ ?_ _) | (with_reducible refine Below.drew ?_) | (with_reducible refine below_drewN ?_ _) | (with_reducible refine Below.setCell ?_ ?_ _) | (with_reducible refine below_step (by with_reducible assumption) ?_ ?_) | (with_reducible exact Below.size (by with_reducible assumption)) | go_size))⟩

/-- the sizes of all that the slope multiplies -/
theorem slope_bd {x : Cr} {t : Int} (h : okC x) (ht : inC x t) :
    (-200000 ≤ t - x.X1 ∧ t - x.X1 ≤ 200000 ∧ -200000 ≤ x.X2 - t ∧ x.X2 - t ≤ 200000) ∧
    (0 ≤ (t - x.X1) * (t - x.X1) ∧ (t - x.X1) * (t - x.X1) ≤ 40000000000 ∧ 0 ≤ (x.X2 - t) * (x.X2 - t) ∧ (x.X2 - t) * (x.X2 - t) ≤ 40000000000) ∧
    (0 ≤ x.V1 * x.V1 ∧ x.V1 * x.V1 ≤ 100000000 ∧ 0 ≤ x.V2 * x.V2 ∧ x.V2 * x.V2 ≤ 100000000) ∧
    (1 ≤ x.H1 * x.H1 ∧ x.H1 * x.H1 ≤ 10000000000 ∧ 1 ≤ x.H2 * x.H2 ∧ x.H2 * x.H2 ≤ 10000000000) ∧
    (0 ≤ x.V2 * x.V2 * ((x.X2 - t) * (x.X2 - t) + x.H2 * x.H2) ∧ x.V2 * x.V2 * ((x.X2 - t) * (x.X2 - t) + x.H2 * x.H2) ≤ 5000000000000000000) ∧
    (0 ≤ x.V1 * x.V1 * ((t - x.X1) * (t - x.X1) + x.H1 * x.H1) ∧ x.V1 * x.V1 * ((t - x.X1) * (t - x.X1) + x.H1 * x.H1) ≤ 5000000000000000000) := by
  obtain ⟨h1, h2, h3, h4, h5, h6⟩ := h
  unfold inC at ht
  have a0 : -200000 ≤ t - x.X1 ∧ t - x.X1 ≤ 200000 ∧ -200000 ≤ x.X2 - t ∧ x.X2 - t ≤ 200000 := by omega
  obtain ⟨b0, b1, b2, b3⟩ := sqm_bd (x := t - x.X1) (z := x.X2 - t) (by omega) (by omega)
  have c1 := prod_bd (a := x.V1) (b := x.V1) (A := 10000) (B := 10000) (by omega) (by omega) (by omega) (by omega)
  have c2 := prod_bd (a := x.V2) (b := x.V2) (A := 10000) (B := 10000) (by omega) (by omega) (by omega) (by omega)
  have d1 := prod_bd (a := x.H1) (b := x.H1) (A := 100000) (B := 100000) (by omega) (by omega) (by omega) (by omega)
  have d2 := prod_bd (a := x.H2) (b := x.H2) (A := 100000) (B := 100000) (by omega) (by omega) (by omega) (by omega)
  have d3 : 1 * 1 ≤ x.H1 * x.H1 := sq_mono (by omega) (by omega)
  have d4 : 1 * 1 ≤ x.H2 * x.H2 := sq_mono (by omega) (by omega)
  have e1 := prod_bd (a := x.V2 * x.V2) (b := (x.X2 - t) * (x.X2 - t) + x.H2 * x.H2) (A := 100000000) (B := 50000000000) (by omega) (by omega) (by omega) (by omega)
  have e2 := prod_bd (a := x.V1 * x.V1) (b := (t - x.X1) * (t - x.X1) + x.H1 * x.H1) (A := 100000000) (B := 50000000000) (by omega) (by omega) (by omega) (by omega)
  refine ⟨a0, ⟨b0, b1, b2, b3⟩, ⟨c1.1, by omega, c2.1, by omega⟩, ⟨by omega, by omega, by omega, by omega⟩, ⟨e1.1, by omega⟩, ⟨e2.1, by omega⟩⟩

set_option maxRecDepth 100000 in
set_option maxHeartbeats 1000000 in
theorem slope_any (x : Cr) (t : Int) (w : World) (h : okC x) (ht : inC x t) :
    Calls Try.prog 86 #[.agg #[.int .i64 x.X1, .int .i64 x.H1, .int .i64 x.V1, .int .i64 x.X2, .int .i64 x.H2, .int .i64 x.V2, .int .i64 (min x.X1 x.X2), .int .i64 (max x.X1 x.X2)], .int .i64 t] w fun e w' => e = .returned (.int .i64 (slp x t)) ∧ Below w.heap.size w w' := by
  obtain ⟨⟨a1, a2, a3, a4⟩, ⟨b1, b2, b3, b4⟩, ⟨c1, c2, c3, c4⟩, ⟨d1, d2, d3, d4⟩, ⟨e1, e2⟩, ⟨f1, f2⟩⟩ := slope_bd h ht
  obtain ⟨⟨g1, g2⟩, ⟨g3, g4⟩, -⟩ := h
  clear ht
  have hc : slpC x t = (t - x.X1) * (t - x.X1) * (x.V2 * x.V2 * ((x.X2 - t) * (x.X2 - t) + x.H2 * x.H2)) - (x.X2 - t) * (x.X2 - t) * (x.V1 * x.V1 * ((t - x.X1) * (t - x.X1) + x.H1 * x.H1)) := rfl
  have Hc := Lib.hid hc
  have hb := sgn_bd (slpC x t)
  clear hc
  by_cases hx : x.X2 < x.X1
  all_goals
    have Hs : Hid (slp x t = _) := Lib.hid (by unfold slp; first | rw [if_pos hx] | rw [if_neg hx])
    go_enter Try.func86, Try.ntmps86
    go_wp2
    go_quiet (fail)
    go_wp2_with (go_at_call 122; refine (products_any _ _ _ _ _ (by omega) (by omega) (by omega) (by omega) (by omega) (by omega) (by omega) (by omega)).mono ?_; rw [← Hc.out]; rintro e w1 ⟨rfl, hw1⟩; obtain ⟨hcw1, hfw1⟩ := bcell hw1)
    go_ret
    exact ⟨ri Hs.out.symm, by (repeat' (first | (with_reducible exact Below.refl _ _) | (with_reducible assumption) | (with_reducible refine Below.alloc ?_ ?_ _) | (with_reducible refine Below.drew ?_) | (with_reducible refine below_drewN ?_ _) | (with_reducible refine Below.setCell ?_ ?_ _) | (with_reducible refine below_step (by with_reducible assumption) ?_ ?_) | (with_reducible exact Below.size (by with_reducible assumption)) | go_size))⟩

theorem slpC_ref (x : Cr) (t : Int) : (t - x.X1) * (t - x.X1) * x.V2 * x.V2 * ((x.X2 - t) * (x.X2 - t) + x.H2 * x.H2) - (x.X2 - t) * (x.X2 - t) * x.V1 * x.V1 * ((t - x.X1) * (t - x.X1) + x.H1 * x.H1) = slpC x t := by
  unfold slpC; grind
theorem sq_pos {a : Int} (h : a ≠ 0) : 0 < a * a := by
  have := sq_nonneg a
  rcases Int.lt_trichotomy (a * a) 0 with h1 | h1 | h1
  · omega
  · rcases Int.mul_eq_zero.1 h1 with h2 | h2 <;> exact absurd h2 h
  · exact h1
theorem slp_edge {x : Cr} {t : Int} (h : okC x) (ht : inC x t) (h0 : t - x.X1 = 0 ∨ x.X2 - t = 0) : sgn (sgn (t - x.X1) - sgn (x.X2 - t)) = slp x t := by
  obtain ⟨⟨a1, a2, a3, a4⟩, ⟨b1, b2, b3, b4⟩, ⟨c1, c2, c3, c4⟩, ⟨d1, d2, d3, d4⟩, ⟨e1, e2⟩, ⟨f1, f2⟩⟩ := slope_bd h ht
  obtain ⟨-, -, -, -, v1, v2⟩ := h
  unfold inC at ht
  have w1 : 0 < x.V1 * x.V1 * ((t - x.X1) * (t - x.X1) + x.H1 * x.H1) := Int.mul_pos (Int.mul_pos (by omega) (by omega)) (by omega)
  have w2 : 0 < x.V2 * x.V2 * ((x.X2 - t) * (x.X2 - t) + x.H2 * x.H2) := Int.mul_pos (Int.mul_pos (by omega) (by omega)) (by omega)
  unfold slp slpC
  rcases h0 with h0 | h0
  · rw [h0] at w1 ⊢
    by_cases hb : x.X2 - t = 0
    · rw [hb, if_neg (by omega)]; simp [sgn]
    · have k : 0 < (x.X2 - t) * (x.X2 - t) * (x.V1 * x.V1 * (0 * 0 + x.H1 * x.H1)) := Int.mul_pos (sq_pos hb) w1
      rw [sgn_neg (n := _ - _ * _) (by omega)]
      split
      · rw [sgn_neg (n := x.X2 - t) (by omega)]; rfl
      · rw [sgn_pos (n := x.X2 - t) (by omega)]; rfl
  · rw [h0] at w2 ⊢
    by_cases hb : t - x.X1 = 0
    · rw [hb, if_neg (by omega)]; simp [sgn]
    · have k : 0 < (t - x.X1) * (t - x.X1) * (x.V2 * x.V2 * (0 * 0 + x.H2 * x.H2)) := Int.mul_pos (sq_pos hb) w2
      rw [sgn_pos (n := _ * _ - _) (by omega)]
      split
      · rw [sgn_neg (n := t - x.X1) (by omega)]; rfl
      · rw [sgn_pos (n := t - x.X1) (by omega)]; rfl

set_option maxRecDepth 100000 in
set_option maxHeartbeats 1000000 in
theorem rslope_any (x : Cr) (t : Int) (w : World) (h : okC x) (ht : inC x t) :
    Calls Try.prog 32 #[.agg #[.int .i64 x.X1, .int .i64 x.H1, .int .i64 x.V1, .int .i64 x.X2, .int .i64 x.H2, .int .i64 x.V2], .int .i64 t] w fun e w' => e = .returned (.int .i64 (slp x t)) ∧ Below w.heap.size w w' := by
  obtain ⟨⟨a1, a2, a3, a4⟩, ⟨b1, b2, b3, b4⟩, ⟨c1, c2, c3, c4⟩, ⟨d1, d2, d3, d4⟩, ⟨e1, e2⟩, ⟨f1, f2⟩⟩ := slope_bd h ht
  have hE := slp_edge h ht
  obtain ⟨⟨g1, g2⟩, ⟨g3, g4⟩, -, -, ⟨v1, v2⟩, ⟨v3, v4⟩⟩ := h
  unfold inC at ht
  have k1 := prod_bd (a := (t - x.X1) * (t - x.X1)) (b := x.V2) (A := 40000000000) (B := 10000) (by omega) (by omega) (by omega) (by omega)
  have k2 := prod_bd (a := (t - x.X1) * (t - x.X1) * x.V2) (b := x.V2) (A := 400000000000000) (B := 10000) (by omega) (by omega) (by omega) (by omega)
  have k3 := prod_bd (a := (x.X2 - t) * (x.X2 - t)) (b := x.V1) (A := 40000000000) (B := 10000) (by omega) (by omega) (by omega) (by omega)
  have k4 := prod_bd (a := (x.X2 - t) * (x.X2 - t) * x.V1) (b := x.V1) (A := 400000000000000) (B := 10000) (by omega) (by omega) (by omega) (by omega)
  have s1 := sgn_bd (t - x.X1)
  have s2 := sgn_bd (x.X2 - t)
  have s3 := sgn_bd (slpC x t)
  have Hr := Lib.hid (slpC_ref x t)
  by_cases z1 : t - x.X1 = 0
  · have HE := Lib.hid (hE (.inl z1))
    have t1 : ((t - x.X1) == 0) = true := by simp [z1]
    have ht' : min x.X1 x.X2 ≤ t := ht.1
    clear hE ht z1
    go_enter Try.func32, Try.ntmps32
    go_wp2
    go_quiet (fail)
    go_wp2_with (go_at_call 91; refine (sign_any _ _).mono ?_; rintro e w' ⟨rfl, rfl⟩)
    go_ret
    exact ⟨ri HE.out, by (repeat' (first | (with_reducible exact Below.refl _ _) | (with_reducible assumption) | (with_reducible refine Below.alloc ?_ ?_ _) | (with_reducible refine Below.drew ?_) | (with_reducible refine below_drewN ?_ _) | (with_reducible refine Below.setCell ?_ ?_ _) | (with_reducible refine below_step (by with_reducible assumption) ?_ ?_) | (with_reducible exact Below.size (by with_reducible assumption)) | go_size))⟩
  · by_cases z2 : x.X2 - t = 0
    · have HE := Lib.hid (hE (.inr z2))
      have t1 : ((t - x.X1) == 0) = false := by simp [z1]
      have t2 : ((x.X2 - t) == 0) = true := by simp [z2]
      clear hE ht z1 z2
      go_enter Try.func32, Try.ntmps32
      go_wp2
      go_quiet (fail)
      go_wp2_with (go_at_call 91; refine (sign_any _ _).mono ?_; rintro e w' ⟨rfl, rfl⟩)
      go_ret
      exact ⟨ri HE.out, by (repeat' (first | (with_reducible exact Below.refl _ _) | (with_reducible assumption) | (with_reducible refine Below.alloc ?_ ?_ _) | (with_reducible refine Below.drew ?_) | (with_reducible refine below_drewN ?_ _) | (with_reducible refine Below.setCell ?_ ?_ _) | (with_reducible refine below_step (by with_reducible assumption) ?_ ?_) | (with_reducible exact Below.size (by with_reducible assumption)) | go_size))⟩
    · have t1 : ((t - x.X1) == 0) = false := by simp [z1]
      have t2 : ((x.X2 - t) == 0) = false := by simp [z2]
      clear hE
      by_cases hx : x.X2 < x.X1
      · have HS := Lib.hid (show slp x t = -(sgn (slpC x t)) by unfold slp; rw [if_pos hx])
        have t3 : sgn (t - x.X1) + sgn (x.X2 - t) < 0 := by rw [sgn_neg (n := t - x.X1) (by omega), sgn_neg (n := x.X2 - t) (by omega)]; omega
        clear ht z1 z2 hx
        go_enter Try.func32, Try.ntmps32
        go_wp2
        go_quiet (fail)
        go_wp2_with (first | (go_at_call 91; refine (sign_any _ _).mono ?_; rintro e w' ⟨rfl, rfl⟩) | (go_at_call 71; refine (bcompare_any _ _ _ _ _ ⟨by omega, by omega⟩ ⟨by omega, by omega⟩ ⟨by omega, by omega⟩ ⟨by omega, by omega⟩).mono ?_; rw [Hr.out]; rintro e w' ⟨rfl, rfl⟩))
        go_ret
        exact ⟨ri HS.out.symm, by (repeat' (first | (with_reducible exact Below.refl _ _) | (with_reducible assumption) | (with_reducible refine Below.alloc ?_ ?_ _) | (with_reducible refine Below.drew ?_) | (with_reducible refine below_drewN ?_ _) | (with_reducible refine Below.setCell ?_ ?_ _) | (with_reducible refine below_step (by with_reducible assumption) ?_ ?_) | (with_reducible exact Below.size (by with_reducible assumption)) | go_size))⟩
      · have HS := Lib.hid (show slp x t = sgn (slpC x t) by unfold slp; rw [if_neg hx])
        have t3 : ¬ sgn (t - x.X1) + sgn (x.X2 - t) < 0 := by rw [sgn_pos (n := t - x.X1) (by omega), sgn_pos (n := x.X2 - t) (by omega)]; omega
        clear ht z1 z2 hx
        go_enter Try.func32, Try.ntmps32
        go_wp2
        go_quiet (fail)
        go_wp2_with (first | (go_at_call 91; refine (sign_any _ _).mono ?_; rintro e w' ⟨rfl, rfl⟩) | (go_at_call 71; refine (bcompare_any _ _ _ _ _ ⟨by omega, by omega⟩ ⟨by omega, by omega⟩ ⟨by omega, by omega⟩ ⟨by omega, by omega⟩).mono ?_; rw [Hr.out]; rintro e w' ⟨rfl, rfl⟩))
        go_ret
        exact ⟨ri HS.out.symm, by (repeat' (first | (with_reducible exact Below.refl _ _) | (with_reducible assumption) | (with_reducible refine Below.alloc ?_ ?_ _) | (with_reducible refine Below.drew ?_) | (with_reducible refine below_drewN ?_ _) | (with_reducible refine Below.setCell ?_ ?_ _) | (with_reducible refine below_step (by with_reducible assumption) ?_ ?_) | (with_reducible exact Below.size (by with_reducible assumption)) | go_size))⟩
end Go.Proofs.Ytpphnnbijmoodaa
