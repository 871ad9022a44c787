/-
  THE LEAST TIME of a crossing in package ray; its crossing.
-/
import Derived.Test.YtpphnnbijmoodaaErr
import Derived.Test.YtpphnnbijmoodaaTimeAt
import Derived.Deep.RegionHeld3
set_option linter.unusedVariables false
set_option linter.unusedSimpArgs false
namespace Go.Proofs.Ytpphnnbijmoodaa
open Go.RowKit

/-- the bound -/
def bnd (x : Cr) : Int := cdiv 10000000 (x.V1 * x.H1) + cdiv 10000000 (x.V2 * x.H2)
theorem cdiv_bd {n b : Int} (hn : 0 ≤ n) (hb : 1 ≤ b) : 0 ≤ cdiv n b ∧ cdiv n b ≤ n := by
  unfold cdiv
  have h1 : -n / b ≤ 0 := by
    have := Int.ediv_le_ediv (c := b) (show 0 < b by omega) (show -n ≤ 0 by omega)
    simpa using this
  have h2 : -n ≤ -n / b := by
    rw [Int.le_ediv_iff_mul_le (by omega)]
    have : n * 1 ≤ n * b := Int.mul_le_mul_of_nonneg_left hb hn
    grind
  omega
theorem vh_bd {x : Cr} (h : okC x) : (1 ≤ x.V1 * x.H1 ∧ x.V1 * x.H1 ≤ 1000000000) ∧ (1 ≤ x.V2 * x.H2 ∧ x.V2 * x.H2 ≤ 1000000000) := by
  obtain ⟨-, -, h3, h4, h5, h6⟩ := h
  have c1 := prod_bd (a := x.V1) (b := x.H1) (A := 10000) (B := 100000) (by omega) (by omega) (by omega) (by omega)
  have c2 := prod_bd (a := x.V2) (b := x.H2) (A := 10000) (B := 100000) (by omega) (by omega) (by omega) (by omega)
  have d1 : 1 * 1 ≤ x.V1 * x.H1 := mulle (by omega) (by omega) (by omega) (by omega)
  have d2 : 1 * 1 ≤ x.V2 * x.H2 := mulle (by omega) (by omega) (by omega) (by omega)
  omega
theorem bnd_bd {x : Cr} (h : okC x) : 0 ≤ bnd x ∧ bnd x ≤ 20000000 := by
  obtain ⟨⟨h1, -⟩, ⟨h2, -⟩⟩ := vh_bd h
  have := cdiv_bd (n := 10000000) (by omega) h1
  have := cdiv_bd (n := 10000000) (by omega) h2
  unfold bnd; omega

set_option maxRecDepth 100000 in
set_option maxHeartbeats 1000000 in
theorem bound_any (x : Cr) (w : World) (h : okC x) :
    Calls Try.prog 126 #[.agg #[.int .i64 x.X1, .int .i64 x.H1, .int .i64 x.V1, .int .i64 x.X2, .int .i64 x.H2, .int .i64 x.V2, .int .i64 (min x.X1 x.X2), .int .i64 (max x.X1 x.X2)]] w fun e w' => e = .returned (.int .i64 (bnd x)) ∧ Below w.heap.size w w' := by
  obtain ⟨⟨h1, h2⟩, ⟨h3, h4⟩⟩ := vh_bd h
  have k1 := cdiv_bd (n := 10000000) (by omega) h1
  have k2 := cdiv_bd (n := 10000000) (by omega) h3
  have HB := Lib.hid (show bnd x = cdiv 10000000 (x.V1 * x.H1) + cdiv 10000000 (x.V2 * x.H2) from rfl)
  have wr1 : IntKind.i64.wrap (x.V1 * x.H1) = x.V1 * x.H1 := IntWalk.i64_in _ (by omega)
  have wr2 : IntKind.i64.wrap (x.V2 * x.H2) = x.V2 * x.H2 := IntWalk.i64_in _ (by omega)
  have wr3 : IntKind.i64.wrap (cdiv 10000000 (x.V1 * x.H1) + cdiv 10000000 (x.V2 * x.H2)) = cdiv 10000000 (x.V1 * x.H1) + cdiv 10000000 (x.V2 * x.H2) := IntWalk.i64_in _ (by omega)
  have K1 := Lib.hid (fun W => du_any 10000000 (x.V1 * x.H1) W h1 (by omega) (by omega) (by omega))
  have K2 := Lib.hid (fun W => du_any 10000000 (x.V2 * x.H2) W h3 (by omega) (by omega) (by omega))
  clear h k1 k2
  go_enter Try.func126, Try.ntmps126
  go_wp2
  go_quiet ((first | (go_at_call 102; with_reducible exact Calls.quiet_of_same (still_of (K1.out _))) | (go_at_call 102; with_reducible exact Calls.quiet_of_same (still_of (K2.out _)))))
  go_wp2
  go_ret
  exact ⟨ri HB.out.symm, by (repeat' (first | (with_reducible exact Below.refl _ _) | (with_reducible assumption) | (with_reducible refine Below.alloc ?_ ?_ _) | (with_reducible refine Below.drew ?_) | (with_reducible refine below_drewN ?_ _) | (with_reducible refine Below.setCell ?_ ?_ _) | (with_reducible refine below_step (by with_reducible assumption) ?_ ?_) | (with_reducible exact Below.size (by with_reducible assumption)) | go_size))⟩

/-- the least time, rounded down (the bound taken off) and up -/
noncomputable def pL (x : Cr) : Int := if plc x < max x.X1 x.X2 then min (tL x (plc x)) (tL x (plc x + 1)) else tL x (plc x)
noncomputable def lsH (x : Cr) : Int := if plc x < max x.X1 x.X2 then min (tH x (plc x)) (tH x (plc x + 1)) else tH x (plc x)
noncomputable def lsL (x : Cr) : Int := max 0 (pL x - bnd x)
theorem t_bd {x : Cr} {t : Int} (h : okC x) (ht : inC x t) : (0 ≤ tL x t ∧ tL x t ≤ 12000000200) ∧ (0 ≤ tH x t ∧ tH x t ≤ 12000000202) := by
  obtain ⟨b1, b2, b3, b4⟩ := time_bd h ht
  unfold tL tH
  omega

set_option maxRecDepth 100000 in
set_option maxHeartbeats 2000000 in
theorem leastTime_any (x : Cr) (w : World) (h : okC x) :
    Calls Try.prog 93 #[.agg #[.int .i64 x.X1, .int .i64 x.H1, .int .i64 x.V1, .int .i64 x.X2, .int .i64 x.H2, .int .i64 x.V2, .int .i64 (min x.X1 x.X2), .int .i64 (max x.X1 x.X2)]] w fun e w' => e = .returned (.agg #[.int .i64 (lsL x), .int .i64 (lsH x)]) ∧ Below w.heap.size w w' := by
  have H := Lib.hid h
  have hpl := plc_is h
  have hb := bnd_bd h
  have hi := hpl.1
  have T1 := t_bd h hi
  have KI := Lib.hid hi
  unfold inC at hi
  have g1 := h.1
  have g2 := h.2.1
  have HL := Lib.hid (show lsL x = max 0 (pL x - bnd x) from rfl)
  have HH : Hid (lsH x = if plc x < max x.X1 x.X2 then min (tH x (plc x)) (tH x (plc x + 1)) else tH x (plc x)) := Lib.hid rfl
  have HP : Hid (pL x = if plc x < max x.X1 x.X2 then min (tL x (plc x)) (tL x (plc x + 1)) else tL x (plc x)) := Lib.hid rfl
  have HPB : Hid (0 ≤ pL x ∧ pL x ≤ 12000000200) := by
    refine Lib.hid ?_
    have hu := HP.out
    by_cases hk : plc x < max x.X1 x.X2
    · rw [if_pos hk] at hu
      have := t_bd h (t := plc x + 1) (by unfold inC; omega)
      omega
    · rw [if_neg hk] at hu; omega
  clear h hpl
  by_cases hk : plc x < max x.X1 x.X2
  · have KJ := Lib.hid (show inC x (plc x + 1) by unfold inC; omega)
    have T2 := t_bd H.out KJ.out
    rw [if_pos hk] at HH HP
    go_enter Try.func93, Try.ntmps93
    go_wp2_with fail
    refine (place_any x _ H.out).mono ?_
    rintro e w1 ⟨rfl, hw1⟩
    obtain ⟨hcw1, hfw1, hlw1, hmw1, hnw1⟩ := bcell3 hw1
    have hz1 := hw1.size
    try simp only [World.size_alloc] at hz1
    have o1_0 : w.heap.size < w1.heap.size := by omega
    have o1_1 : w.heap.size + 1 < w1.heap.size := by omega
    go_wp2_with fail
    refine (timeAt_any x _ _ H.out KI.out).mono ?_
    rintro e w2 ⟨rfl, hw2⟩
    obtain ⟨hcw2, hfw2, hlw2, hmw2, hnw2⟩ := bcell3 hw2
    have hz2 := hw2.size
    try simp only [World.size_alloc] at hz2
    have o2_0 : w.heap.size < w2.heap.size := by omega
    have o2_1 : w.heap.size + 1 < w2.heap.size := by omega
    go_wp2_with fail
    refine (timeAt_any x _ _ H.out KJ.out).mono ?_
    rintro e w3 ⟨rfl, hw3⟩
    obtain ⟨hcw3, hfw3, hlw3, hmw3, hnw3⟩ := bcell3 hw3
    have hz3 := hw3.size
    try simp only [World.size_alloc] at hz3
    have o3_0 : w.heap.size < w3.heap.size := by omega
    have o3_1 : w.heap.size + 1 < w3.heap.size := by omega
    have o3_2 : w2.heap.size < w3.heap.size := by omega
    go_wp2_with fail
    generalize hW : World.alloc (World.setCell (World.setCell w3 _ _) _ _) _ = W
    have hB : Below w.heap.size w W := by rw [← hW]; (repeat' (first | (with_reducible exact Below.refl _ _) | (with_reducible assumption) | (with_reducible refine Below.alloc ?_ ?_ _) | (with_reducible refine Below.drew ?_) | (with_reducible refine below_drewN ?_ _) | (with_reducible refine Below.setCell ?_ ?_ _) | (with_reducible refine below_step (by with_reducible assumption) ?_ ?_) | (with_reducible exact Below.size (by with_reducible assumption)) | go_size))
    have hlt : w.heap.size + 1 < W.heap.size := by rw [← hW]; simp only [World.size_alloc, World.size_setCell]; omega
    have hlt2 : w2.heap.size < W.heap.size := by rw [← hW]; simp only [World.size_alloc, World.size_setCell]; omega
    have c0 : W.cell? ⟨w.heap.size, 0, none⟩ = some (.int .i64 x.X1) := by rw [← hW]; clear hW; simp [*, go_sem]
    have c1 : W.cell? ⟨w.heap.size, 1, none⟩ = some (.int .i64 x.H1) := by rw [← hW]; clear hW; simp [*, go_sem]
    have c2 : W.cell? ⟨w.heap.size, 2, none⟩ = some (.int .i64 x.V1) := by rw [← hW]; clear hW; simp [*, go_sem]
    have c3 : W.cell? ⟨w.heap.size, 3, none⟩ = some (.int .i64 x.X2) := by rw [← hW]; clear hW; simp [*, go_sem]
    have c4 : W.cell? ⟨w.heap.size, 4, none⟩ = some (.int .i64 x.H2) := by rw [← hW]; clear hW; simp [*, go_sem]
    have c5 : W.cell? ⟨w.heap.size, 5, none⟩ = some (.int .i64 x.V2) := by rw [← hW]; clear hW; simp [*, go_sem]
    have c6 : W.cell? ⟨w.heap.size, 6, none⟩ = some (.int .i64 (min x.X1 x.X2)) := by rw [← hW]; clear hW; simp [*, go_sem]
    have c7 : W.cell? ⟨w.heap.size, 7, none⟩ = some (.int .i64 (max x.X1 x.X2)) := by rw [← hW]; clear hW; simp [*, go_sem]
    have d0 : W.cell? ⟨w2.heap.size, 0, none⟩ = some (.int .i64 (min (tL x (plc x)) (tL x (plc x + 1)))) := by rw [← hW]; clear hW; simp [*, go_sem]
    have e0 : W.cell? ⟨w.heap.size + 1, 0, none⟩ = some (.int .i64 0) := by rw [← hW]; clear hW; simp [*, go_sem]
    have f0 : W.frozen? ⟨w2.heap.size, 0, none⟩ = false := by rw [← hW]; clear hW; simp [*, go_sem]
    have i0 : W.frozen? ⟨w.heap.size + 1, 0, none⟩ = false := by rw [← hW]; clear hW; simp [*, go_sem]
    have d1 : W.cell? ⟨w2.heap.size, 1, none⟩ = some (.int .i64 (min (tH x (plc x)) (tH x (plc x + 1)))) := by rw [← hW]; clear hW; simp [*, go_sem]
    have e1 : W.cell? ⟨w.heap.size + 1, 1, none⟩ = some (.int .i64 0) := by rw [← hW]; clear hW; simp [*, go_sem]
    have f1 : W.frozen? ⟨w2.heap.size, 1, none⟩ = false := by rw [← hW]; clear hW; simp [*, go_sem]
    have i1 : W.frozen? ⟨w.heap.size + 1, 1, none⟩ = false := by rw [← hW]; clear hW; simp [*, go_sem]
    rw [← HP.out] at d0
    rw [← HH.out] at d1
    have nb : w.heap.size < w2.heap.size := by omega
    have nb2 : w.heap.size + 1 < w2.heap.size := by omega
    clear hW hcw1 hfw1 hlw1 hmw1 hnw1 hw1 hz1 o1_0 o1_1 hcw2 hfw2 hlw2 hmw2 hnw2 hw2 hz2 o2_0 o2_1 hcw3 hfw3 hlw3 hmw3 hnw3 hw3 hz3 o3_0 o3_1 o3_2
    clear T1 T2 HH HP
    have wr1 : IntKind.i64.wrap (pL x - bnd x) = pL x - bnd x := IntWalk.i64_in _ (by have := HPB.out; omega)
    go_region_with (first | (go_at_call 126; refine (bound_any x _ H.out).mono ?_; rintro e w4 ⟨rfl, hw4⟩; obtain ⟨hcw4, hfw4, hlw4, hmw4, hnw4⟩ := bcell3 hw4; have hz4 := hw4.size; (try simp only [World.size_drew] at hz4); have ho4 : w.heap.size < w4.heap.size := (by omega); have ho5 : w.heap.size + 1 < w4.heap.size := (by omega); have ho6 : w2.heap.size < w4.heap.size := (by omega); have d4 := (hcw4 _ _ hlt2).trans d0; have d5 := (hcw4 _ _ hlt2).trans d1; have f4 := (hfw4 _ _ hlt2).trans f0; have f5 := (hfw4 _ _ hlt2).trans f1; have e4 := (hcw4 _ _ hlt).trans e0; have e5 := (hcw4 _ _ hlt).trans e1; have i4 := (hfw4 _ _ hlt).trans i0; have i5 := (hfw4 _ _ hlt).trans i1; clear hcw4 hfw4 hlw4 hmw4 hnw4))
    all_goals
      go_wp2
      refine bodyPost_ret (by simp [results, Try.results93, go_sem, *]; rfl) rfl ?_
      exact ⟨by rw [HL.out], by (repeat' (first | (with_reducible exact Below.refl _ _) | (with_reducible assumption) | (with_reducible refine Below.alloc ?_ ?_ _) | (with_reducible refine Below.drew ?_) | (with_reducible refine below_drewN ?_ _) | (with_reducible refine Below.setCell ?_ ?_ _) | (with_reducible refine below_step (by with_reducible assumption) ?_ ?_) | (with_reducible exact Below.size (by with_reducible assumption)) | go_size))⟩
  · rw [if_neg hk] at HH HP
    go_enter Try.func93, Try.ntmps93
    go_wp2_with fail
    refine (place_any x _ H.out).mono ?_
    rintro e w1 ⟨rfl, hw1⟩
    obtain ⟨hcw1, hfw1, hlw1, hmw1, hnw1⟩ := bcell3 hw1
    have hz1 := hw1.size
    try simp only [World.size_alloc] at hz1
    have o1_0 : w.heap.size < w1.heap.size := by omega
    have o1_1 : w.heap.size + 1 < w1.heap.size := by omega
    go_wp2_with fail
    refine (timeAt_any x _ _ H.out KI.out).mono ?_
    rintro e w2 ⟨rfl, hw2⟩
    obtain ⟨hcw2, hfw2, hlw2, hmw2, hnw2⟩ := bcell3 hw2
    have hz2 := hw2.size
    try simp only [World.size_alloc] at hz2
    have o2_0 : w.heap.size < w2.heap.size := by omega
    have o2_1 : w.heap.size + 1 < w2.heap.size := by omega
    go_wp2_with fail
    generalize hW : World.alloc w2 _ = W
    have hB : Below w.heap.size w W := by rw [← hW]; (repeat' (first | (with_reducible exact Below.refl _ _) | (with_reducible assumption) | (with_reducible refine Below.alloc ?_ ?_ _) | (with_reducible refine Below.drew ?_) | (with_reducible refine below_drewN ?_ _) | (with_reducible refine Below.setCell ?_ ?_ _) | (with_reducible refine below_step (by with_reducible assumption) ?_ ?_) | (with_reducible exact Below.size (by with_reducible assumption)) | go_size))
    have hlt : w.heap.size + 1 < W.heap.size := by rw [← hW]; simp only [World.size_alloc, World.size_setCell]; omega
    have hlt2 : w2.heap.size < W.heap.size := by rw [← hW]; simp only [World.size_alloc, World.size_setCell]; omega
    have c0 : W.cell? ⟨w.heap.size, 0, none⟩ = some (.int .i64 x.X1) := by rw [← hW]; clear hW; simp [*, go_sem]
    have c1 : W.cell? ⟨w.heap.size, 1, none⟩ = some (.int .i64 x.H1) := by rw [← hW]; clear hW; simp [*, go_sem]
    have c2 : W.cell? ⟨w.heap.size, 2, none⟩ = some (.int .i64 x.V1) := by rw [← hW]; clear hW; simp [*, go_sem]
    have c3 : W.cell? ⟨w.heap.size, 3, none⟩ = some (.int .i64 x.X2) := by rw [← hW]; clear hW; simp [*, go_sem]
    have c4 : W.cell? ⟨w.heap.size, 4, none⟩ = some (.int .i64 x.H2) := by rw [← hW]; clear hW; simp [*, go_sem]
    have c5 : W.cell? ⟨w.heap.size, 5, none⟩ = some (.int .i64 x.V2) := by rw [← hW]; clear hW; simp [*, go_sem]
    have c6 : W.cell? ⟨w.heap.size, 6, none⟩ = some (.int .i64 (min x.X1 x.X2)) := by rw [← hW]; clear hW; simp [*, go_sem]
    have c7 : W.cell? ⟨w.heap.size, 7, none⟩ = some (.int .i64 (max x.X1 x.X2)) := by rw [← hW]; clear hW; simp [*, go_sem]
    have d0 : W.cell? ⟨w2.heap.size, 0, none⟩ = some (.int .i64 (tL x (plc x))) := by rw [← hW]; clear hW; simp [*, go_sem]
    have e0 : W.cell? ⟨w.heap.size + 1, 0, none⟩ = some (.int .i64 0) := by rw [← hW]; clear hW; simp [*, go_sem]
    have f0 : W.frozen? ⟨w2.heap.size, 0, none⟩ = false := by rw [← hW]; clear hW; simp [*, go_sem]
    have i0 : W.frozen? ⟨w.heap.size + 1, 0, none⟩ = false := by rw [← hW]; clear hW; simp [*, go_sem]
    have d1 : W.cell? ⟨w2.heap.size, 1, none⟩ = some (.int .i64 (tH x (plc x))) := by rw [← hW]; clear hW; simp [*, go_sem]
    have e1 : W.cell? ⟨w.heap.size + 1, 1, none⟩ = some (.int .i64 0) := by rw [← hW]; clear hW; simp [*, go_sem]
    have f1 : W.frozen? ⟨w2.heap.size, 1, none⟩ = false := by rw [← hW]; clear hW; simp [*, go_sem]
    have i1 : W.frozen? ⟨w.heap.size + 1, 1, none⟩ = false := by rw [← hW]; clear hW; simp [*, go_sem]
    rw [← HP.out] at d0
    rw [← HH.out] at d1
    have nb : w.heap.size < w2.heap.size := by omega
    have nb2 : w.heap.size + 1 < w2.heap.size := by omega
    clear hW hcw1 hfw1 hlw1 hmw1 hnw1 hw1 hz1 o1_0 o1_1 hcw2 hfw2 hlw2 hmw2 hnw2 hw2 hz2 o2_0 o2_1
    clear T1 HH HP
    have wr1 : IntKind.i64.wrap (pL x - bnd x) = pL x - bnd x := IntWalk.i64_in _ (by have := HPB.out; omega)
    go_region_with (first | (go_at_call 126; refine (bound_any x _ H.out).mono ?_; rintro e w4 ⟨rfl, hw4⟩; obtain ⟨hcw4, hfw4, hlw4, hmw4, hnw4⟩ := bcell3 hw4; have hz4 := hw4.size; (try simp only [World.size_drew] at hz4); have ho4 : w.heap.size < w4.heap.size := (by omega); have ho5 : w.heap.size + 1 < w4.heap.size := (by omega); have ho6 : w2.heap.size < w4.heap.size := (by omega); have d4 := (hcw4 _ _ hlt2).trans d0; have d5 := (hcw4 _ _ hlt2).trans d1; have f4 := (hfw4 _ _ hlt2).trans f0; have f5 := (hfw4 _ _ hlt2).trans f1; have e4 := (hcw4 _ _ hlt).trans e0; have e5 := (hcw4 _ _ hlt).trans e1; have i4 := (hfw4 _ _ hlt).trans i0; have i5 := (hfw4 _ _ hlt).trans i1; clear hcw4 hfw4 hlw4 hmw4 hnw4))
    all_goals
      go_wp2
      refine bodyPost_ret (by simp [results, Try.results93, go_sem, *]; rfl) rfl ?_
      exact ⟨by rw [HL.out], by (repeat' (first | (with_reducible exact Below.refl _ _) | (with_reducible assumption) | (with_reducible refine Below.alloc ?_ ?_ _) | (with_reducible refine Below.drew ?_) | (with_reducible refine below_drewN ?_ _) | (with_reducible refine Below.setCell ?_ ?_ _) | (with_reducible refine below_step (by with_reducible assumption) ?_ ?_) | (with_reducible exact Below.size (by with_reducible assumption)) | go_size))⟩
end Go.Proofs.Ytpphnnbijmoodaa
