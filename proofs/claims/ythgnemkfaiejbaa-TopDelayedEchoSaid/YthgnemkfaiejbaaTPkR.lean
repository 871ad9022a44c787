/-
  PEAKS, as the reference has them: GateErr, PeakIn, FirstAbove.
-/
import Derived.Test.YthgnemkfaiejbaaTEnvR
import Derived.Test.YthgnemkfaiejbaaTPkA
set_option linter.unusedVariables false
set_option linter.unusedSimpArgs false
namespace Go.Proofs.Ythgnemkfaiejbaa
open Go.RowKit

set_option maxRecDepth 100000 in
theorem gateErrR_any (f t : Int) (w : World) : Calls Try.prog 67 #[.agg #[.int .i64 f, .int .i64 t]] w fun e w' => e = .returned (.int .i64 (gtE f t)) ∧ Below w.heap.size w w' := by
  have K1 := Lib.hid (fun W => bwithin_any f 0 60 W)
  have K2 := Lib.hid (fun W => bwithin_any t 0 60 W)
  cases h1 : inB f 0 60 with
  | false =>
    have HE := Lib.hid (show gtE f t = 2 by unfold gtE; rw [h1]; rfl)
    rw [h1] at K1
    go_enter Try.func67, Try.ntmps67
    go_wp2_with fail
    refine (K1.out _).mono ?_
    rintro e w' ⟨rfl, rfl⟩
    go_wp2
    go_ret
    exact ⟨ri HE.out.symm, by (repeat' (first | (with_reducible exact Below.refl _ _) | (with_reducible assumption) | (with_reducible refine Below.alloc ?_ ?_ _) | (with_reducible refine Below.drew ?_) | (with_reducible refine below_drewN ?_ _) | (with_reducible refine Below.setCell ?_ ?_ _) | (with_reducible refine below_step (by with_reducible assumption) ?_ ?_) | (with_reducible exact Below.size (by with_reducible assumption)) | go_size))⟩
  | true =>
    rw [h1] at K1
    cases h2 : inB t 0 60 with
    | false =>
      have HE := Lib.hid (show gtE f t = 2 by unfold gtE; rw [h1, h2]; rfl)
      rw [h2] at K2
      go_enter Try.func67, Try.ntmps67
      go_wp2_with fail
      refine (K1.out _).mono ?_
      rintro e w' ⟨rfl, rfl⟩
      go_wp2_with fail
      refine (K2.out _).mono ?_
      rintro e w' ⟨rfl, rfl⟩
      go_wp2
      go_ret
      exact ⟨ri HE.out.symm, by (repeat' (first | (with_reducible exact Below.refl _ _) | (with_reducible assumption) | (with_reducible refine Below.alloc ?_ ?_ _) | (with_reducible refine Below.drew ?_) | (with_reducible refine below_drewN ?_ _) | (with_reducible refine Below.setCell ?_ ?_ _) | (with_reducible refine below_step (by with_reducible assumption) ?_ ?_) | (with_reducible exact Below.size (by with_reducible assumption)) | go_size))⟩
    | true =>
      rw [h2] at K2
      by_cases h3 : f ≤ t
      · have HE := Lib.hid (show gtE f t = 0 by unfold gtE; rw [h1, h2, decide_eq_true h3]; rfl)
        have h4 : decide (t < f) = false := decide_eq_false (by omega)
        go_enter Try.func67, Try.ntmps67
        go_wp2_with fail
        refine (K1.out _).mono ?_
        rintro e w' ⟨rfl, rfl⟩
        go_wp2_with fail
        refine (K2.out _).mono ?_
        rintro e w' ⟨rfl, rfl⟩
        go_wp2
        go_ret
        exact ⟨ri HE.out.symm, by (repeat' (first | (with_reducible exact Below.refl _ _) | (with_reducible assumption) | (with_reducible refine Below.alloc ?_ ?_ _) | (with_reducible refine Below.drew ?_) | (with_reducible refine below_drewN ?_ _) | (with_reducible refine Below.setCell ?_ ?_ _) | (with_reducible refine below_step (by with_reducible assumption) ?_ ?_) | (with_reducible exact Below.size (by with_reducible assumption)) | go_size))⟩
      · have HE := Lib.hid (show gtE f t = 9 by unfold gtE; rw [h1, h2, decide_eq_false h3]; rfl)
        have h4 : decide (t < f) = true := decide_eq_true (by omega)
        go_enter Try.func67, Try.ntmps67
        go_wp2_with fail
        refine (K1.out _).mono ?_
        rintro e w' ⟨rfl, rfl⟩
        go_wp2_with fail
        refine (K2.out _).mono ?_
        rintro e w' ⟨rfl, rfl⟩
        go_wp2
        go_ret
        exact ⟨ri HE.out.symm, by (repeat' (first | (with_reducible exact Below.refl _ _) | (with_reducible assumption) | (with_reducible refine Below.alloc ?_ ?_ _) | (with_reducible refine Below.drew ?_) | (with_reducible refine below_drewN ?_ _) | (with_reducible refine Below.setCell ?_ ?_ _) | (with_reducible refine below_step (by with_reducible assumption) ?_ ?_) | (with_reducible exact Below.size (by with_reducible assumption)) | go_size))⟩
/-- the first of the greatest of n squares from f on -/
def pmx (s : Nat → Int) (f : Nat) : Nat → Nat
  | 0 => 0
  | j + 1 => if s (f + pmx s f j) < s (f + j) then j else pmx s f j
theorem pmx_spec (s : Nat → Int) (f : Nat) : ∀ n, 0 < n → pmx s f n < n ∧ (∀ j, j < n → s (f + j) ≤ s (f + pmx s f n)) ∧ ∀ j, j < pmx s f n → s (f + j) < s (f + pmx s f n)
  | 0, h => absurd h (Nat.lt_irrefl _)
  | 1, _ => by
    have e : pmx s f 1 = 0 := by
      show (if s (f + 0) < s (f + 0) then 0 else 0) = 0
      split <;> rfl
    rw [e]
    refine ⟨by omega, fun j hj => ?_, fun j hj => absurd hj (Nat.not_lt_zero _)⟩
    obtain rfl : j = 0 := by omega
    exact Int.le_refl _
  | n + 2, _ => by
    obtain ⟨a, b, c⟩ := pmx_spec s f (n + 1) (by omega)
    by_cases h : s (f + pmx s f (n + 1)) < s (f + (n + 1))
    · have e : pmx s f (n + 2) = n + 1 := by show (if _ then _ else _) = _; rw [if_pos h]
      rw [e]
      refine ⟨by omega, fun j hj => ?_, fun j hj => ?_⟩
      · by_cases ej : j = n + 1
        · rw [ej]; exact Int.le_refl _
        · have := b j (by omega); omega
      · have := b j (by omega); omega
    · have e : pmx s f (n + 2) = pmx s f (n + 1) := by show (if _ then _ else _) = _; rw [if_neg h]
      rw [e]
      refine ⟨by omega, fun j hj => ?_, c⟩
      by_cases ej : j = n + 1
      · rw [ej]; omega
      · exact b j (by omega)
set_option maxRecDepth 100000 in
set_option maxHeartbeats 2000000 in
theorem firstAboveR_neg (x : Nat → Int) (f t sq : Int) (w : World) (h : sq < 0) :
    Calls Try.prog 68 #[.agg (tC x), .agg #[.int .i64 f, .int .i64 t], .int .i64 sq] w fun e w' => e = .returned (.tuple #[.int .i64 0, .int .i64 2]) ∧ Below w.heap.size w w' := by
  generalize tC x = c at *
  go_enter Try.func68, Try.ntmps68
  go_wp2
  go_ret2
  exact ⟨rfl, by (repeat' (first | (with_reducible exact Below.refl _ _) | (with_reducible assumption) | (with_reducible refine Below.alloc ?_ ?_ _) | (with_reducible refine Below.drew ?_) | (with_reducible refine below_drewN ?_ _) | (with_reducible refine Below.setCell ?_ ?_ _) | (with_reducible refine below_step (by with_reducible assumption) ?_ ?_) | (with_reducible exact Below.size (by with_reducible assumption)) | go_size))⟩
set_option maxRecDepth 100000 in
set_option maxHeartbeats 2000000 in
theorem firstAboveR_ok (x : Nat → Int) (f n : Nat) (sq : Int) (w : World) (hx : Hid (∀ k, k < 64 → (x k).natAbs ≤ 2047)) (hn : 0 < n) (hfn : f + n ≤ 61) (h : ¬ sq < 0) :
    Calls Try.prog 68 #[.agg (tC x), .agg #[.int .i64 (f : Int), .int .i64 ((f : Int) + (n : Int) - 1)], .int .i64 sq] w fun e w' => e = .returned (.tuple #[.int .i64 (faV (anS x) f n sq), .int .i64 (faE (anS x) f n sq)]) ∧ Below w.heap.size w w' := by
  have K1 := Lib.hid (fun W => envelopeR_any x W hx)
  have hs := Lib.hid (tC_size x)
  have hsS := Lib.hid (sC_size (anS x))
  have hoS := Lib.hid (sC_one (anS x))
  have hzs := Lib.hid (sC_size fun _ => 0)
  have HZV := Lib.hid zero_sq
  have HG := Lib.hid (fun k (h : k < 61) => sC_get (anS x) h)
  have HV : Hid (∀ k, fi (fun j => decide (sq ≤ anS x (f + j))) n = some k → faV (anS x) f n sq = (f : Int) + (k : Int) ∧ faE (anS x) f n sq = 0) := Lib.hid fun k e => by unfold faV faE; rw [if_neg h, if_neg h, e]; exact ⟨rfl, rfl⟩
  have HV0 : Hid (fi (fun j => decide (sq ≤ anS x (f + j))) n = none → faV (anS x) f n sq = 0 ∧ faE (anS x) f n sq = 12) := Lib.hid fun e => by unfold faV faE; rw [if_neg h, if_neg h, e]; exact ⟨rfl, rfl⟩
  generalize tC x = c at *
  generalize sC (anS x) = S at *
  generalize (sC fun _ => 0) = z at *
  generalize faV (anS x) f n sq = V at *
  generalize faE (anS x) f n sq = E at *
  generalize anS x = s at *
  have hd : decide (sq < 0) = false := decide_eq_false h
  clear h
  go_enter Try.func68, Try.ntmps68
  go_wp2_with (refine wpl_load rfl 26 26 _ w.heap.size c (0, 0) _ rfl rfl Try.underlying26 rfl (by rw [hs.out]; exact infoTrace) (block_alloc (heap_alloc_last w _)) ?_)
  go_wp2_with fail; (refine (K1.out _).mono ?_; rintro e w2 ⟨rfl, hw2⟩; obtain ⟨hcw2, hfw2, hlw2, hmw2, hnw2⟩ := bcell3 hw2; have hzw2 := hw2.size; (try simp only [World.size_alloc, World.size_setCell, World.size_drew, size_drewN] at hzw2))
  have cg2_0 : w2.cell? ⟨w.heap.size + 1, 0, none⟩ = some (.int .i64 ((f : Int))) := (hcw2 (w.heap.size + 1) (0) (by first | omega | (simp only [World.size_alloc, World.size_drew, World.size_setCell, size_drewN]; omega))).trans (by first | assumption | (simp [go_sem, *]; done)); have cg2_1 : w2.cell? ⟨w.heap.size + 1, 1, none⟩ = some (.int .i64 ((f : Int) + (n : Int) - 1)) := (hcw2 (w.heap.size + 1) (1) (by first | omega | (simp only [World.size_alloc, World.size_drew, World.size_setCell, size_drewN]; omega))).trans (by first | assumption | (simp [go_sem, *]; done)); have og2 : w.heap.size + 1 < w2.heap.size := (by omega)
  clear hcw2 hfw2 hlw2 hmw2 hnw2
  have hlg : w.heap.size + 1 < w2.heap.size := by omega
  go_wp2_with (first | (refine wpl_alloc rfl 95 z rfl (HZV.out _) ?_) | (refine wpl_store_new rfl 95 _ _ z S rfl rfl rfl (by rw [hsS.out]; exact infoSq) (by rw [hzs.out, hsS.out]) hoS.out ?_))
  first | refine abs_calls (fun w3 hw3 => ?_) | refine abs_last (fun w3 hw3 => ?_)
  have hw30 : Below w.heap.size w w3 := by rw [hw3]; (repeat' (first | (with_reducible exact Below.refl _ _) | (with_reducible assumption) | (with_reducible refine Below.alloc ?_ ?_ _) | (with_reducible refine Below.drew ?_) | (with_reducible refine below_drewN ?_ _) | (with_reducible refine Below.setCell ?_ ?_ _) | (with_reducible refine below_step (by with_reducible assumption) ?_ ?_) | (with_reducible exact Below.size (by with_reducible assumption)) | go_size))
  have hzz3 := hw30.size
  have cg3_0 : w3.cell? ⟨w.heap.size + 1, 0, none⟩ = some (.int .i64 ((f : Int))) := by (first | (rw [hw3]; assumption) | (simp [go_sem, *]; done))
  have cg3_1 : w3.cell? ⟨w.heap.size + 1, 1, none⟩ = some (.int .i64 ((f : Int) + (n : Int) - 1)) := by (first | (rw [hw3]; assumption) | (simp [go_sem, *]; done))
  have cs3_0 : w3.heap[w2.heap.size]? = some (.cells (S) 95 (0, 0)) := by rw [hw3]; (repeat (first | assumption | (refine heap_alloc_at ?_; (first | rfl | (simp only [World.size_alloc, World.size_drew, World.size_setCell, size_drewN]; done))) | refine block_alloc ?_))
  have hz30 : w.heap.size + 1 < w3.heap.size := by (first | (rw [hw3]; simp; omega) | (rw [hw3]; simp; done) | (rw [hw3]; omega))
  have hz31 : w2.heap.size < w3.heap.size := by (first | (rw [hw3]; simp; omega) | (rw [hw3]; simp; done) | (rw [hw3]; omega))
  clear cg2_0 cg2_1
  clear hw3
  have HS3 := Lib.hid cs3_0
  clear cs3_0
  have HB3 := Lib.hid hw30
  clear hw30
  go_loop [9] (fun i => ∃ k : Nat, k ≤ n ∧ fi (fun j => decide (sq ≤ s (f + j))) k = none ∧ i = .int .i64 ((f : Int) + (k : Int))) (fun i => f + n - (intOf i).toNat)
  case atStart => exact ⟨0, Nat.zero_le _, rfl, by simp⟩
  case round =>
    obtain ⟨k, hk, hfw, rfl⟩ := hrel
    have HFW := Lib.hid hfw
    clear hfw
    by_cases hlt : k < n
    · have hc0 : w3.cell? ⟨w2.heap.size, f + k, none⟩ = some (.int .i64 (s (f + k))) := (cell_block HS3.out).trans (HG.out (f + k) (by omega))
      have e0 : (0 : Int) ≤ (f : Int) + (k : Int) := by omega
      have e1 : (f : Int) + (k : Int) < 61 := by omega
      have e2 : (f : Int) + (k : Int) ≤ (f : Int) + (n : Int) - 1 := by omega
      have n1 : ((f : Int) + (k : Int)).toNat = f + k := by omega
      have wr1 : IntKind.i64.wrap ((f : Int) + (k : Int) + 1) = (f : Int) + ((k + 1 : Nat) : Int) := (IntWalk.i64_in _ (by omega)).trans (by omega)
      by_cases hg : sq ≤ s (f + k)
      · have hw1 : fi (fun j => decide (sq ≤ s (f + j))) (k + 1) = some k := by show (match fi (fun j => decide (sq ≤ s (f + j))) k with | some k => some k | none => _) = _; rw [HFW.out]; simp [hg]
        have hw2 := fi_stay _ hw1 (n - (k + 1))
        rw [show k + 1 + (n - (k + 1)) = n by omega] at hw2
        have HN := Lib.hid (HV.out k hw2)
        clear hw1 hw2
        go_wp2
        go_ret2
        exact ⟨by rw [HN.out.1, HN.out.2]; rfl, HB3.out⟩
      · have HW := Lib.hid (show fi (fun j => decide (sq ≤ s (f + j))) (k + 1) = none by show (match fi (fun j => decide (sq ≤ s (f + j))) k with | some k => some k | none => _) = _; rw [HFW.out]; simp [hg])
        have hg2 : decide (sq ≤ s (f + k)) = false := decide_eq_false hg
        go_wp2
        go_round
        case rel => exact ⟨k + 1, by omega, HW.out, rfl⟩
        case measure => simp [intOf]; omega
    · obtain rfl : k = n := by omega
      have e2 : decide ((f : Int) + (k : Int) ≤ (f : Int) + (k : Int) - 1) = false := decide_eq_false (by omega)
      have HN := Lib.hid (HV0.out HFW.out)
      go_wp2
      go_ret2
      exact ⟨by rw [HN.out.1, HN.out.2]; rfl, HB3.out⟩
set_option maxRecDepth 100000 in
set_option maxHeartbeats 4000000 in
theorem peakInR_ok (x : Nat → Int) (f n : Nat) (w : World) (hx : Hid (∀ k, k < 64 → (x k).natAbs ≤ 2047)) (hn : 0 < n) (hfn : f + n ≤ 61) :
    Calls Try.prog 69 #[.agg (tC x), .agg #[.int .i64 (f : Int), .int .i64 ((f : Int) + (n : Int) - 1)]] w fun e w' => e = .returned (.agg #[.int .i64 ((f : Int) + (pmx (anS x) f n : Int)), .int .i64 (anS x (f + pmx (anS x) f n))]) ∧ Below w.heap.size w w' := by
  have K1 := Lib.hid (fun W => envelopeR_any x W hx)
  have hs := Lib.hid (tC_size x)
  have hsS := Lib.hid (sC_size (anS x))
  have hoS := Lib.hid (sC_one (anS x))
  have hzs := Lib.hid (sC_size fun _ => 0)
  have HZV := Lib.hid zero_sq
  have HG := Lib.hid (fun k (h : k < 61) => sC_get (anS x) h)
  have HP := Lib.hid (fun j => show pmx (anS x) f (j + 1) = if anS x (f + pmx (anS x) f j) < anS x (f + j) then j else pmx (anS x) f j from rfl)
  have HP0 := Lib.hid (show pmx (anS x) f 0 = 0 from rfl)
  have HPL : Hid (∀ j, j ≤ n → pmx (anS x) f j < n) := Lib.hid fun j hj => by
    cases j with
    | zero => show 0 < n; exact hn
    | succ j => have := (pmx_spec (anS x) f (j + 1) (by omega)).1; omega
  generalize tC x = c at *
  generalize sC (anS x) = S at *
  generalize (sC fun _ => 0) = z at *
  generalize anS x = s at *
  generalize pmx s f = pm at *
  have hcf0 : Hid (S[f]? = some (.int .i64 (s f))) := Lib.hid (HG.out f (by omega))
  have e0 : (0 : Int) ≤ (f : Int) := by omega
  have e1 : (f : Int) < 61 := by omega
  go_enter Try.func69, Try.ntmps69
  go_wp2_with (refine wpl_load rfl 26 26 _ w.heap.size c (0, 0) _ rfl rfl Try.underlying26 rfl (by rw [hs.out]; exact infoTrace) (block_alloc (block_alloc (heap_alloc_last w _))) ?_)
  go_wp2_with fail; (refine (K1.out _).mono ?_; rintro e w2 ⟨rfl, hw2⟩; obtain ⟨hcw2, hfw2, hlw2, hmw2, hnw2⟩ := bcell3 hw2; have hzw2 := hw2.size; (try simp only [World.size_alloc, World.size_setCell, World.size_drew, size_drewN] at hzw2))
  have cg2_0 : w2.cell? ⟨w.heap.size + 1, 0, none⟩ = some (.int .i64 ((f : Int))) := (hcw2 (w.heap.size + 1) (0) (by first | omega | (simp only [World.size_alloc, World.size_drew, World.size_setCell, size_drewN]; omega))).trans (by first | assumption | (simp [go_sem, *]; done)); have cg2_1 : w2.cell? ⟨w.heap.size + 1, 1, none⟩ = some (.int .i64 ((f : Int) + (n : Int) - 1)) := (hcw2 (w.heap.size + 1) (1) (by first | omega | (simp only [World.size_alloc, World.size_drew, World.size_setCell, size_drewN]; omega))).trans (by first | assumption | (simp [go_sem, *]; done)); have og2 : w.heap.size + 1 < w2.heap.size := (by omega)
  have crz2_0 : w2.cell? ⟨w.heap.size + 1 + 1, 0, none⟩ = some (.int .i64 (0)) := (hcw2 (w.heap.size + 1 + 1) (0) (by first | omega | (simp only [World.size_alloc, World.size_drew, World.size_setCell, size_drewN]; omega))).trans (by first | assumption | (simp [go_sem, *]; done)); have crz2_1 : w2.cell? ⟨w.heap.size + 1 + 1, 1, none⟩ = some (.int .i64 (0)) := (hcw2 (w.heap.size + 1 + 1) (1) (by first | omega | (simp only [World.size_alloc, World.size_drew, World.size_setCell, size_drewN]; omega))).trans (by first | assumption | (simp [go_sem, *]; done)); have orz2 : w.heap.size + 1 + 1 < w2.heap.size := (by omega)
  have prz2_0 : w2.frozen? ⟨w.heap.size + 1 + 1, 0, none⟩ = false := (hfw2 (w.heap.size + 1 + 1) (0) (by first | omega | (simp only [World.size_alloc, World.size_drew, World.size_setCell, size_drewN]; omega))).trans (by first | assumption | (simp [go_sem, *]; done)); have prz2_1 : w2.frozen? ⟨w.heap.size + 1 + 1, 1, none⟩ = false := (hfw2 (w.heap.size + 1 + 1) (1) (by first | omega | (simp only [World.size_alloc, World.size_drew, World.size_setCell, size_drewN]; omega))).trans (by first | assumption | (simp [go_sem, *]; done))
  clear hcw2 hfw2 hlw2 hmw2 hnw2
  have hlg : w.heap.size + 1 < w2.heap.size := by omega
  have hlr : w.heap.size + 1 + 1 < w2.heap.size := by omega
  go_wp2_with (first | (refine wpl_alloc rfl 95 z rfl (HZV.out _) ?_) | (refine wpl_store_new rfl 95 _ _ z S rfl rfl rfl (by rw [hsS.out]; exact infoSq) (by rw [hzs.out, hsS.out]) hoS.out ?_))
  first | refine abs_calls (fun w3 hw3 => ?_) | refine abs_last (fun w3 hw3 => ?_)
  have hw30 : Below w.heap.size w w3 := by rw [hw3]; (repeat' (first | (with_reducible exact Below.refl _ _) | (with_reducible assumption) | (with_reducible refine Below.alloc ?_ ?_ _) | (with_reducible refine Below.drew ?_) | (with_reducible refine below_drewN ?_ _) | (with_reducible refine Below.setCell ?_ ?_ _) | (with_reducible refine below_step (by with_reducible assumption) ?_ ?_) | (with_reducible exact Below.size (by with_reducible assumption)) | go_size))
  have hzz3 := hw30.size
  have cg3_0 : w3.cell? ⟨w.heap.size + 1, 0, none⟩ = some (.int .i64 ((f : Int))) := by (first | (rw [hw3]; assumption) | (simp [go_sem, *]; done))
  have cg3_1 : w3.cell? ⟨w.heap.size + 1, 1, none⟩ = some (.int .i64 ((f : Int) + (n : Int) - 1)) := by (first | (rw [hw3]; assumption) | (simp [go_sem, *]; done))
  have crz3_0 : w3.cell? ⟨w.heap.size + 1 + 1, 0, none⟩ = some (.int .i64 (0)) := by (first | (rw [hw3]; assumption) | (simp [go_sem, *]; done))
  have prz3_0 : w3.frozen? ⟨w.heap.size + 1 + 1, 0, none⟩ = false := by (first | (rw [hw3]; assumption) | (simp [go_sem, *]; done))
  have crz3_1 : w3.cell? ⟨w.heap.size + 1 + 1, 1, none⟩ = some (.int .i64 (0)) := by (first | (rw [hw3]; assumption) | (simp [go_sem, *]; done))
  have prz3_1 : w3.frozen? ⟨w.heap.size + 1 + 1, 1, none⟩ = false := by (first | (rw [hw3]; assumption) | (simp [go_sem, *]; done))
  have cs3_0 : w3.heap[w2.heap.size]? = some (.cells (S) 95 (0, 0)) := by rw [hw3]; (repeat (first | assumption | (refine heap_alloc_at ?_; (first | rfl | (simp only [World.size_alloc, World.size_drew, World.size_setCell, size_drewN]; done))) | refine block_alloc ?_))
  have hz30 : w.heap.size + 1 < w3.heap.size := by (first | (rw [hw3]; simp; omega) | (rw [hw3]; simp; done) | (rw [hw3]; omega))
  have hz31 : w.heap.size + 1 + 1 < w3.heap.size := by (first | (rw [hw3]; simp; omega) | (rw [hw3]; simp; done) | (rw [hw3]; omega))
  have hz32 : w2.heap.size < w3.heap.size := by (first | (rw [hw3]; simp; omega) | (rw [hw3]; simp; done) | (rw [hw3]; omega))
  clear cg2_0 cg2_1
  clear crz2_0 crz2_1 prz2_0 prz2_1
  clear hw3
  have hcf : w3.cell? ⟨w2.heap.size, f, none⟩ = some (.int .i64 (s f)) := (cell_block cs3_0).trans hcf0.out
  refine wp_region_held_drew (S := fun w' => w'.heap[w2.heap.size]? = some (.cells (S) 95 (0, 0)) ∧ w'.cell? ⟨w.heap.size + 1, 0, none⟩ = some (.int .i64 ((f : Int))) ∧ w'.cell? ⟨w.heap.size + 1, 1, none⟩ = some (.int .i64 ((f : Int) + (n : Int) - 1)) ∧ w'.cell? ⟨w.heap.size + 1 + 1, 0, none⟩ = some (.int .i64 (0)) ∧ w'.cell? ⟨w.heap.size + 1 + 1, 1, none⟩ = some (.int .i64 (0)) ∧ w'.cell? ⟨w2.heap.size, f, none⟩ = some (.int .i64 (s f)) ∧ w'.frozen? ⟨w.heap.size + 1 + 1, 0, none⟩ = false ∧ w'.frozen? ⟨w.heap.size + 1 + 1, 1, none⟩ = false) (by kernel_rfl) ?_ (fun hH1 => ?_)
  · (first | assumption | (refine ⟨?_, ?_, ?_, ?_, ?_, ?_, ?_, ?_⟩ <;> (first | assumption | ((repeat (first | assumption | (refine heap_alloc_at ?_; (first | rfl | (simp only [World.size_alloc, World.size_drew, World.size_setCell, size_drewN]; done))) | refine block_alloc ?_ | refine Buf.alloc ?_ _ | refine Buf.drew ?_ | refine Buf.setCell ?_ (by omega) _ _)); done) | (go_keep; done) | (simp [*, go_sem]; done))))
  refine wpAnyH_pure (i := 0) (v := ?_) rfl (by kernel_rfl) (by kernel_rfl) (by kernel_rfl) (fun _ _ _ h => h) (by rfl) (by assumption) ?_ ?_
  rotate_left
  · (intro w hSw; (try dsimp only at hSw); go_simp; (try with_reducible rfl))
  simp only [Act.put, List.getElem_toArray, List.getElem_cons_succ, List.getElem_cons_zero, List.setIfInBounds_toArray, List.set_cons_zero, List.set_cons_succ]
  refine wpAnyH_pure (i := 1) (v := ?_) rfl (by kernel_rfl) (by kernel_rfl) (by kernel_rfl) (fun _ _ _ h => h) (by rfl) (by assumption) ?_ ?_
  rotate_left
  · (intro w hSw; (try dsimp only at hSw); go_simp; (try with_reducible rfl))
  simp only [Act.put, List.getElem_toArray, List.getElem_cons_succ, List.getElem_cons_zero, List.setIfInBounds_toArray, List.set_cons_zero, List.set_cons_succ]
  refine wpAnyH_pure (i := 2) (v := ?_) rfl (by kernel_rfl) (by kernel_rfl) (by kernel_rfl) (fun _ _ _ h => h) (by rfl) (by assumption) ?_ ?_
  rotate_left
  · (intro w hSw; (try dsimp only at hSw); go_simp; (try with_reducible rfl))
  simp only [Act.put, List.getElem_toArray, List.getElem_cons_succ, List.getElem_cons_zero, List.setIfInBounds_toArray, List.set_cons_zero, List.set_cons_succ]
  refine wpAnyH_pure (i := 3) (v := ?_) rfl (by kernel_rfl) (by kernel_rfl) (by kernel_rfl) (fun _ _ _ h => h) (by rfl) (by assumption) ?_ ?_
  rotate_left
  · (intro w hSw; (try dsimp only at hSw); go_simp; (try with_reducible rfl))
  simp only [Act.put, List.getElem_toArray, List.getElem_cons_succ, List.getElem_cons_zero, List.setIfInBounds_toArray, List.set_cons_zero, List.set_cons_succ]
  refine wpAnyH_pure (i := 4) (v := ?_) rfl (by kernel_rfl) (by kernel_rfl) (by kernel_rfl) (fun _ _ _ h => h) (by rfl) (by assumption) ?_ ?_
  rotate_left
  · (intro w hSw; (try dsimp only at hSw); go_simp; (try with_reducible rfl))
  simp only [Act.put, List.getElem_toArray, List.getElem_cons_succ, List.getElem_cons_zero, List.setIfInBounds_toArray, List.set_cons_zero, List.set_cons_succ]
  refine wpAnyH_pure (i := 5) (v := ?_) rfl (by kernel_rfl) (by kernel_rfl) (by kernel_rfl) (fun _ _ _ h => h) (by rfl) (by assumption) ?_ ?_
  rotate_left
  · (intro w hSw; (try dsimp only at hSw); go_simp; (try with_reducible rfl))
  simp only [Act.put, List.getElem_toArray, List.getElem_cons_succ, List.getElem_cons_zero, List.setIfInBounds_toArray, List.set_cons_zero, List.set_cons_succ]
  refine wpAnyH_pure (i := 6) (v := ?_) rfl (by kernel_rfl) (by kernel_rfl) (by kernel_rfl) (fun _ _ _ h => h) (by rfl) (by assumption) ?_ ?_
  rotate_left
  · (intro w hSw; (try dsimp only at hSw); go_simp; (try with_reducible rfl))
  simp only [Act.put, List.getElem_toArray, List.getElem_cons_succ, List.getElem_cons_zero, List.setIfInBounds_toArray, List.set_cons_zero, List.set_cons_succ]
  refine wpAnyH_ready (rs := [7]) (by kernel_rfl) (by simp) ?_
  refine AllReadyH.cons rfl (fun Kq hKq => ?_) AllReadyH.nil
  go_simp
  refine hKq.out _ _ ?_ (fun hH2 => ?_)
  · (first | assumption | (refine ⟨?_, ?_, ?_, ?_, ?_, ?_, ?_, ?_⟩ <;> (first | assumption | ((repeat (first | assumption | (refine heap_alloc_at ?_; (first | rfl | (simp only [World.size_alloc, World.size_drew, World.size_setCell, size_drewN]; done))) | refine block_alloc ?_ | refine Buf.alloc ?_ _ | refine Buf.drew ?_ | refine Buf.setCell ?_ (by omega) _ _)); done) | (go_keep; done) | (simp [*, go_sem]; done))))
  clear hKq Kq
  clear hH1
  refine wpAnyH_ready (rs := [8]) (by kernel_rfl) (by simp) ?_
  refine AllReadyH.cons rfl (fun Kq hKq => ?_) AllReadyH.nil
  go_simp
  refine hKq.out _ _ ?_ (fun hH3 => ?_)
  · (first | (refine ⟨?_, ?_, ?_, ?_, ?_, ?_, ?_, ?_⟩ <;> ((repeat (first | refine (World.cell?_setCell_far _ _ _ _ (by dsimp only; omega)).trans ?_ | refine (World.frozen?_setCell _ _ _ _).trans ?_ | refine (block_setCell_other (by dsimp only; omega)).trans ?_)); with_reducible assumption)) | (first | assumption | (refine ⟨?_, ?_, ?_, ?_, ?_, ?_, ?_, ?_⟩ <;> (first | assumption | ((repeat (first | assumption | (refine heap_alloc_at ?_; (first | rfl | (simp only [World.size_alloc, World.size_drew, World.size_setCell, size_drewN]; done))) | refine block_alloc ?_ | refine Buf.alloc ?_ _ | refine Buf.drew ?_ | refine Buf.setCell ?_ (by omega) _ _)); done) | (go_keep; done) | (simp [*, go_sem]; done)))) | (go_keep; done) | (simp [*, go_sem]; done))
  clear hKq Kq
  clear hH2
  refine wpAnyH_done (by kernel_rfl) ?_ _
  go_wp2_with fail
  first | refine abs_calls (fun w4 hw4 => ?_) | refine abs_last (fun w4 hw4 => ?_)
  have hw40 : Below w.heap.size w w4 := by rw [hw4]; (repeat' (first | (with_reducible exact Below.refl _ _) | (with_reducible assumption) | (with_reducible refine Below.alloc ?_ ?_ _) | (with_reducible refine Below.drew ?_) | (with_reducible refine below_drewN ?_ _) | (with_reducible refine Below.setCell ?_ ?_ _) | (with_reducible refine below_step (by with_reducible assumption) ?_ ?_) | (with_reducible exact Below.size (by with_reducible assumption)) | go_size))
  have hzz4 := hw40.size
  have cg4_0 : w4.cell? ⟨w.heap.size + 1, 0, none⟩ = some (.int .i64 ((f : Int))) := by (first | (rw [hw4]; assumption) | (simp [go_sem, *]; done))
  have cg4_1 : w4.cell? ⟨w.heap.size + 1, 1, none⟩ = some (.int .i64 ((f : Int) + (n : Int) - 1)) := by (first | (rw [hw4]; assumption) | (simp [go_sem, *]; done))
  have crz4_0 : w4.cell? ⟨w.heap.size + 1 + 1, 0, none⟩ = some (.int .i64 (0)) := by (first | (rw [hw4]; assumption) | (simp [go_sem, *]; done))
  have prz4_0 : w4.frozen? ⟨w.heap.size + 1 + 1, 0, none⟩ = false := by (first | (rw [hw4]; assumption) | (simp [go_sem, *]; done))
  have crz4_1 : w4.cell? ⟨w.heap.size + 1 + 1, 1, none⟩ = some (.int .i64 (0)) := by (first | (rw [hw4]; assumption) | (simp [go_sem, *]; done))
  have prz4_1 : w4.frozen? ⟨w.heap.size + 1 + 1, 1, none⟩ = false := by (first | (rw [hw4]; assumption) | (simp [go_sem, *]; done))
  have cs4_0 : w4.heap[w2.heap.size]? = some (.cells (S) 95 (0, 0)) := by rw [hw4]; (repeat (first | assumption | (refine heap_alloc_at ?_; (first | rfl | (simp only [World.size_alloc, World.size_drew, World.size_setCell, size_drewN]; done))) | refine block_alloc ?_))
  have coz4_0 : w4.cell? ⟨w3.heap.size, 0, none⟩ = some (.int .i64 ((f : Int))) := by (first | (rw [hw4]; assumption) | (simp [go_sem, *]; done))
  have poz4_0 : w4.frozen? ⟨w3.heap.size, 0, none⟩ = false := by (first | (rw [hw4]; assumption) | (simp [go_sem, *]; done))
  have coz4_1 : w4.cell? ⟨w3.heap.size, 1, none⟩ = some (.int .i64 (s f)) := by (first | (rw [hw4]; assumption) | (simp [go_sem, *]; done))
  have poz4_1 : w4.frozen? ⟨w3.heap.size, 1, none⟩ = false := by (first | (rw [hw4]; assumption) | (simp [go_sem, *]; done))
  have hz40 : w3.heap.size < w4.heap.size := by (first | (rw [hw4]; simp; omega) | (rw [hw4]; simp; done) | (rw [hw4]; omega))
  clear cg3_0 cg3_1
  clear crz3_0 crz3_1 prz3_0 prz3_1
  clear cs3_0
  clear hw4
  have HB4 : Hid (Below w.heap.size w w4) := Lib.hid hw40
  clear hw40 hw30
  go_loopw [7] (fun i wr => ∃ k : Nat, k ≤ n ∧ i = .int .i64 ((f : Int) + (k : Int)) ∧ Hid (Below w.heap.size w wr) ∧ wr.heap[w2.heap.size]? = some (.cells S 95 (0, 0)) ∧ wr.cell? ⟨w.heap.size + 1, 0, none⟩ = some (.int .i64 (f : Int)) ∧ wr.cell? ⟨w.heap.size + 1, 1, none⟩ = some (.int .i64 ((f : Int) + (n : Int) - 1))
    ∧ wr.cell? ⟨w.heap.size + 1 + 1, 0, none⟩ = some (.int .i64 0) ∧ wr.cell? ⟨w.heap.size + 1 + 1, 1, none⟩ = some (.int .i64 0) ∧ wr.frozen? ⟨w.heap.size + 1 + 1, 0, none⟩ = false ∧ wr.frozen? ⟨w.heap.size + 1 + 1, 1, none⟩ = false
    ∧ wr.cell? ⟨w3.heap.size, 0, none⟩ = some (.int .i64 ((f : Int) + (pm k : Int))) ∧ wr.cell? ⟨w3.heap.size, 1, none⟩ = some (.int .i64 (s (f + pm k))) ∧ wr.frozen? ⟨w3.heap.size, 0, none⟩ = false ∧ wr.frozen? ⟨w3.heap.size, 1, none⟩ = false) (fun i _ => f + n - (intOf i).toNat)
  case atStart => exact ⟨0, Nat.zero_le _, by simp, HB4, cs4_0, cg4_0, cg4_1, crz4_0, crz4_1, prz4_0, prz4_1, by rw [HP0.out]; simpa using coz4_0, by rw [HP0.out]; exact coz4_1, poz4_0, poz4_1⟩
  case round =>
    clear HB4 cs4_0 cg4_0 cg4_1 crz4_0 crz4_1 prz4_0 prz4_1 coz4_0 coz4_1 poz4_0 poz4_1
    obtain ⟨k, hk, rfl, HB, hS, g0, g1, r0, r1, q0, q1, o0, o1, p0, p1⟩ := hrel
    have ne1 : ¬ w.heap.size + 1 = w3.heap.size := by omega
    have ne2 : ¬ w3.heap.size = w.heap.size + 1 := by omega
    have ne3 : ¬ w.heap.size + 1 + 1 = w3.heap.size := by omega
    have ne4 : ¬ w3.heap.size = w.heap.size + 1 + 1 := by omega
    by_cases hlt : k < n
    · have hc0 : wr.cell? ⟨w2.heap.size, f + k, none⟩ = some (.int .i64 (s (f + k))) := (cell_block hS).trans (HG.out (f + k) (by omega))
      have e2 : (0 : Int) ≤ (f : Int) + (k : Int) := by omega
      have e3 : (f : Int) + (k : Int) < 61 := by omega
      have e4 : (f : Int) + (k : Int) ≤ (f : Int) + (n : Int) - 1 := by omega
      have n1 : ((f : Int) + (k : Int)).toNat = f + k := by omega
      have wr1 : IntKind.i64.wrap ((f : Int) + (k : Int) + 1) = (f : Int) + ((k + 1 : Nat) : Int) := (IntWalk.i64_in _ (by omega)).trans (by omega)
      by_cases hg : s (f + pm k) < s (f + k)
      · have HPk := Lib.hid ((HP.out k).trans (if_pos hg))
        have HSk := Lib.hid hS
        clear hS
        generalize hm0 : s (f + pm k) = m0 at *
        generalize hm1 : s (f + k) = m1 at *
        have HM1 := Lib.hid hm1
        clear hm0 hm1
        go_wp2
        refine wp_region_held_drew (S := fun w' => w'.heap[w2.heap.size]? = some (.cells (S) 95 (0, 0)) ∧ w'.cell? ⟨w.heap.size + 1, 0, none⟩ = some (.int .i64 ((f : Int))) ∧ w'.cell? ⟨w.heap.size + 1, 1, none⟩ = some (.int .i64 ((f : Int) + (n : Int) - 1)) ∧ w'.cell? ⟨w.heap.size + 1 + 1, 0, none⟩ = some (.int .i64 (0)) ∧ w'.cell? ⟨w.heap.size + 1 + 1, 1, none⟩ = some (.int .i64 (0)) ∧ w'.cell? ⟨w3.heap.size, 0, none⟩ = some (.int .i64 ((f : Int) + (pm k : Int))) ∧ w'.cell? ⟨w3.heap.size, 1, none⟩ = some (.int .i64 (m0)) ∧ w'.cell? ⟨w2.heap.size, f + k, none⟩ = some (.int .i64 (m1)) ∧ w'.frozen? ⟨w.heap.size + 1 + 1, 0, none⟩ = false ∧ w'.frozen? ⟨w.heap.size + 1 + 1, 1, none⟩ = false ∧ w'.frozen? ⟨w3.heap.size, 0, none⟩ = false ∧ w'.frozen? ⟨w3.heap.size, 1, none⟩ = false) (by kernel_rfl) ?_ (fun hH4 => ?_)
        · (first | assumption | (refine ⟨?_, ?_, ?_, ?_, ?_, ?_, ?_, ?_, ?_, ?_, ?_, ?_⟩ <;> (first | assumption | ((repeat (first | assumption | (refine heap_alloc_at ?_; (first | rfl | (simp only [World.size_alloc, World.size_drew, World.size_setCell, size_drewN]; done))) | refine block_alloc ?_ | refine Buf.alloc ?_ _ | refine Buf.drew ?_ | refine Buf.setCell ?_ (by omega) _ _)); done) | (go_keep; done) | (simp [*, go_sem]; done))))
        refine wpAnyH_pure (i := 0) (v := ?_) rfl (by kernel_rfl) (by kernel_rfl) (by kernel_rfl) (fun _ _ _ h => h) (by rfl) (by assumption) ?_ ?_
        rotate_left
        · (intro w hSw; (try dsimp only at hSw); go_simp; (try with_reducible rfl))
        simp only [Act.put, List.getElem_toArray, List.getElem_cons_succ, List.getElem_cons_zero, List.setIfInBounds_toArray, List.set_cons_zero, List.set_cons_succ]
        refine wpAnyH_pure (i := 1) (v := ?_) rfl (by kernel_rfl) (by kernel_rfl) (by kernel_rfl) (fun _ _ _ h => h) (by rfl) (by assumption) ?_ ?_
        rotate_left
        · (intro w hSw; (try dsimp only at hSw); go_simp; (try with_reducible rfl))
        simp only [Act.put, List.getElem_toArray, List.getElem_cons_succ, List.getElem_cons_zero, List.setIfInBounds_toArray, List.set_cons_zero, List.set_cons_succ]
        refine wpAnyH_pure (i := 2) (v := ?_) rfl (by kernel_rfl) (by kernel_rfl) (by kernel_rfl) (fun _ _ _ h => h) (by rfl) (by assumption) ?_ ?_
        rotate_left
        · (intro w hSw; (try dsimp only at hSw); go_simp; (try with_reducible rfl))
        simp only [Act.put, List.getElem_toArray, List.getElem_cons_succ, List.getElem_cons_zero, List.setIfInBounds_toArray, List.set_cons_zero, List.set_cons_succ]
        refine wpAnyH_pure (i := 3) (v := ?_) rfl (by kernel_rfl) (by kernel_rfl) (by kernel_rfl) (fun _ _ _ h => h) (by rfl) (by assumption) ?_ ?_
        rotate_left
        · (intro w hSw; (try dsimp only at hSw); go_simp; (try with_reducible rfl))
        simp only [Act.put, List.getElem_toArray, List.getElem_cons_succ, List.getElem_cons_zero, List.setIfInBounds_toArray, List.set_cons_zero, List.set_cons_succ]
        refine wpAnyH_pure (i := 4) (v := ?_) rfl (by kernel_rfl) (by kernel_rfl) (by kernel_rfl) (fun _ _ _ h => h) (by rfl) (by assumption) ?_ ?_
        rotate_left
        · (intro w hSw; (try dsimp only at hSw); go_simp; (try with_reducible rfl))
        simp only [Act.put, List.getElem_toArray, List.getElem_cons_succ, List.getElem_cons_zero, List.setIfInBounds_toArray, List.set_cons_zero, List.set_cons_succ]
        refine wpAnyH_pure (i := 5) (v := ?_) rfl (by kernel_rfl) (by kernel_rfl) (by kernel_rfl) (fun _ _ _ h => h) (by rfl) (by assumption) ?_ ?_
        rotate_left
        · (intro w hSw; (try dsimp only at hSw); go_simp; (try with_reducible rfl))
        simp only [Act.put, List.getElem_toArray, List.getElem_cons_succ, List.getElem_cons_zero, List.setIfInBounds_toArray, List.set_cons_zero, List.set_cons_succ]
        refine wpAnyH_done (by kernel_rfl) ?_ _
        go_wp2
        go_roundw
        case rel => exact ⟨k + 1, by omega, by first | rfl | go_num | simp, Lib.hid (by have := HB.out; (repeat' (first | (with_reducible exact Below.refl _ _) | (with_reducible assumption) | (with_reducible refine Below.alloc ?_ ?_ _) | (with_reducible refine Below.drew ?_) | (with_reducible refine below_drewN ?_ _) | (with_reducible refine Below.setCell ?_ ?_ _) | (with_reducible refine below_step (by with_reducible assumption) ?_ ?_) | (with_reducible exact Below.size (by with_reducible assumption)) | go_size))), by (repeat (refine (block_setCell_other (by omega)).trans ?_)); exact HSk.out, by simp [go_sem, *], by simp [go_sem, *], by simp [go_sem, *], by simp [go_sem, *], by simp [go_sem, *], by simp [go_sem, *], by rw [HPk.out]; simp [go_sem, *], by rw [HPk.out, HM1.out]; simp [go_sem, *], by simp [go_sem, *], by simp [go_sem, *]⟩
        case measure => simp [intOf]; omega
      · have hg2 : decide (s (f + pm k) < s (f + k)) = false := decide_eq_false hg
        have HPk := Lib.hid ((HP.out k).trans (if_neg hg))
        have HSk := Lib.hid hS
        clear hS hg
        generalize hm0 : s (f + pm k) = m0 at *
        generalize hm1 : s (f + k) = m1 at *
        have HM0 := Lib.hid hm0
        clear hm0 hm1
        go_wp2
        refine wp_region_held_drew (S := fun w' => w'.heap[w2.heap.size]? = some (.cells (S) 95 (0, 0)) ∧ w'.cell? ⟨w.heap.size + 1, 0, none⟩ = some (.int .i64 ((f : Int))) ∧ w'.cell? ⟨w.heap.size + 1, 1, none⟩ = some (.int .i64 ((f : Int) + (n : Int) - 1)) ∧ w'.cell? ⟨w2.heap.size, f + k, none⟩ = some (.int .i64 (m1)) ∧ w'.cell? ⟨w.heap.size + 1 + 1, 0, none⟩ = some (.int .i64 (0)) ∧ w'.cell? ⟨w.heap.size + 1 + 1, 1, none⟩ = some (.int .i64 (0)) ∧ w'.cell? ⟨w3.heap.size, 0, none⟩ = some (.int .i64 ((f : Int) + (pm k : Int))) ∧ w'.cell? ⟨w3.heap.size, 1, none⟩ = some (.int .i64 (m0)) ∧ w'.frozen? ⟨w.heap.size + 1 + 1, 0, none⟩ = false ∧ w'.frozen? ⟨w.heap.size + 1 + 1, 1, none⟩ = false ∧ w'.frozen? ⟨w3.heap.size, 0, none⟩ = false ∧ w'.frozen? ⟨w3.heap.size, 1, none⟩ = false) (by kernel_rfl) ?_ (fun hH5 => ?_)
        · (first | assumption | (refine ⟨?_, ?_, ?_, ?_, ?_, ?_, ?_, ?_, ?_, ?_, ?_, ?_⟩ <;> (first | assumption | ((repeat (first | assumption | (refine heap_alloc_at ?_; (first | rfl | (simp only [World.size_alloc, World.size_drew, World.size_setCell, size_drewN]; done))) | refine block_alloc ?_ | refine Buf.alloc ?_ _ | refine Buf.drew ?_ | refine Buf.setCell ?_ (by omega) _ _)); done) | (go_keep; done) | (simp [*, go_sem]; done))))
        refine wpAnyH_pure (i := 0) (v := ?_) rfl (by kernel_rfl) (by kernel_rfl) (by kernel_rfl) (fun _ _ _ h => h) (by rfl) (by assumption) ?_ ?_
        rotate_left
        · (intro w hSw; (try dsimp only at hSw); go_simp; (try with_reducible rfl))
        simp only [Act.put, List.getElem_toArray, List.getElem_cons_succ, List.getElem_cons_zero, List.setIfInBounds_toArray, List.set_cons_zero, List.set_cons_succ]
        refine wpAnyH_pure (i := 1) (v := ?_) rfl (by kernel_rfl) (by kernel_rfl) (by kernel_rfl) (fun _ _ _ h => h) (by rfl) (by assumption) ?_ ?_
        rotate_left
        · (intro w hSw; (try dsimp only at hSw); go_simp; (try with_reducible rfl))
        simp only [Act.put, List.getElem_toArray, List.getElem_cons_succ, List.getElem_cons_zero, List.setIfInBounds_toArray, List.set_cons_zero, List.set_cons_succ]
        refine wpAnyH_pure (i := 2) (v := ?_) rfl (by kernel_rfl) (by kernel_rfl) (by kernel_rfl) (fun _ _ _ h => h) (by rfl) (by assumption) ?_ ?_
        rotate_left
        · (intro w hSw; (try dsimp only at hSw); go_simp; (try with_reducible rfl))
        simp only [Act.put, List.getElem_toArray, List.getElem_cons_succ, List.getElem_cons_zero, List.setIfInBounds_toArray, List.set_cons_zero, List.set_cons_succ]
        refine wpAnyH_pure (i := 3) (v := ?_) rfl (by kernel_rfl) (by kernel_rfl) (by kernel_rfl) (fun _ _ _ h => h) (by rfl) (by assumption) ?_ ?_
        rotate_left
        · (intro w hSw; (try dsimp only at hSw); go_simp; (try with_reducible rfl))
        simp only [Act.put, List.getElem_toArray, List.getElem_cons_succ, List.getElem_cons_zero, List.setIfInBounds_toArray, List.set_cons_zero, List.set_cons_succ]
        refine wpAnyH_pure (i := 4) (v := ?_) rfl (by kernel_rfl) (by kernel_rfl) (by kernel_rfl) (fun _ _ _ h => h) (by rfl) (by assumption) ?_ ?_
        rotate_left
        · (intro w hSw; (try dsimp only at hSw); go_simp; (try with_reducible rfl))
        simp only [Act.put, List.getElem_toArray, List.getElem_cons_succ, List.getElem_cons_zero, List.setIfInBounds_toArray, List.set_cons_zero, List.set_cons_succ]
        refine wpAnyH_pure (i := 5) (v := ?_) rfl (by kernel_rfl) (by kernel_rfl) (by kernel_rfl) (fun _ _ _ h => h) (by rfl) (by assumption) ?_ ?_
        rotate_left
        · (intro w hSw; (try dsimp only at hSw); go_simp; (try with_reducible rfl))
        simp only [Act.put, List.getElem_toArray, List.getElem_cons_succ, List.getElem_cons_zero, List.setIfInBounds_toArray, List.set_cons_zero, List.set_cons_succ]
        refine wpAnyH_done (by kernel_rfl) ?_ _
        go_wp2
        go_roundw
        case rel => exact ⟨k + 1, by omega, by first | rfl | go_num | simp, Lib.hid (by have := HB.out; (repeat' (first | (with_reducible exact Below.refl _ _) | (with_reducible assumption) | (with_reducible refine Below.alloc ?_ ?_ _) | (with_reducible refine Below.drew ?_) | (with_reducible refine below_drewN ?_ _) | (with_reducible refine Below.setCell ?_ ?_ _) | (with_reducible refine below_step (by with_reducible assumption) ?_ ?_) | (with_reducible exact Below.size (by with_reducible assumption)) | go_size))), HSk.out, by simp [go_sem, *], by simp [go_sem, *], by simp [go_sem, *], by simp [go_sem, *], by simp [go_sem, *], by simp [go_sem, *], by rw [HPk.out]; simp [go_sem, *], by rw [HPk.out, HM0.out]; simp [go_sem, *], by simp [go_sem, *], by simp [go_sem, *]⟩
        case measure => simp [intOf]; omega
    · obtain rfl : k = n := by omega
      have e2 : decide ((f : Int) + (k : Int) ≤ (f : Int) + (k : Int) - 1) = false := decide_eq_false (by omega)
      generalize hm0 : s (f + pm k) = m0 at *
      have HM0 := Lib.hid hm0
      clear hm0
      go_wp2
      refine bodyPost_ret (by simp [results, Try.results69, go_sem, *]; rfl) rfl ?_
      exact ⟨by rw [HM0.out], by have := HB.out; (repeat' (first | (with_reducible exact Below.refl _ _) | (with_reducible assumption) | (with_reducible refine Below.alloc ?_ ?_ _) | (with_reducible refine Below.drew ?_) | (with_reducible refine below_drewN ?_ _) | (with_reducible refine Below.setCell ?_ ?_ _) | (with_reducible refine below_step (by with_reducible assumption) ?_ ?_) | (with_reducible exact Below.size (by with_reducible assumption)) | go_size))⟩
end Go.Proofs.Ythgnemkfaiejbaa
