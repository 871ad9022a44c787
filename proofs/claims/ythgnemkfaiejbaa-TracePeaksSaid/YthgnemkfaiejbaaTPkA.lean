/-
  PEAKS: errors of squaresIn and PeakIn; slices.IndexFunc with the question of FirstAbove; FirstAbove.
-/
import Derived.Test.YthgnemkfaiejbaaTPeakIn
import Derived.Test.YthgnemkfaiejbaaTAnaE
set_option linter.unusedVariables false
set_option linter.unusedSimpArgs false
namespace Go.Proofs.Ythgnemkfaiejbaa
open Go.RowKit

/-- the first number below n with p -/
def fi (p : Nat → Bool) : Nat → Option Nat
  | 0 => none
  | n + 1 => match fi p n with
    | some k => some k
    | none => if p n then some n else none
theorem fi_stay (p : Nat → Bool) {k j : Nat} (h : fi p j = some k) : ∀ n, fi p (j + n) = some k
  | 0 => h
  | n + 1 => by
    show (match fi p (j + n) with | some k => some k | none => _) = _
    rw [fi_stay p h n]
theorem fi_lt (p : Nat → Bool) {k : Nat} : ∀ {n}, fi p n = some k → k < n
  | 0, h => by cases h
  | n + 1, h => by
    unfold fi at h
    cases e : fi p n with
    | some j => rw [e] at h; have := fi_lt p e; simp at h; omega
    | none =>
      rw [e] at h
      simp only at h
      split at h
      · simp at h; omega
      · cases h
def fiV (p : Nat → Bool) (n : Nat) : Int := match fi p n with | some k => (k : Int) | none => -1
set_option maxRecDepth 100000 in
set_option maxHeartbeats 1000000 in
theorem squaresIn_err (x : Nat → Int) (s : Nat → Int) (f t e1 : Int) (w : World) (KE : Hid (∀ W, Calls Try.prog 61 #[.agg (tC x)] W fun e w' => e = .returned (.tuple #[.agg (sC s), .int .i64 e1]) ∧ Below W.heap.size W w')) (h : frst [e1, gtE f t] ≠ 0) :
    Calls Try.prog 137 #[.agg (tC x), .agg #[.int .i64 f, .int .i64 t]] w fun e w' => e = .returned (.tuple #[.slice none 0 0, .int .i64 (frst [e1, gtE f t])]) ∧ Below w.heap.size w w' := by
  have K2 := Lib.hid (fun W => gateError_any f t W)
  have hT : (frst [e1, gtE f t] != 0) = true := by simpa using h
  have hs := Lib.hid (tC_size x)
  have hsS := Lib.hid (sC_size s)
  have hoS := Lib.hid (sC_one s)
  have hzs := Lib.hid (sC_size fun _ => 0)
  generalize tC x = c at *
  generalize sC s = S at *
  obtain ⟨z, hz⟩ : ∃ z, z = sC fun _ => 0 := ⟨_, rfl⟩
  have hzv : ∀ w : World, (zeroValue 95).run Try.prog w = .ok (.agg z) w := fun w => by rw [hz]; exact zero_sq w
  have HZV := Lib.hid hzv
  rw [← hz] at hzs
  have HF := Lib.hid (fun (b : Nat) (W : World) h0 h1 => first2 e1 (gtE f t) b W h0 h1)
  clear hz hzv h
  generalize frst [e1, gtE f t] = E at *
  generalize gtE f t = G at *
  go_enter Try.func137, Try.ntmps137
  go_wp2_with (refine wpl_load rfl 26 26 _ w.heap.size c (0, 0) _ rfl rfl Try.underlying26 rfl (by rw [hs.out]; exact infoTrace) (block_alloc (heap_alloc_last w _)) ?_)
  refine (KE.out _).mono ?_
  rintro e w2 ⟨rfl, hw2⟩
  obtain ⟨hcw2, hfw2, hlw2, hmw2, hnw2⟩ := bcell3 hw2
  have hz2 := hw2.size
  simp only [World.size_alloc] at hz2
  have cg2_0 : w2.cell? ⟨w.heap.size + 1, 0, none⟩ = some (.int .i64 f) := (hcw2 _ _ (by simp)).trans (by simp [go_sem])
  have cg2_1 : w2.cell? ⟨w.heap.size + 1, 1, none⟩ = some (.int .i64 t) := (hcw2 _ _ (by simp)).trans (by simp [go_sem])
  have og2 : w.heap.size + 1 < w2.heap.size := by omega
  have hb2 : Below w.heap.size w w2 := by (repeat' (first | (with_reducible exact Below.refl _ _) | (with_reducible assumption) | (with_reducible refine Below.alloc ?_ ?_ _) | (with_reducible refine Below.drew ?_) | (with_reducible refine below_drewN ?_ _) | (with_reducible refine Below.setCell ?_ ?_ _) | (with_reducible refine below_step (by with_reducible assumption) ?_ ?_) | (with_reducible exact Below.size (by with_reducible assumption)) | go_size))
  clear hcw2 hfw2 hlw2 hmw2 hnw2 hw2
  go_wp2_with (first | (refine wpl_alloc rfl 95 z rfl (HZV.out _) ?_) | (refine wpl_store_new rfl 95 _ _ z S rfl rfl rfl (by rw [hsS.out]; exact infoSq) (by rw [hzs.out, hsS.out]) hoS.out ?_))
  refine (K2.out _).mono ?_
  rintro e w3 ⟨rfl, hw3⟩
  have hz3 := hw3.size
  simp only [World.size_alloc] at hz3
  go_wp2_with fail
  refine (HF.out w3.heap.size _ (cell_fresh _ _ _ _ _ _ rfl rfl) (cell_fresh _ _ _ _ _ _ rfl rfl)).mono ?_
  rintro e w' ⟨rfl, rfl⟩
  go_wp2
  go_ret2
  exact ⟨rfl, by (repeat' (first | (with_reducible exact Below.refl _ _) | (with_reducible assumption) | (with_reducible refine Below.alloc ?_ ?_ _) | (with_reducible refine Below.drew ?_) | (with_reducible refine below_drewN ?_ _) | (with_reducible refine Below.setCell ?_ ?_ _) | (with_reducible refine below_step (by with_reducible assumption) ?_ ?_) | (with_reducible exact Below.size (by with_reducible assumption)) | go_size))⟩
set_option maxRecDepth 100000 in
set_option maxHeartbeats 1000000 in
theorem peakIn_err (x : Nat → Int) (f t E : Int) (w : World) (h : (E != 0) = true) (KQ : Hid (∀ W, Calls Try.prog 137 #[.agg (tC x), .agg #[.int .i64 f, .int .i64 t]] W fun e w' => e = .returned (.tuple #[.slice none 0 0, .int .i64 E]) ∧ Below W.heap.size W w')) :
    Calls Try.prog 65 #[.agg (tC x), .agg #[.int .i64 f, .int .i64 t]] w fun e w' => e = .returned (.tuple #[.agg #[.int .i64 0, .int .i64 0], .int .i64 E]) ∧ Below w.heap.size w w' := by
  have hs := Lib.hid (tC_size x)
  generalize tC x = c at *
  go_enter Try.func65, Try.ntmps65
  go_wp2_with (refine wpl_load rfl 26 26 _ w.heap.size c (0, 0) _ rfl rfl Try.underlying26 rfl (by rw [hs.out]; exact infoTrace) (block_alloc (block_alloc (heap_alloc_last w _))) ?_)
  refine (KQ.out _).mono ?_
  rintro e w2 ⟨rfl, hw2⟩
  obtain ⟨hcw2, hfw2, hlw2, hmw2, hnw2⟩ := bcell3 hw2
  have hz2 := hw2.size
  simp only [World.size_alloc] at hz2
  have crz2_0 : w2.cell? ⟨w.heap.size + 1 + 1, 0, none⟩ = some (.int .i64 0) := (hcw2 _ _ (by simp)).trans (by simp [go_sem])
  have crz2_1 : w2.cell? ⟨w.heap.size + 1 + 1, 1, none⟩ = some (.int .i64 0) := (hcw2 _ _ (by simp)).trans (by simp [go_sem])
  have prz2_0 : w2.frozen? ⟨w.heap.size + 1 + 1, 0, none⟩ = false := (hfw2 _ _ (by simp)).trans (by simp [go_sem])
  have prz2_1 : w2.frozen? ⟨w.heap.size + 1 + 1, 1, none⟩ = false := (hfw2 _ _ (by simp)).trans (by simp [go_sem])
  have or2 : w.heap.size + 1 + 1 < w2.heap.size := by omega
  have hb2 : Below w.heap.size w w2 := by (repeat' (first | (with_reducible exact Below.refl _ _) | (with_reducible assumption) | (with_reducible refine Below.alloc ?_ ?_ _) | (with_reducible refine Below.drew ?_) | (with_reducible refine below_drewN ?_ _) | (with_reducible refine Below.setCell ?_ ?_ _) | (with_reducible refine below_step (by with_reducible assumption) ?_ ?_) | (with_reducible exact Below.size (by with_reducible assumption)) | go_size))
  clear hcw2 hfw2 hlw2 hmw2 hnw2 hw2
  go_wp2
  refine bodyPost_ret (by simp [results, Try.results65, go_sem, *]; rfl) rfl ?_
  exact ⟨rfl, by (repeat' (first | (with_reducible exact Below.refl _ _) | (with_reducible assumption) | (with_reducible refine Below.alloc ?_ ?_ _) | (with_reducible refine Below.drew ?_) | (with_reducible refine below_drewN ?_ _) | (with_reducible refine Below.setCell ?_ ?_ _) | (with_reducible refine below_step (by with_reducible assumption) ?_ ?_) | (with_reducible exact Below.size (by with_reducible assumption)) | go_size))⟩
set_option maxRecDepth 100000 in
theorem above1_any (v sq : Int) (qb : Nat) (w : World) (hq : w.cell? ⟨qb, 0, none⟩ = some (.int .i64 sq)) :
    Calls Try.prog 141 #[.int .i64 v, .pointer (some ⟨qb, 0, none⟩)] w fun e w' => e = .returned (.bool (decide (sq ≤ v))) ∧ w = w' := by
  go_enter Try.func141, Try.ntmps141
  go_wp2
  go_ret
  exact ⟨rfl, rfl⟩
set_option maxRecDepth 100000 in
set_option maxHeartbeats 1000000 in
theorem indexFunc_any (s : Nat → Int) (b off n cap qb : Nat) (sq : Int) (w : World) (hn : n ≤ 1000) (ho : off ≤ 1000) (hcap : n ≤ cap ∧ cap ≤ 1000) (hc : Hid (∀ j, j < n → w.cell? ⟨b, off + j, none⟩ = some (.int .i64 (s j)))) (hq : w.cell? ⟨qb, 0, none⟩ = some (.int .i64 sq)) :
    Calls Try.prog 140 #[.slice (some ⟨b, off, none⟩) n cap, .func (.func 141) #[] #[.pointer (some ⟨qb, 0, none⟩)]] w fun e w' => e = .returned (.int .i64 (fiV (fun j => decide (sq ≤ s j)) n)) ∧ w = w' := by
  have K := Lib.hid (fun v W hq => above1_any v sq qb W hq)
  have HF : Hid (Enters Try.prog 141) := Lib.hid (enters_of Try.func141 (by kernel_rfl) rfl)
  have HQ := Lib.hid hq
  clear hq
  go_enter Try.func140, Try.ntmps140
  go_wp2
  go_loop [8] (fun i => ∃ k : Nat, k ≤ n ∧ fi (fun j => decide (sq ≤ s j)) k = none ∧ i = .int .i64 (k : Int)) (fun i => n - (intOf i).toNat)
  case atStart => exact ⟨0, Nat.zero_le _, rfl, rfl⟩
  case round =>
    obtain ⟨k, hk, hfw, rfl⟩ := hrel
    have HFW := Lib.hid hfw
    clear hfw
    by_cases hlt : k < n
    · have hc0 := hc.out k hlt
      have e0 : (0 : Int) ≤ (k : Int) := by omega
      have e1 : (k : Int) < (n : Int) := by omega
      have he : ∀ w, (callFunc 141 (#[.int .i64 (s k)] ++ #[.pointer (some ⟨qb, 0, none⟩)])).run Try.prog w = .ok (.enter 141 (#[.int .i64 (s k)] ++ #[.pointer (some ⟨qb, 0, none⟩)])) w := fun w => HF.out _ w
      by_cases hg : sq ≤ s k
      · have hw1 : fi (fun j => decide (sq ≤ s j)) (k + 1) = some k := by show (match fi (fun j => decide (sq ≤ s j)) k with | some k => some k | none => _) = _; rw [HFW.out]; simp [hg]
        have hw2 := fi_stay _ hw1 (n - (k + 1))
        rw [show k + 1 + (n - (k + 1)) = n by omega] at hw2
        have HN := Lib.hid (show fiV (fun j => decide (sq ≤ s j)) n = (k : Int) by unfold fiV; rw [hw2])
        clear hw1 hw2
        go_wp2_with fail
        refine (K.out _ _ HQ.out).mono ?_
        rintro e w' ⟨rfl, rfl⟩
        clear he
        go_wp2
        go_ret
        exact ⟨by rw [HN.out]; rfl, rfl⟩
      · have HW := Lib.hid (show fi (fun j => decide (sq ≤ s j)) (k + 1) = none by show (match fi (fun j => decide (sq ≤ s j)) k with | some k => some k | none => _) = _; rw [HFW.out]; simp [hg])
        have hg2 : decide (sq ≤ s k) = false := decide_eq_false hg
        go_wp2_with fail
        refine (K.out _ _ HQ.out).mono ?_
        rintro e w' ⟨rfl, rfl⟩
        clear he
        go_wp2
        go_round
        case rel => exact ⟨k + 1, by omega, HW.out, by go_num⟩
        case measure => simp [intOf]; omega
    · have e1 : ¬ (k : Int) < (n : Int) := by omega
      obtain rfl : k = n := by omega
      have HN := Lib.hid (show fiV (fun j => decide (sq ≤ s j)) k = -1 by unfold fiV; rw [HFW.out])
      go_wp2
      go_ret
      exact ⟨by rw [HN.out]; rfl, rfl⟩
set_option maxRecDepth 100000 in
set_option maxHeartbeats 1000000 in
theorem firstAbove_err (x : Nat → Int) (f t sq E : Int) (w : World) (h : (E != 0) = true) (KQ : Hid (∀ W, Calls Try.prog 137 #[.agg (tC x), .agg #[.int .i64 f, .int .i64 t]] W fun e w' => e = .returned (.tuple #[.slice none 0 0, .int .i64 E]) ∧ Below W.heap.size W w')) :
    Calls Try.prog 66 #[.agg (tC x), .agg #[.int .i64 f, .int .i64 t], .int .i64 sq] w fun e w' => e = .returned (.tuple #[.int .i64 0, .int .i64 E]) ∧ Below w.heap.size w w' := by
  have hs := Lib.hid (tC_size x)
  have KU := Lib.hid (fun W => unless_any (decide (0 ≤ sq)) 2 W)
  have hfr : frst [E, unl (decide (0 ≤ sq)) 2] = E := by unfold frst; rw [if_neg (by simpa using h)]
  have HF := Lib.hid (fun (b : Nat) (W : World) h0 h1 => first2 E (unl (decide (0 ≤ sq)) 2) b W h0 h1)
  rw [hfr] at HF
  clear hfr
  generalize unl (decide (0 ≤ sq)) 2 = U at *
  generalize tC x = c at *
  go_enter Try.func66, Try.ntmps66
  go_wp2_with (refine wpl_load rfl 26 26 _ w.heap.size c (0, 0) _ rfl rfl Try.underlying26 rfl (by rw [hs.out]; exact infoTrace) (block_alloc (block_alloc (heap_alloc_last w _))) ?_)
  go_wp2_with fail; (refine (KQ.out _).mono ?_; rintro e w2 ⟨rfl, hw2⟩; obtain ⟨hcw2, hfw2, hlw2, hmw2, hnw2⟩ := bcell3 hw2; have hzw2 := hw2.size; (try simp only [World.size_alloc, World.size_setCell, World.size_drew, size_drewN] at hzw2))
  have cq2_0 : w2.cell? ⟨w.heap.size + 1 + 1, 0, none⟩ = some (.int .i64 (sq)) := (hcw2 (w.heap.size + 1 + 1) (0) (by first | omega | (simp only [World.size_alloc, World.size_drew, World.size_setCell, size_drewN]; omega))).trans (by first | assumption | (simp [go_sem, *]; done)); have oq2 : w.heap.size + 1 + 1 < w2.heap.size := (by omega)
  clear hcw2 hfw2 hlw2 hmw2 hnw2
  go_wp2_with fail
  refine (KU.out _).mono ?_
  rintro e w' ⟨rfl, rfl⟩
  go_wp2_with fail
  refine (HF.out w2.heap.size _ (cell_fresh _ _ _ _ _ _ rfl rfl) (cell_fresh _ _ _ _ _ _ rfl rfl)).mono ?_
  rintro e w' ⟨rfl, rfl⟩
  go_wp2
  go_ret2
  exact ⟨rfl, by (repeat' (first | (with_reducible exact Below.refl _ _) | (with_reducible assumption) | (with_reducible refine Below.alloc ?_ ?_ _) | (with_reducible refine Below.drew ?_) | (with_reducible refine below_drewN ?_ _) | (with_reducible refine Below.setCell ?_ ?_ _) | (with_reducible refine below_step (by with_reducible assumption) ?_ ?_) | (with_reducible exact Below.size (by with_reducible assumption)) | go_size))⟩
/-- FirstAbove where squaresIn has no error -/
def faV (s : Nat → Int) (f n : Nat) (sq : Int) : Int := if sq < 0 then 0 else match fi (fun j => decide (sq ≤ s (f + j))) n with | some k => (f : Int) + (k : Int) | none => 0
def faE (s : Nat → Int) (f n : Nat) (sq : Int) : Int := if sq < 0 then 2 else match fi (fun j => decide (sq ≤ s (f + j))) n with | some k => 0 | none => 12
set_option maxRecDepth 100000 in
set_option maxHeartbeats 2000000 in
theorem firstAbove_ok (x : Nat → Int) (f t : Nat) (sq : Int) (w : World) (hx : Hid (∀ k, k < 64 → (x k).natAbs ≤ 2047)) (ht : f ≤ t ∧ t ≤ 60) :
    Calls Try.prog 66 #[.agg (tC x), .agg #[.int .i64 (f : Int), .int .i64 (t : Int)], .int .i64 sq] w fun e w' => e = .returned (.tuple #[.int .i64 (faV (anS x) f (t + 1 - f) sq), .int .i64 (faE (anS x) f (t + 1 - f) sq)]) ∧ Below w.heap.size w w' := by
  have KQ := Lib.hid (fun W => squaresIn_ok x f t W hx ht)
  have hs := Lib.hid (tC_size x)
  have KU := Lib.hid (fun W => unless_any (decide (0 ≤ sq)) 2 W)
  have HF := Lib.hid (fun (b : Nat) (W : World) h0 h1 => first2 0 (unl (decide (0 ≤ sq)) 2) b W h0 h1)
  have HI : Hid (∀ (b qb : Nat) (W : World), W.heap[b]? = some (.cells (sC (anS x)) 95 (0, 0)) → W.cell? ⟨qb, 0, none⟩ = some (.int .i64 sq) → Calls Try.prog 140 #[.slice (some ⟨b, f, none⟩) (t + 1 - f) (61 - f), .func (.func 141) #[] #[.pointer (some ⟨qb, 0, none⟩)]] W fun e w' => e = .returned (.int .i64 (fiV (fun j => decide (sq ≤ anS x (f + j))) (t + 1 - f))) ∧ W = w') :=
    Lib.hid fun b qb W hb hq => indexFunc_any (fun j => anS x (f + j)) b f (t + 1 - f) (61 - f) qb sq W (by omega) (by omega) ⟨by omega, by omega⟩ (Lib.hid fun j hj => (cell_block hb).trans (sC_get _ (by omega))) hq
  unfold SqPost at KQ
  have hmf : ∀ (fn : Fn) (first cap : Array Value) (w : World), (Instr.makeFunc fn first cap).run Try.prog w = .ok (.func fn first cap) w := fun _ _ _ _ => rfl
  by_cases hn : sq < 0
  · have HV := Lib.hid (show faV (anS x) f (t + 1 - f) sq = 0 by unfold faV; rw [if_pos hn])
    have HE := Lib.hid (show faE (anS x) f (t + 1 - f) sq = 2 by unfold faE; rw [if_pos hn])
    have hd : decide (0 ≤ sq) = false := decide_eq_false (by omega)
    rw [hd] at KU HF
    rw [show frst [0, unl false 2] = 2 from rfl] at HF
    clear HI hn
    generalize tC x = c at *
    go_enter Try.func66, Try.ntmps66
    go_wp2_with (refine wpl_load rfl 26 26 _ w.heap.size c (0, 0) _ rfl rfl Try.underlying26 rfl (by rw [hs.out]; exact infoTrace) (block_alloc (block_alloc (heap_alloc_last w _))) ?_)
    refine (KQ.out _).mono ?_
    rintro e w2 ⟨b, rfl, hg, hw2⟩
    obtain ⟨hcw2, hfw2, hlw2, hmw2, hnw2⟩ := bcell3 hw2
    have hz2 := hw2.size
    simp only [World.size_alloc] at hz2
    have cq2_0 : w2.cell? ⟨w.heap.size + 1 + 1, 0, none⟩ = some (.int .i64 sq) := (hcw2 _ _ (by simp)).trans (by simp [go_sem])
    have hb2 : Below w.heap.size w w2 := by (repeat' (first | (with_reducible exact Below.refl _ _) | (with_reducible assumption) | (with_reducible refine Below.alloc ?_ ?_ _) | (with_reducible refine Below.drew ?_) | (with_reducible refine below_drewN ?_ _) | (with_reducible refine Below.setCell ?_ ?_ _) | (with_reducible refine below_step (by with_reducible assumption) ?_ ?_) | (with_reducible exact Below.size (by with_reducible assumption)) | go_size))
    clear hcw2 hfw2 hlw2 hmw2 hnw2 hw2
    go_wp2_with fail
    refine (KU.out _).mono ?_
    rintro e w' ⟨rfl, rfl⟩
    go_wp2_with fail
    refine (HF.out w2.heap.size _ (cell_fresh _ _ _ _ _ _ rfl rfl) (cell_fresh _ _ _ _ _ _ rfl rfl)).mono ?_
    rintro e w' ⟨rfl, rfl⟩
    go_wp2
    go_ret2
    exact ⟨(by rw [HV.out, HE.out]; first | done | rfl), by (repeat' (first | (with_reducible exact Below.refl _ _) | (with_reducible assumption) | (with_reducible refine Below.alloc ?_ ?_ _) | (with_reducible refine Below.drew ?_) | (with_reducible refine below_drewN ?_ _) | (with_reducible refine Below.setCell ?_ ?_ _) | (with_reducible refine below_step (by with_reducible assumption) ?_ ?_) | (with_reducible exact Below.size (by with_reducible assumption)) | go_size))⟩
  · have hd : decide (0 ≤ sq) = true := decide_eq_true (by omega)
    rw [hd] at KU HF
    rw [show frst [0, unl true 2] = 0 from rfl] at HF
    cases hfi : fi (fun j => decide (sq ≤ anS x (f + j))) (t + 1 - f) with
    | none =>
      have HV := Lib.hid (show faV (anS x) f (t + 1 - f) sq = 0 by unfold faV; rw [if_neg hn, hfi])
      have HE := Lib.hid (show faE (anS x) f (t + 1 - f) sq = 12 by unfold faE; rw [if_neg hn, hfi])
      rw [show fiV (fun j => decide (sq ≤ anS x (f + j))) (t + 1 - f) = -1 by unfold fiV; rw [hfi]] at HI
      clear hn hfi
      generalize tC x = c at *
      go_enter Try.func66, Try.ntmps66
      go_wp2_with (refine wpl_load rfl 26 26 _ w.heap.size c (0, 0) _ rfl rfl Try.underlying26 rfl (by rw [hs.out]; exact infoTrace) (block_alloc (block_alloc (heap_alloc_last w _))) ?_)
      refine (KQ.out _).mono ?_
      rintro e w2 ⟨b, rfl, hg, hw2⟩
      obtain ⟨hcw2, hfw2, hlw2, hmw2, hnw2⟩ := bcell3 hw2
      have hz2 := hw2.size
      simp only [World.size_alloc] at hz2
      have cq2_0 : w2.cell? ⟨w.heap.size + 1 + 1, 0, none⟩ = some (.int .i64 sq) := (hcw2 _ _ (by simp)).trans (by simp [go_sem])
      have hb2 : Below w.heap.size w w2 := by (repeat' (first | (with_reducible exact Below.refl _ _) | (with_reducible assumption) | (with_reducible refine Below.alloc ?_ ?_ _) | (with_reducible refine Below.drew ?_) | (with_reducible refine below_drewN ?_ _) | (with_reducible refine Below.setCell ?_ ?_ _) | (with_reducible refine below_step (by with_reducible assumption) ?_ ?_) | (with_reducible exact Below.size (by with_reducible assumption)) | go_size))
      have hlq : w.heap.size + 1 + 1 < w2.heap.size := by omega
      clear hcw2 hfw2 hlw2 hmw2 hnw2 hw2
      go_wp2_with fail
      refine (KU.out _).mono ?_
      rintro e w' ⟨rfl, rfl⟩
      go_wp2_with fail
      refine (HF.out w2.heap.size _ (cell_fresh _ _ _ _ _ _ rfl rfl) (cell_fresh _ _ _ _ _ _ rfl rfl)).mono ?_
      rintro e w' ⟨rfl, rfl⟩
      go_wp2_with fail
      refine (HI.out b (w.heap.size + 1 + 1) _ (block_alloc hg) ((World.cell?_alloc_lt _ _ _ (by show _ < _; omega)).trans cq2_0)).mono ?_
      rintro e w' ⟨rfl, rfl⟩
      go_wp2
      go_ret2
      exact ⟨(by rw [HV.out, HE.out]; first | done | rfl), by (repeat' (first | (with_reducible exact Below.refl _ _) | (with_reducible assumption) | (with_reducible refine Below.alloc ?_ ?_ _) | (with_reducible refine Below.drew ?_) | (with_reducible refine below_drewN ?_ _) | (with_reducible refine Below.setCell ?_ ?_ _) | (with_reducible refine below_step (by with_reducible assumption) ?_ ?_) | (with_reducible exact Below.size (by with_reducible assumption)) | go_size))⟩
    | some k =>
      have hkn := fi_lt _ hfi
      have HV := Lib.hid (show faV (anS x) f (t + 1 - f) sq = (f : Int) + (k : Int) by unfold faV; rw [if_neg hn, hfi])
      have HE := Lib.hid (show faE (anS x) f (t + 1 - f) sq = 0 by unfold faE; rw [if_neg hn, hfi])
      rw [show fiV (fun j => decide (sq ≤ anS x (f + j))) (t + 1 - f) = (k : Int) by unfold fiV; rw [hfi]] at HI
      have hk0 : decide ((k : Int) < 0) = false := decide_eq_false (by omega)
      have wr1 : IntKind.i64.wrap ((f : Int) + (k : Int)) = (f : Int) + (k : Int) := IntWalk.i64_in _ (by omega)
      clear hn hfi hkn
      generalize tC x = c at *
      go_enter Try.func66, Try.ntmps66
      go_wp2_with (refine wpl_load rfl 26 26 _ w.heap.size c (0, 0) _ rfl rfl Try.underlying26 rfl (by rw [hs.out]; exact infoTrace) (block_alloc (block_alloc (heap_alloc_last w _))) ?_)
      refine (KQ.out _).mono ?_
      rintro e w2 ⟨b, rfl, hg, hw2⟩
      obtain ⟨hcw2, hfw2, hlw2, hmw2, hnw2⟩ := bcell3 hw2
      have hz2 := hw2.size
      simp only [World.size_alloc] at hz2
      have cq2_0 : w2.cell? ⟨w.heap.size + 1 + 1, 0, none⟩ = some (.int .i64 sq) := (hcw2 _ _ (by simp)).trans (by simp [go_sem])
      have cg2_0 : w2.cell? ⟨w.heap.size + 1, 0, none⟩ = some (.int .i64 (f : Int)) := (hcw2 _ _ (by simp)).trans (by simp [go_sem])
      have hb2 : Below w.heap.size w w2 := by (repeat' (first | (with_reducible exact Below.refl _ _) | (with_reducible assumption) | (with_reducible refine Below.alloc ?_ ?_ _) | (with_reducible refine Below.drew ?_) | (with_reducible refine below_drewN ?_ _) | (with_reducible refine Below.setCell ?_ ?_ _) | (with_reducible refine below_step (by with_reducible assumption) ?_ ?_) | (with_reducible exact Below.size (by with_reducible assumption)) | go_size))
      have hlq : w.heap.size + 1 + 1 < w2.heap.size := by omega
      have hlg : w.heap.size + 1 < w2.heap.size := by omega
      clear hcw2 hfw2 hlw2 hmw2 hnw2 hw2
      go_wp2_with fail
      refine (KU.out _).mono ?_
      rintro e w' ⟨rfl, rfl⟩
      go_wp2_with fail
      refine (HF.out w2.heap.size _ (cell_fresh _ _ _ _ _ _ rfl rfl) (cell_fresh _ _ _ _ _ _ rfl rfl)).mono ?_
      rintro e w' ⟨rfl, rfl⟩
      go_wp2_with fail
      refine (HI.out b (w.heap.size + 1 + 1) _ (block_alloc hg) ((World.cell?_alloc_lt _ _ _ (by show _ < _; omega)).trans cq2_0)).mono ?_
      rintro e w' ⟨rfl, rfl⟩
      go_wp2
      go_ret2
      exact ⟨(by rw [HV.out, HE.out]; first | done | rfl), by (repeat' (first | (with_reducible exact Below.refl _ _) | (with_reducible assumption) | (with_reducible refine Below.alloc ?_ ?_ _) | (with_reducible refine Below.drew ?_) | (with_reducible refine below_drewN ?_ _) | (with_reducible refine Below.setCell ?_ ?_ _) | (with_reducible refine below_step (by with_reducible assumption) ?_ ?_) | (with_reducible exact Below.size (by with_reducible assumption)) | go_size))⟩
end Go.Proofs.Ythgnemkfaiejbaa
