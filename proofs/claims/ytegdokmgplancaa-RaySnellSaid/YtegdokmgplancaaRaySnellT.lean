/-
  SNELL'S LAW: RaySnell returns true.
-/
import Derived.Test.YtegdokmgplancaaRaySnell
set_option linter.unusedVariables false
set_option linter.unusedSimpArgs false
namespace Go.Proofs.Ytegdokmgplancaa
open Go.RowKit

theorem gcd_split {n d : Int} (hn : 0 ≤ n) (hd : 1 ≤ d) : 1 ≤ gcdR n d ∧ n / gcdR n d * gcdR n d = n ∧ d / gcdR n d * gcdR n d = d := by
  refine ⟨(gcdR_pos hn hd).1, ?_, ?_⟩
  · rw [gcdR_nn _ _ hn (by omega)]
    apply Int.ediv_mul_cancel
    have : ((n.toNat : Nat) : Int) = n := by omega
    conv => rhs; rw [← this]
    exact Int.natCast_dvd_natCast.2 (Nat.gcd_dvd_left _ _)
  · rw [gcdR_nn _ _ hn (by omega)]
    apply Int.ediv_mul_cancel
    have : ((d.toNat : Nat) : Int) = d := by omega
    conv => rhs; rw [← this]
    exact Int.natCast_dvd_natCast.2 (Nat.gcd_dvd_right _ _)
theorem sgn_of_le {n : Int} (h : n ≤ 0) : sgn n ≤ 0 := by unfold sgn; split <;> (try split) <;> omega
theorem sgn_of_gt {n : Int} (h : 0 < n) : 0 < sgn n := by unfold sgn; split <;> (try split) <;> omega
/-- the comparison with the critical square has the sign of bN - bD -/
theorem crit_scale {a b f s : Int} (h : okA a b f s) : ∃ g : Int, 1 ≤ g ∧ (a * a * crD f s - crN f s * (a * a + b * b)) * g = bN a s - bD a b f ∧ (0 ≤ crN f s ∧ crN f s ≤ 100000000) ∧ (1 ≤ crD f s ∧ crD f s ≤ 100000000) := by
  obtain ⟨-, h3, h4⟩ := h
  have f1 : 1 * 1 ≤ f * f := sq_mono (by omega) (by omega)
  have f2 : f * f ≤ 10000 * 10000 := sq_mono (by omega) (by omega)
  have s1 : 1 * 1 ≤ s * s := sq_mono (by omega) (by omega)
  have s2 : s * s ≤ 10000 * 10000 := sq_mono (by omega) (by omega)
  obtain ⟨g1, g2, g3⟩ := gcd_split (n := f * f) (d := s * s) (by omega) (by omega)
  have n0 : 0 ≤ crN f s := by unfold crN; exact Int.ediv_nonneg (by omega) (by omega)
  have d0 : 0 ≤ crD f s := by unfold crD; exact Int.ediv_nonneg (by omega) (by omega)
  refine ⟨gcdR (f * f) (s * s), g1, ?_, ⟨n0, ?_⟩, ?_, ?_⟩
  · have e2 : crN f s * gcdR (f * f) (s * s) = f * f := g2
    have e3 : crD f s * gcdR (f * f) (s * s) = s * s := g3
    generalize gcdR (f * f) (s * s) = g at *
    unfold bN bD
    grind
  · have : f * f / gcdR (f * f) (s * s) ≤ f * f := Int.ediv_le_self _ (by omega)
    unfold crN; omega
  · rcases Int.lt_or_le 0 (crD f s) with q | q
    · omega
    · have : crD f s = 0 := by omega
      unfold crD at this
      rw [this] at g3
      omega
  · have : s * s / gcdR (f * f) (s * s) ≤ s * s := Int.ediv_le_self _ (by omega)
    unfold crD; omega
theorem back_math {a b f s : Int} (h : okA a b f s) : (sN a b f s * f) * ((a * a + b * b) * f) - a * a * s * (sD a b f s * s) = 0 ∧ 0 ≤ sN a b f s ∧ 1 ≤ sD a b f s := by
  obtain ⟨-, -, -, h4, -, h6⟩ := b_bd h
  obtain ⟨g1, g2, g3⟩ := gcd_split (n := bN a s) (d := bD a b f) (by omega) (by omega)
  have e2 : sN a b f s * gcdR (bN a s) (bD a b f) = bN a s := g2
  have e3 : sD a b f s * gcdR (bN a s) (bD a b f) = bD a b f := g3
  refine ⟨?_, by unfold sN; exact Int.ediv_nonneg (by omega) (by omega), ?_⟩
  · have k1 : (sN a b f s * f) * ((a * a + b * b) * f) = sN a b f s * bD a b f := by unfold bD; grind
    have k2 : a * a * s * (sD a b f s * s) = bN a s * sD a b f s := by unfold bN; grind
    rw [k1, k2]
    generalize gcdR (bN a s) (bD a b f) = g at *
    generalize bN a s = n at *
    generalize bD a b f = d at *
    generalize sN a b f s = x at *
    generalize sD a b f s = y at *
    subst e2 e3
    grind
  · have d0 : 0 ≤ sD a b f s := by unfold sD; exact Int.ediv_nonneg (by omega) (by omega)
    rcases Int.lt_or_le 0 (sD a b f s) with q | q
    · omega
    · have : sD a b f s = 0 := by omega
      rw [this] at e3
      omega
theorem not_faster {a b f s : Int} (h : okA a b f s) (hq : ¬ f < s) : bN a s ≤ bD a b f := by
  obtain ⟨h1, h2, -⟩ := b_bd h
  obtain ⟨-, h3, h4⟩ := h
  have k : s * s ≤ f * f := sq_mono (by omega) (by omega)
  have z : 0 ≤ s * s := sq_nonneg s
  unfold bN bD
  rw [Int.mul_assoc, Int.mul_assoc (a * a + b * b)]
  exact Int.mul_le_mul (by omega) k z (by omega)
set_option maxHeartbeats 1000000 in
theorem raySnell_any (a b f s : Int) (w : World) :
    Calls Try.prog 15 #[.agg #[.int .i64 a, .int .i64 b], .int .i64 f, .int .i64 s] w fun e w' => e = .returned (.bool true) ∧ Below w.heap.size w w' := by
  by_cases h : aE a b f s = 0
  · have ho := aE_zero.1 h
    obtain ⟨b1, b2, b3, b4, b5, b6⟩ := b_bd ho
    obtain ⟨g, hg, hs, hn, hd⟩ := crit_scale ho
    have hf := ho.2.1
    have hse := ho.2.2
    have G6 := Lib.hid (fun W => bcompare_any (a * a) (a * a + b * b) (crN f s) (crD f s) W (by omega) (by omega) (by omega) (by omega))
    have K1 : ∀ W, _ := fun W => passes_ok a b f s W ho
    by_cases hp : bN a s ≤ bD a b f
    · rw [decide_eq_true hp] at K1
      have K3 : ∀ W, _ := fun W => behindSq_ok a b f s W ho hp
      obtain ⟨m1, m2, m3⟩ := back_math ho
      have hc : sgn (a * a * crD f s - crN f s * (a * a + b * b)) ≤ 0 := by
        apply sgn_of_le
        rcases Int.lt_or_le 0 (a * a * crD f s - crN f s * (a * a + b * b)) with q | q
        · have := Int.mul_pos q (show 0 < g by omega)
          omega
        · exact q
      have sq := snell_sq ho hp
      by_cases hz : sN a b f s ≤ 1000000000 ∧ sD a b f s ≤ 1000000000
      · have z1 : sqE a b f s = 0 := by unfold sqE; rw [if_pos hz]
        have z2 : sqN a b f s = sN a b f s := by unfold sqN; rw [if_pos hz]
        have z3 : sqD a b f s = sD a b f s := by unfold sqD; rw [if_pos hz]
        rw [z1, z2, z3] at K3
        rw [z1, z2, z3] at sq
        have i1 := (sq.resolve_left (by decide)).2
        have i2 : inB (sD a b f s) 1 1000000000 = true := inB_iff.2 ⟨m3, hz.2⟩
        have p1 := prod_bd (a := sN a b f s) (b := f) (A := 1000000000) (B := 10000) m2 hz.1 (by omega) (by omega)
        have p2 := prod_bd (a := sD a b f s) (b := s) (A := 1000000000) (B := 10000) (by omega) hz.2 (by omega) (by omega)
        have p3 : 1 * 1 ≤ sD a b f s * s := mulle (by omega) (by omega) (by omega) (by omega)
        have K7 : ∀ W, _ := fun W => bcompare_any (sN a b f s * f) (sD a b f s * s) (a * a * s) ((a * a + b * b) * f) W (by omega) (by omega) (by omega) (by omega)
        rw [m1, show sgn 0 = 0 by decide] at K7
        by_cases hq : f < s
        · exact raySnell_w3 a b f s _ _ _ _ _ w (Lib.hid K1) (Lib.hid (fun W => critical_ok f s W (qE_zero.2 ⟨hf, hse, hq⟩))) (Lib.hid K3) G6 (Lib.hid K7) (Lib.hid i1) (Lib.hid i2) b3 b5 (by omega) (by omega) b1 b2 hc
        · have q12 : qE f s = 12 := by unfold qE; simp [frst, inB, unl, hf, hse, hq]
          have K2 : ∀ W, _ := fun W => critical_err f s W (by omega)
          rw [q12] at K2
          exact raySnell_w5 a b f s _ _ _ _ 0 w (Lib.hid K1) (Lib.hid K2) (Lib.hid K3) (Lib.hid K7) (Lib.hid i1) (Lib.hid i2) b3 b5 (by omega) (by omega) b1 b2 trivial
      · have z1 : sqE a b f s = 8 := by unfold sqE; rw [if_neg hz]
        rw [z1] at K3
        by_cases hq : f < s
        · exact raySnell_w2 a b f s _ _ _ _ _ w (Lib.hid K1) (Lib.hid (fun W => critical_ok f s W (qE_zero.2 ⟨hf, hse, hq⟩))) (Lib.hid K3) G6 b1 b2 hc
        · have q12 : qE f s = 12 := by unfold qE; simp [frst, inB, unl, hf, hse, hq]
          have K2 : ∀ W, _ := fun W => critical_err f s W (by omega)
          rw [q12] at K2
          exact raySnell_w4 a b f s _ _ _ _ 0 w (Lib.hid K1) (Lib.hid K2) (Lib.hid K3) b1 b2 trivial
    · rw [decide_eq_false hp] at K1
      have hq : f < s := by
        rcases Int.lt_or_le f s with q | q
        · exact q
        · exact absurd (not_faster ho (by omega)) hp
      have hc : 0 < sgn (a * a * crD f s - crN f s * (a * a + b * b)) := by
        apply sgn_of_gt
        rcases Int.lt_or_le 0 (a * a * crD f s - crN f s * (a * a + b * b)) with q | q
        · exact q
        · have := Int.mul_nonneg (a := -(a * a * crD f s - crN f s * (a * a + b * b))) (b := g) (by omega) (by omega)
          rw [Int.neg_mul] at this
          omega
      exact raySnell_w1 a b f s _ _ _ _ _ w (Lib.hid K1) (Lib.hid (fun W => critical_ok f s W (qE_zero.2 ⟨hf, hse, hq⟩))) (Lib.hid (fun W => behindSq_none a b f s W ho hp)) G6 b1 b2 hc
  · exact raySnell_err a b f s w h
end Go.Proofs.Ytegdokmgplancaa
