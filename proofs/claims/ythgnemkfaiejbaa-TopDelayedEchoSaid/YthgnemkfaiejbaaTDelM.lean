/-
  A TRACE THAT COMES LATER AND IS STRONGER: plain facts of its squares, its peak and its lag.
-/
import Derived.Test.YthgnemkfaiejbaaTraceLagsO
import Derived.Test.YthgnemkfaiejbaaTPkR
import Derived.Test.YthgnemkfaiejbaaTGaind
set_option linter.unusedVariables false
set_option linter.unusedSimpArgs false
namespace Go.Proofs.Ythgnemkfaiejbaa
open Go.RowKit

/-- the strengthened trace -/
def gnT (x : Nat → Int) (g : Int) : Nat → Int := fun k => x k * g
theorem lk_scale (x y : Nat → Int) (g l : Int) : ∀ k, lk x (fun j => y j * g) l k = lk x y l k * g
  | 0 => by simp [lk]
  | k + 1 => by
    show lk x (fun j => y j * g) l k + _ = (lk x y l k + _) * g
    rw [lk_scale x y g l k, Int.add_mul]
    congr 1
    split
    · rw [Int.mul_assoc]
    · simp
/-- products with those e behind, and what lies between -/
def us (x : Nat → Int) (e : Nat) : Nat → Int
  | 0 => 0
  | k + 1 => us x e k + x k * x (k + e)
def vs (x : Nat → Int) (e : Nat) : Nat → Int
  | 0 => 0
  | k + 1 => vs x e k + (x k - x (k + e)) * (x k - x (k + e))
theorem sums2 (x : Nat → Int) (e : Nat) : ∀ k, qs x k + (qs x (k + e) - qs x e) = 2 * us x e k + vs x e k
  | 0 => by simp [qs, us, vs]
  | k + 1 => by
    have ih := sums2 x e k
    rw [show k + 1 + e = k + e + 1 by omega]
    show qs x k + x k * x k + (qs x (k + e) + x (k + e) * x (k + e) - qs x e) = 2 * (us x e k + x k * x (k + e)) + (vs x e k + (x k - x (k + e)) * (x k - x (k + e)))
    rw [Int.sub_mul, Int.mul_sub, Int.mul_sub, Int.mul_comm (x (k + e)) (x k)]
    omega
theorem vs_mono (x : Nat → Int) (e : Nat) : ∀ k j, vs x e k ≤ vs x e (k + j)
  | _, 0 => Int.le_refl _
  | k, j + 1 => by
    have := vs_mono x e k j
    show _ ≤ vs x e (k + j) + (x (k + j) - x (k + j + e)) * (x (k + j) - x (k + j + e))
    have := sq_nn (x (k + j) - x (k + j + e))
    omega
theorem qs_stay (x : Nat → Int) (n : Nat) (hz : ∀ t, n ≤ t → x t = 0) : ∀ j, qs x (n + j) = qs x n
  | 0 => rfl
  | j + 1 => by
    show qs x (n + j) + x (n + j) * x (n + j) = _
    rw [qs_stay x n hz j, hz (n + j) (by omega)]; simp
theorem last_nonzero (x : Nat → Int) : ∀ n, (∃ i, i < n ∧ x i ≠ 0) → ∃ i, i < n ∧ x i ≠ 0 ∧ ∀ j, i < j → j < n → x j = 0
  | 0, ⟨i, h, _⟩ => absurd h (Nat.not_lt_zero _)
  | n + 1, ⟨i, h, hi⟩ => by
    by_cases c : x n = 0
    · obtain ⟨m, a, b, d⟩ := last_nonzero x n ⟨i, by
        by_cases e : i = n
        · rw [e] at hi; exact absurd c hi
        · omega, hi⟩
      exact ⟨m, by omega, b, fun j h1 h2 => by
        by_cases e : j = n
        · rw [e]; exact c
        · exact d j h1 (by omega)⟩
    · exact ⟨n, by omega, c, fun j h1 h2 => by omega⟩
theorem us_lt (x : Nat → Int) (e : Nat) (he : 0 < e) (hz : ∀ t, 23 ≤ t → x t = 0) (h : ∃ i, i < 64 ∧ x i ≠ 0) : us x e 64 < qs x 64 := by
  obtain ⟨i, a, b⟩ := h
  obtain ⟨m, h1, h2, h3⟩ := last_nonzero x 23 ⟨i, by
    rcases Nat.lt_or_ge i 23 with c | c
    · exact c
    · exact absurd (hz i c) b, b⟩
  have hme : x (m + e) = 0 := by
    rcases Nat.lt_or_ge (m + e) 23 with c | c
    · exact h3 _ (by omega) c
    · exact hz _ c
  have p1 := sq_pos h2
  have p2 : vs x e (m + 1) = vs x e m + (x m - x (m + e)) * (x m - x (m + e)) := rfl
  rw [hme, Int.sub_zero] at p2
  have p3 := vs_mono x e 0 m
  rw [Nat.zero_add] at p3
  have p4 := vs_mono x e (m + 1) (64 - (m + 1))
  rw [show m + 1 + (64 - (m + 1)) = 64 by omega] at p4
  have p5 := sums2 x e 64
  have p6 : qs x (64 + e) = qs x 64 := qs_stay x 64 (fun t ht => hz t (by omega)) e
  have p7 := qs_mono x 0 e
  rw [Nat.zero_add] at p7
  have p8 : vs x e 0 = 0 := rfl
  have p9 : qs x 0 = 0 := rfl
  omega
theorem lk_up (x : Nat → Int) (b e : Nat) (hz : ∀ t, t < 64 → 64 ≤ t + (b + e) → x t = 0) : ∀ k, k ≤ 64 → lk x (sh x b) ((b : Int) + e) k = us x e k
  | 0, _ => rfl
  | k + 1, hk => by
    show lk x (sh x b) ((b : Int) + e) k + _ = us x e k + x k * x (k + e)
    rw [lk_up x b e hz k (by omega)]
    congr 1
    by_cases c : k + (b + e) < 64
    · rw [if_pos (show 0 ≤ (k : Int) + ((b : Int) + (e : Int)) ∧ (k : Int) + ((b : Int) + (e : Int)) ≤ 63 by omega)]
      rw [show ((k : Int) + ((b : Int) + (e : Int))).toNat = k + (b + e) by omega]
      unfold sh
      rw [if_pos (by omega), show k + (b + e) - b = k + e by omega]
    · rw [hz k (by omega) (by omega)]
      simp
theorem lag_del (x : Nat → Int) (b : Nat) (g : Int) (hb : b ≤ 20) (hg : 1 ≤ g) (hz : ∀ t, 23 ≤ t → x t = 0) (h : ∃ i, i < 64 ∧ x i ≠ 0) : (bl (fun l => lk x (shT (gnT x g) (b : Int)) l 64) 25).1 = b := by
  have e : ∀ l, lk x (shT (gnT x g) (b : Int)) l 64 = lk x (sh x b) l 64 * g := fun l => by
    rw [← lk_scale]
    refine lk_congr x (fun j hj => ?_) l 64
    unfold sh
    by_cases c : b ≤ j
    · rw [if_pos c, shT_at _ b c hj]; rfl
    · rw [if_neg c]
      unfold shT
      rw [if_neg (by unfold inB; rw [decide_eq_false (by omega)]; decide)]
      simp
  have hz2 : ∀ i, i < 64 → 64 ≤ i + b → x i = 0 := fun i _ h2 => hz i (by omega)
  have top : lk x (sh x b) (b : Int) 64 = qs x 64 := by
    have := lk_sh x b 0 (by omega) hz2 64 (Nat.le_refl _)
    rw [ps_zero] at this
    rw [← this]; congr 1
  refine bl_only _ 25 b (by omega) (by omega) fun l l1 l2 l3 => ?_
  show lk x (shT (gnT x g) (b : Int)) l 64 < lk x (shT (gnT x g) (b : Int)) b 64
  rw [e, e, top]
  have key : lk x (sh x b) l 64 < qs x 64 := by
    rcases Int.lt_or_le l b with c | c
    · have := lk_sh x b ((b : Int) - l).toNat (by omega) hz2 64 (Nat.le_refl _)
      rw [show (b : Int) - (((b : Int) - l).toNat : Int) = l by omega] at this
      rw [this]
      exact ps_lt x _ 64 (by omega) h
    · have := lk_up x b (l - (b : Int)).toNat (fun t ht h2 => hz t (by omega)) 64 (Nat.le_refl _)
      rw [show (b : Int) + ((l - (b : Int)).toNat : Int) = l by omega] at this
      rw [this]
      exact us_lt x _ (by omega) hz h
  exact Int.mul_lt_mul_of_pos_right key (by omega)
theorem del_at (x : Nat → Int) (b : Nat) (g : Int) {k : Nat} (hk : k < 64) : shT (gnT x g) (b : Int) k = if b ≤ k then x (k - b) * g else 0 := by
  by_cases c : b ≤ k
  · rw [if_pos c, shT_at _ b c hk]; rfl
  · rw [if_neg c]
    unfold shT
    rw [if_neg (by unfold inB; rw [decide_eq_false (by omega)]; decide)]
theorem sq_gain (a c g : Int) : (a * g - c * g) * (a * g - c * g) = g * g * ((a - c) * (a - c)) := by
  rw [← Int.sub_mul, Int.mul_assoc, ← Int.mul_assoc g, Int.mul_comm g (a - c), Int.mul_assoc (a - c), ← Int.mul_assoc, Int.mul_comm _ (g * g)]
theorem anS_del (x : Nat → Int) (b : Nat) (g : Int) {k : Nat} (hk : k + b ≤ 60) : anS (shT (gnT x g) (b : Int)) (k + b) = g * g * anS x k := by
  unfold anS anP anQ
  rw [del_at x b g (show k + b < 64 by omega), del_at x b g (show k + b + 2 < 64 by omega), del_at x b g (show k + b + 1 < 64 by omega), del_at x b g (show k + b + 3 < 64 by omega)]
  rw [if_pos (by omega), if_pos (by omega), if_pos (by omega), if_pos (by omega)]
  rw [show k + b - b = k by omega, show k + b + 2 - b = k + 2 by omega, show k + b + 1 - b = k + 1 by omega, show k + b + 3 - b = k + 3 by omega]
  rw [sq_gain, sq_gain, ← Int.mul_add]
theorem anS_pre (x : Nat → Int) (b : Nat) (g : Int) (hb : b ≤ 20) (h0 : x 0 = 0) (h1 : x 1 = 0) (h2 : x 2 = 0) {j : Nat} (hj : j < b) : anS (shT (gnT x g) (b : Int)) j = 0 := by
  have key : ∀ i, i ≤ 3 → shT (gnT x g) (b : Int) (j + i) = 0 := fun i hi => by
    rw [del_at x b g (show j + i < 64 by omega)]
    split
    · have : x (j + i - b) = 0 := by
        rcases (show j + i - b = 0 ∨ j + i - b = 1 ∨ j + i - b = 2 by omega) with e | e | e <;> rw [e] <;> assumption
      rw [this]; simp
    · rfl
  unfold anS anP anQ
  have a0 := key 0 (by omega)
  have a1 := key 1 (by omega)
  have a2 := key 2 (by omega)
  have a3 := key 3 (by omega)
  rw [Nat.add_zero] at a0
  rw [a0, a1, a2, a3]
  rfl
theorem anS_tail (x : Nat → Int) (hz : ∀ t, 23 ≤ t → x t = 0) {k : Nat} (hk : 23 ≤ k) : anS x k = 0 := by
  unfold anS anP anQ
  rw [hz k hk, hz (k + 1) (by omega), hz (k + 2) (by omega), hz (k + 3) (by omega)]
  rfl
theorem anS_nn (x : Nat → Int) (k : Nat) : 0 ≤ anS x k := by
  unfold anS
  have := sq_nn (anP x k)
  have := sq_nn (anQ x k)
  omega
theorem anS_some (x : Nat → Int) (hz : ∀ t, 23 ≤ t → x t = 0) (h : ∃ i, i < 64 ∧ x i ≠ 0) : ∃ k, k < 23 ∧ 0 < anS x k := by
  obtain ⟨i, a, b⟩ := h
  obtain ⟨m, h1, h2, h3⟩ := last_nonzero x 23 ⟨i, by
    rcases Nat.lt_or_ge i 23 with c | c
    · exact c
    · exact absurd (hz i c) b, b⟩
  have hme : x (m + 2) = 0 := by
    rcases Nat.lt_or_ge (m + 2) 23 with c | c
    · exact h3 _ (by omega) c
    · exact hz _ c
  refine ⟨m, h1, ?_⟩
  unfold anS
  have := sq_nn (anQ x m)
  have hp : anP x m = x m := by unfold anP; rw [hme, Int.sub_zero]
  rw [hp]
  have := sq_pos h2
  omega
/-- the peak comes later, too -/
theorem peak_del (x : Nat → Int) (b : Nat) (g : Int) (hb : b ≤ 20) (hg : 1 ≤ g) (hz : ∀ t, 23 ≤ t → x t = 0) (h0 : x 0 = 0) (h1 : x 1 = 0) (h2 : x 2 = 0) (h : ∃ i, i < 64 ∧ x i ≠ 0) :
    pmx (anS x) 0 31 < 23 ∧ (∀ j, j < 60 + 1 - 0 → anS (shT (gnT x g) (b : Int)) (0 + j) ≤ anS (shT (gnT x g) (b : Int)) (0 + (pmx (anS x) 0 31 + b))) ∧ (∀ j, j < pmx (anS x) 0 31 + b → anS (shT (gnT x g) (b : Int)) (0 + j) < anS (shT (gnT x g) (b : Int)) (0 + (pmx (anS x) 0 31 + b)))
      ∧ anS (shT (gnT x g) (b : Int)) (0 + (pmx (anS x) 0 31 + b)) = g * g * anS x (0 + pmx (anS x) 0 31) := by
  obtain ⟨p1, p2, p3⟩ := pmx_spec (anS x) 0 31 (by omega)
  generalize pmx (anS x) 0 31 = p at *
  obtain ⟨k, hk, hpos⟩ := anS_some x hz h
  have hM := p2 k (by omega)
  rw [Nat.zero_add, Nat.zero_add] at hM
  have hgg : 1 ≤ g * g := by have := Int.mul_le_mul hg hg (by omega) (by omega); omega
  have hp23 : p < 23 := by
    rcases Nat.lt_or_ge p 23 with c | c
    · exact c
    · have := anS_tail x hz c; omega
  have hpk : anS (shT (gnT x g) (b : Int)) (0 + (p + b)) = g * g * anS x (0 + p) := by rw [Nat.zero_add, Nat.zero_add]; exact anS_del x b g (by omega)
  have hbig : 0 < g * g * anS x p := Int.mul_pos (by omega) (by omega)
  refine ⟨hp23, fun j hj => ?_, fun j hj => ?_, hpk⟩
  · rw [hpk, Nat.zero_add, Nat.zero_add]
    rcases Nat.lt_or_ge j b with c | c
    · rw [anS_pre x b g hb h0 h1 h2 c]; omega
    · have := anS_del x b g (k := j - b) (by omega)
      rw [show j - b + b = j by omega] at this
      rw [this]
      refine Int.mul_le_mul_of_nonneg_left ?_ (by omega)
      rcases Nat.lt_or_ge (j - b) 31 with c2 | c2
      · have := p2 (j - b) c2
        rwa [Nat.zero_add, Nat.zero_add] at this
      · rw [anS_tail x hz (by omega)]; omega
  · rw [hpk, Nat.zero_add, Nat.zero_add]
    rcases Nat.lt_or_ge j b with c | c
    · rw [anS_pre x b g hb h0 h1 h2 c]; omega
    · have := anS_del x b g (k := j - b) (by omega)
      rw [show j - b + b = j by omega] at this
      rw [this]
      have q := p3 (j - b) (by omega)
      rw [Nat.zero_add, Nat.zero_add] at q
      exact Int.mul_lt_mul_of_pos_left q (by omega)
theorem gC_whole {n g : Int} (hn : n.natAbs ≤ 200) (hg : 1 ≤ g ∧ g ≤ 10) : gW n g 1 = n * g ∧ gC n g 1 = n * g := by
  have hb : (n * g).natAbs ≤ 200 * 10 := by rw [Int.natAbs_mul]; exact Nat.mul_le_mul hn (by omega)
  have e : gW n g 1 = n * g := by unfold gW; omega
  refine ⟨e, ?_⟩
  unfold gC
  rw [e]
  omega
theorem gK_whole {x : Nat → Int} {g : Int} (hx : ∀ k, (x k).natAbs ≤ 200) (hg : 1 ≤ g ∧ g ≤ 10) : ∀ k, gK x g 1 k = 0
  | 0 => rfl
  | k + 1 => by
    have := gC_whole (hx k) hg
    show gK x g 1 k + _ = 0
    rw [gK_whole hx hg k, if_pos (by rw [this.1, this.2])]
    rfl
end Go.Proofs.Ythgnemkfaiejbaa
