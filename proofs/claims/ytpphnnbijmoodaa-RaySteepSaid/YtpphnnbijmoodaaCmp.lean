/-
  PRODUCTS COMPARED: ray.compareProducts gives the sign of a b less c d, whatever their size.
-/
import Derived.Test.YtpphnnbijmoodaaFirst
import Derived.Test.YtpphnnbijmoodaaShelf
import Derived.Deep.QuietTactic
import Derived.BigQuiet
set_option linter.unusedVariables false
set_option linter.unusedSimpArgs false
namespace Go.Proofs.Ytpphnnbijmoodaa
open Go.RowKit

def cmpI (x y : Int) : Int := if x < y then -1 else if y < x then 1 else 0

theorem compare_any (x y : Int) (w : World) :
    Calls Try.prog 135 #[.int .u64 x, .int .u64 y] w fun e w' => e = .returned (.int .i64 (cmpI x y)) ∧ w = w' := by
  by_cases h1 : x < y
  · go_enter Try.func135, Try.ntmps135
    go_wp2
    go_ret
    exact ⟨ri (by unfold cmpI; split <;> (try split) <;> omega), rfl⟩
  · by_cases h2 : y < x
    all_goals
      go_enter Try.func135, Try.ntmps135
      go_wp2
      go_ret
      exact ⟨ri (by unfold cmpI; split <;> (try split) <;> omega), rfl⟩

set_option maxHeartbeats 400000 in
theorem or_any (es : List Int) (b n : Nat) (w : World) (hn : n = es.length) (hc : ∀ i, i < n → w.cell? ⟨b, i, none⟩ = some (.int .i64 (es[i]?.getD 0))) (hl : n ≤ 100) :
    Calls Try.prog 134 #[.slice (some ⟨b, 0, none⟩) n n] w fun e w' => e = .returned (.int .i64 (frst es)) ∧ w = w' := by
  have Hn := Lib.hid hn
  clear hn
  have Hc := Lib.hid hc
  clear hc
  go_enter Try.func134, Try.ntmps134
  go_wp2
  go_loop [8] (fun i => ∃ k : Nat, k ≤ n ∧ frst es = frst (es.drop k) ∧ i = .int .i64 k) (fun i => n - (intOf i).toNat)
  case atStart => exact ⟨0, Nat.zero_le _, by simp, rfl⟩
  case round =>
    obtain ⟨k, hk, hf, rfl⟩ := hrel
    have HF := Lib.hid hf
    clear hf
    by_cases hlt : k < n
    · have hcell := Hc.out k hlt
      have hd := frst_drop (l := es) (k := k) (by have := Hn.out; omega)
      by_cases h0 : es[k]?.getD 0 = 0
      · rw [if_pos h0] at hd
        have HD := Lib.hid hd
        clear hd
        rw [h0] at hcell
        clear h0
        go_wp2
        go_round
        case rel => exact ⟨k + 1, by omega, by rw [HF.out, HD.out], by go_num⟩
        case measure => simp [intOf]; omega
      · rw [if_neg h0] at hd
        have HD := Lib.hid hd
        clear hd
        go_wp2
        go_ret
        exact ⟨ri (by rw [HF.out, HD.out]), rfl⟩
    · have hd : frst (es.drop k) = 0 := by rw [List.drop_eq_nil_of_le (by have := Hn.out; omega)]; rfl
      have HD := Lib.hid hd
      clear hd
      go_wp2
      go_ret
      exact ⟨ri (by rw [HF.out, HD.out]), rfl⟩
theorem or2 (e0 e1 : Int) (b : Nat) (w : World) (h0 : w.cell? ⟨b, 0, none⟩ = some (.int .i64 e0)) (h1 : w.cell? ⟨b, 1, none⟩ = some (.int .i64 e1)) :
    Calls Try.prog 134 #[.slice (some ⟨b, 0, none⟩) 2 2] w fun e w' => e = .returned (.int .i64 (frst [e0, e1])) ∧ w = w' :=
  or_any [e0, e1] b 2 w rfl (cells2 h0 h1) (by omega)

/-- the upper and the lower half of a product -/
def hi64 (x y : Int) : Int := x * y / 18446744073709551616
def lo64 (x y : Int) : Int := x * y % 18446744073709551616
theorem mul64_any (x y : Int) (w : World) (hx : 0 ≤ x) (hx2 : x ≤ 9223372036854775807) (hy : 0 ≤ y) (hy2 : y ≤ 9223372036854775807) :
    Calls Try.prog 133 #[.int .u64 x, .int .u64 y] w fun e w' => e = .returned (.tuple #[.int .u64 (hi64 x y), .int .u64 (lo64 x y)]) ∧ w = w' := by
  obtain ⟨a, rfl⟩ := Int.eq_ofNat_of_zero_le hx
  obtain ⟨b, rfl⟩ := Int.eq_ofNat_of_zero_le hy
  refine (Try.bits_Mul64 a b (by omega) (by omega) w).mono fun e w' h => ⟨?_, h.2.symm⟩
  rw [h.1]; unfold hi64 lo64
  simp
theorem halves (a b c d : Int) : frst [cmpI (hi64 a b) (hi64 c d), cmpI (lo64 a b) (lo64 c d)] = sgn (a * b - c * d) := by
  unfold hi64 lo64
  generalize a * b = m
  generalize c * d = n
  simp only [frst, cmpI, sgn]
  by_cases h1 : m < n
  · repeat' split
    all_goals omega
  · by_cases h2 : n < m
    · repeat' split
      all_goals omega
    · repeat' split
      all_goals omega

set_option maxRecDepth 100000 in
set_option maxHeartbeats 400000 in
theorem products_any (a b c d : Int) (w : World) (a1 : 0 ≤ a) (a2 : a ≤ 9223372036854775807) (b1 : 0 ≤ b) (b2 : b ≤ 9223372036854775807) (c1 : 0 ≤ c) (c2 : c ≤ 9223372036854775807) (d1 : 0 ≤ d) (d2 : d ≤ 9223372036854775807) :
    Calls Try.prog 122 #[.int .i64 a, .int .i64 b, .int .i64 c, .int .i64 d] w fun e w' => e = .returned (.int .i64 (sgn (a * b - c * d))) ∧ Below w.heap.size w w' := by
  have hh := Lib.hid (halves a b c d)
  go_enter Try.func122, Try.ntmps122
  go_wp2_with (first | (go_at_call 133; refine (mul64_any _ _ _ (by omega) (by omega) (by omega) (by omega)).mono ?_; rintro e w' ⟨rfl, rfl⟩) | (go_at_call 135; refine (compare_any _ _ _).mono ?_; rintro e w' ⟨rfl, rfl⟩) | (go_at_call 134; refine (or2 (cmpI (hi64 a b) (hi64 c d)) (cmpI (lo64 a b) (lo64 c d)) _ _ (cell_fresh _ _ _ _ _ _ rfl rfl) (cell_fresh _ _ _ _ _ _ rfl rfl)).mono ?_; rintro e w' ⟨rfl, rfl⟩))
  go_ret
  exact ⟨ri hh.out, by (repeat' (first | (with_reducible exact Below.refl _ _) | (with_reducible assumption) | (with_reducible refine Below.alloc ?_ ?_ _) | (with_reducible refine Below.drew ?_) | (with_reducible refine below_drewN ?_ _) | (with_reducible refine Below.setCell ?_ ?_ _) | (with_reducible refine below_step (by with_reducible assumption) ?_ ?_) | (with_reducible exact Below.size (by with_reducible assumption)) | go_size))⟩
end Go.Proofs.Ytpphnnbijmoodaa
