/-
  ROWS OF RANGES compared by the reference's base.
-/
import Derived.Test.YtpphnnbijmoodaaWalls
import Derived.Deep.QuietTactic
import Derived.BigQuiet
set_option linter.unusedVariables false
set_option linter.unusedSimpArgs false
namespace Go.Proofs.Ytpphnnbijmoodaa
open Go.RowKit

def fl (l : List (Int × Int)) : List Value := l.flatMap fun p => [.int .i64 p.1, .int .i64 p.2]
theorem fl_len (l : List (Int × Int)) : (fl l).length = l.length * 2 := by
  induction l with
  | nil => rfl
  | cons p l ih => unfold fl at *; simp at *; omega
theorem fl_get : ∀ (l : List (Int × Int)) (k : Nat), k < l.length → (fl l)[k * 2]? = some (.int .i64 (l[k]?.getD (0, 0)).1) ∧ (fl l)[k * 2 + 1]? = some (.int .i64 (l[k]?.getD (0, 0)).2)
  | [], k, h => absurd h (Nat.not_lt_zero _)
  | p :: l, 0, _ => ⟨rfl, rfl⟩
  | p :: l, k + 1, h => by
    have := fl_get l k (by simpa using h)
    have e : fl (p :: l) = .int .i64 p.1 :: .int .i64 p.2 :: fl l := rfl
    rw [e, Nat.succ_mul]
    exact this
set_option maxRecDepth 100000 in
set_option maxHeartbeats 1000000 in
theorem ranges_rows (g1 g2 c1 c2 n : Nat) (l : List (Int × Int)) (w : World) (hn : l.length = n) (hb : n ≤ 1000) (hc1 : n ≤ c1) (hc2 : n ≤ c2) (hm1 : c1 ≤ maxLen) (hm2 : c2 ≤ maxLen)
    (h1 : ∀ j, j < n * 2 → w.cell? ⟨g1, j, none⟩ = (fl l)[j]?) (h2 : ∀ j, j < n * 2 → w.cell? ⟨g2, j, none⟩ = (fl l)[j]?) :
    Calls Try.prog 53 #[.slice (some ⟨g1, 0, none⟩) n c1, .slice (some ⟨g2, 0, none⟩) n c2] w fun e w' => e = .returned (.bool true) ∧ Below w.heap.size w w' := by
  unfold maxLen at hm1 hm2
  have H1 := Lib.hid h1
  have H2 := Lib.hid h2
  have HN := Lib.hid hn
  clear h1 h2 hn
  go_enter Try.func53, Try.ntmps53
  go_wp2
  go_loopw [5] (fun i wr => ∃ k q : Nat, k ≤ n ∧ i = .int .i64 (k : Int) ∧ wr = w.drewN q) (fun i _ => n - (intOf i).toNat)
  case atStart => exact ⟨0, 0, Nat.zero_le _, rfl, rfl⟩
  case round =>
    obtain ⟨k, q, hk, rfl, rfl⟩ := hrel
    by_cases hlt : k < n
    · have a1 := fl_get l k (by have := HN.out; omega)
      have d10 := (H1.out (k * 2) (by omega)).trans a1.1
      have d11 := (H1.out (k * 2 + 1) (by omega)).trans a1.2
      have d20 := (H2.out (k * 2) (by omega)).trans a1.1
      have d21 := (H2.out (k * 2 + 1) (by omega)).trans a1.2
      clear a1
      generalize (l[k]?.getD (0, 0)).1 = x at *
      generalize (l[k]?.getD (0, 0)).2 = y at *
      have e0 : (0 : Int) ≤ (k : Int) := by omega
      have e1 : (k : Int) < (n : Int) := by omega
      go_wp2_with fail
      go_quiet (fail)
      go_wp2
      go_roundw
      case rel => exact ⟨k + 1, _, by omega, by go_num, rfl⟩
      case measure => simp [intOf]; omega
    · have e1 : ¬ (k : Int) < (n : Int) := by omega
      go_wp2
      go_ret
      exact ⟨rfl, below_drewN (Below.refl _ _) _⟩
theorem ranges_nil (w : World) (v1 v2 : Value) (h1 : v1 = .slice none 0 0 ∨ ∃ g c, v1 = .slice (some ⟨g, 0, none⟩) 0 c) (h2 : v2 = .slice none 0 0 ∨ ∃ g c, v2 = .slice (some ⟨g, 0, none⟩) 0 c) :
    Calls Try.prog 53 #[v1, v2] w fun e w' => e = .returned (.bool true) ∧ Below w.heap.size w w' := by
  rcases h1 with rfl | ⟨g1, c1, rfl⟩ <;> rcases h2 with rfl | ⟨g2, c2, rfl⟩
  all_goals
    go_enter Try.func53, Try.ntmps53
    go_wp2
    go_loopw [5] (fun i wr => i = .int .i64 0 ∧ wr = w) (fun _ _ => 0)
    case atStart => exact ⟨rfl, rfl⟩
    case round =>
      obtain ⟨rfl, rfl⟩ := hrel
      go_wp2
      go_ret
      exact ⟨rfl, Below.refl _ _⟩
end Go.Proofs.Ytpphnnbijmoodaa
