/-
  FIRST: notAfter of package ray; rows of whole numbers.
-/
import Derived.Test.YtpphnnbijmoodaaScal
import Derived.OwnWalk
import Derived.Laws.AppendOwn
import Derived.Laws.OwnMore
import Derived.StillTailTactics
import Derived.Deep.Onto
import Derived.Lib.Hide
set_option linter.unusedVariables false
set_option linter.unusedSimpArgs false
namespace Go.Proofs.Ytpphnnbijmoodaa
open Go.RowKit

theorem abs_last {α : Sort _} {f : α → Prop} {x : α} (h : ∀ y, y = x → f y) : f x := h x rfl
theorem ownsRow_below {W W' : World} {base : Nat} {e : TypeId} {size n : Nat} {v : Value} {xs : List Value} (h : W.ownsRow base e size v n xs) (hB : Below W.heap.size W W') : W'.ownsRow base e size v n xs := by
  obtain ⟨h1, h2⟩ := h
  refine ⟨h1, ?_⟩
  rcases h2 with h2 | ⟨g, cap, cur, a, b, c, d⟩
  · exact .inl h2
  · exact .inr ⟨g, cap, cur, a, b, (hB.block g (Array.getElem?_eq_some_iff.1 c).1).trans c, d⟩
theorem min_if (a b : Int) : (if b < a then b else a) = min a b := by split <;> omega
/-- the least of the first k, and of the first one -/
def mnF (f : Nat → Int) : Nat → Int
  | 0 => f 0
  | k + 1 => min (mnF f k) (f k)
theorem mnF_le (f : Nat → Int) : ∀ n k, k < n → mnF f n ≤ f k
  | 0, k, h => absurd h (Nat.not_lt_zero _)
  | n + 1, k, h => by
    unfold mnF
    rcases Nat.lt_or_ge k n with c | c
    · have := mnF_le f n k c; omega
    · have : k = n := by omega
      subst this; omega
theorem mnF_is (f : Nat → Int) : ∀ n, 0 < n → ∃ k, k < n ∧ mnF f n = f k
  | 0, h => absurd h (Nat.lt_irrefl _)
  | n + 1, _ => by
    unfold mnF
    by_cases c : mnF f n ≤ f n
    · rw [show min (mnF f n) (f n) = mnF f n by omega]
      rcases Nat.eq_zero_or_pos n with h | h
      · subst h; exact ⟨0, by omega, rfl⟩
      · obtain ⟨k, hk, e⟩ := mnF_is f n h
        exact ⟨k, by omega, e⟩
    · exact ⟨n, by omega, by omega⟩
/-- the numbers of those that are at most e -/
def selI (L : Nat → Int) (e : Int) (n : Nat) : List Int := ((List.range n).filter fun i => decide (L i ≤ e)).map fun (i : Nat) => (i : Int)
theorem selI_succ (L : Nat → Int) (e : Int) (n : Nat) : selI L e (n + 1) = if L n ≤ e then selI L e n ++ [(n : Int)] else selI L e n := by
  unfold selI
  rw [List.range_succ, List.filter_append, List.map_append]
  by_cases h : L n ≤ e <;> simp [h, List.filter_cons]
theorem selI_len (L : Nat → Int) (e : Int) (n : Nat) : (selI L e n).length ≤ n := by
  unfold selI
  rw [List.length_map]
  exact Nat.le_trans (List.length_filter_le _ _) (by simp)
theorem selI_pos {L : Nat → Int} {e : Int} {n k : Nat} (hk : k < n) (h : L k ≤ e) : 0 < (selI L e n).length := by
  unfold selI
  rw [List.length_map]
  exact List.length_pos_of_mem (a := k) (List.mem_filter.2 ⟨List.mem_range.2 hk, by simpa using h⟩)
def vI (l : List Int) : List Value := l.map (Value.int .i64)
theorem infoInt : (Try.prog.info? 3).map (fun i => (i.zero, i.size, i.bytes)) = some (some (.int .i64 0), 1, 8) := by kernel_rfl
/-- a slice of whole numbers of the call's own -/
def IRow (w : World) (l : List Int) (e : Ending) (w' : World) : Prop := ∃ v, e = .returned v ∧ w'.ownsRow w.heap.size 3 1 v l.length (vI l) ∧ Below w.heap.size w w'
def IRowE (w : World) (l : List Int) (err : Int) (e : Ending) (w' : World) : Prop := ∃ v, e = .returned (.tuple #[v, .int .i64 err]) ∧ w'.ownsRow w.heap.size 3 1 v l.length (vI l) ∧ Below w.heap.size w w'

set_option maxRecDepth 100000 in
set_option maxHeartbeats 4000000 in
theorem notAfter_any (L H : Nat → Int) (N g cap : Nat) (w : World) (hN : 1 ≤ N ∧ N ≤ 100) (hcap : N ≤ cap ∧ cap ≤ maxLen) (hg : g < w.heap.size)
    (hcell : Hid (∀ k, k < N → w.cell? ⟨g, k * 2, none⟩ = some (.int .i64 (L k)) ∧ w.cell? ⟨g, k * 2 + 1, none⟩ = some (.int .i64 (H k)))) :
    Calls Try.prog 107 #[.slice (some ⟨g, 0, none⟩) N cap] w (IRow w (selI L (mnF H N) N)) := by
  have hmax := hcap.2
  unfold maxLen at hmax
  obtain ⟨i0, hi, hz0, hz1, hz2⟩ := info_parts infoInt
  have HI := Lib.hid hi
  have HZ := Lib.hid hz0
  have HZ1 := Lib.hid hz1
  have HZ2 := Lib.hid hz2
  clear hi hz0 hz1 hz2
  have c0 : w.cell? ⟨g, 1, none⟩ = some (.int .i64 (H 0)) := by have := (hcell.out 0 (by omega)).2; simpa using this
  have e0 : (0 : Int) < (N : Int) := by omega
  have HM0 := Lib.hid (show mnF H 0 = H 0 from rfl)
  have hB0 := Below.refl w.heap.size w
  go_enter Try.func107, Try.ntmps107
  go_wp2
  go_loopw [3, 15] (fun e i wr => ∃ k : Nat, k ≤ N ∧ i = .int .i64 (k : Int) ∧ e = .int .i64 (mnF H k) ∧ Below w.heap.size w wr) (fun _ i _ => N - (intOf i).toNat)
  case atStart => exact ⟨0, Nat.zero_le _, rfl, by rw [HM0.out], hB0⟩
  case round =>
    obtain ⟨k, hk, rfl, rfl, hB⟩ := hrel
    have hzr := hB.size
    clear c0
    by_cases hlt : k < N
    · obtain ⟨a0, a1⟩ := hcell.out k hlt
      have d0 := ((bcell hB).1 g (k * 2) hg).trans a0
      have d1 := ((bcell hB).1 g (k * 2 + 1) hg).trans a1
      clear a0 a1
      have HM := Lib.hid (show mnF H (k + 1) = min (mnF H k) (H k) from rfl)
      have e1 : (0 : Int) ≤ (k : Int) := by omega
      have e2 : (k : Int) < (N : Int) := by omega
      generalize L k = lo at *
      go_wp2
      go_roundw
      case rel => exact ⟨k + 1, by omega, by go_num, by rw [HM.out, min_if], by (repeat' (first | (with_reducible exact Below.refl _ _) | (with_reducible assumption) | (with_reducible refine Below.alloc ?_ ?_ _) | (with_reducible refine Below.drew ?_) | (with_reducible refine below_drewN ?_ _) | (with_reducible refine Below.setCell ?_ ?_ _) | (with_reducible refine below_step (by with_reducible assumption) ?_ ?_) | (with_reducible exact Below.size (by with_reducible assumption)) | go_size))⟩
      case measure => simp [intOf]; omega
    · have ek : k = N := by omega
      subst ek
      have e2 : ¬ (k : Int) < (k : Int) := by omega
      generalize mnF H k = E at *
      go_wp2
      go_loopw [6, 26] (fun v i ws => ∃ j : Nat, j ≤ k ∧ i = .int .i64 (j : Int) ∧ ws.ownsRow w.heap.size 3 1 v (selI L E j).length (vI (selI L E j)) ∧ Below w.heap.size w ws) (fun _ i _ => k - (intOf i).toNat)
      case atStart => exact ⟨0, Nat.zero_le _, rfl, World.ownsRow_nil _ _ _ _, hB⟩
      case round =>
        rename_i hB1
        obtain ⟨j, hj, rfl, hown, hBs⟩ := hrel
        have hzs := hBs.size
        by_cases hlj : j < k
        · obtain ⟨a0, a1⟩ := hcell.out j hlj
          have d0 := ((bcell hBs).1 g (j * 2) hg).trans a0
          have d1 := ((bcell hBs).1 g (j * 2 + 1) hg).trans a1
          clear a0 a1
          have e1 : (0 : Int) ≤ (j : Int) := by omega
          have e3 : (j : Int) < (k : Int) := by omega
          have HS := Lib.hid (selI_succ L E j)
          have hlen := selI_len L E j
          generalize H j = hi at *
          have hO := Lib.hid hown
          clear hown
          by_cases hL : L j ≤ E
          · rw [if_pos hL] at HS
            go_wp2_with (at_builtin; refine wpList_append_own _ rfl (.tmp 35) (.tmp 37) 89 rfl w.heap.size 3 i0 (.int .i64 0) 1 8 Try.underlying89 HI.out HZ.out HZ1.out HZ2.out rfl (by decide) _ _ _ rfl ((hO.out.alloc _).alloc _) ⟨wr.heap.size + 1, 0, none⟩ 1 1 [.int .i64 (j : Int)] rfl rfl ?c1 ?c2 ?c3 ?c4 ?c5 ?_)
            case c1 =>
              intro i u hi
              match i, hi with
              | 0, hi => simp at hi; subst hi; simp [Addr.add]
            case c2 => intro u hu; simp at hu; subst hu; rfl
            case c3 => unfold maxLen; omega
            case c4 => omega
            case c5 => simp; omega
            intro v' wA hown' hgrow _
            have hO' := Lib.hid hown'
            have hBA : Below w.heap.size w wA := Below.grown (by (repeat' (first | (with_reducible exact Below.refl _ _) | (with_reducible assumption) | (with_reducible refine Below.alloc ?_ ?_ _) | (with_reducible refine Below.drew ?_) | (with_reducible refine below_drewN ?_ _) | (with_reducible refine Below.setCell ?_ ?_ _) | (with_reducible refine below_step (by with_reducible assumption) ?_ ?_) | (with_reducible exact Below.size (by with_reducible assumption)) | go_size))) hgrow (by simp; omega) (fun b hb => (hO.out.lt b hb).1)
            clear hown' hgrow
            go_wp2
            go_roundw
            case rel =>
              refine ⟨j + 1, by omega, by go_num, ?_, hBA⟩
              rw [HS.out, List.length_append, vI, List.map_append]
              exact hO'.out
            case measure => simp [intOf]; omega
          · rw [if_neg hL] at HS
            go_wp2
            go_roundw
            case rel => exact ⟨j + 1, by omega, by go_num, by rw [HS.out]; exact ownsRow_below hO.out (by (repeat' (first | (with_reducible exact Below.refl _ _) | (with_reducible assumption) | (with_reducible refine Below.alloc ?_ ?_ _) | (with_reducible refine Below.drew ?_) | (with_reducible refine below_drewN ?_ _) | (with_reducible refine Below.setCell ?_ ?_ _) | (with_reducible refine below_step (by with_reducible assumption) ?_ ?_) | (with_reducible exact Below.size (by with_reducible assumption)) | go_size))), by (repeat' (first | (with_reducible exact Below.refl _ _) | (with_reducible assumption) | (with_reducible refine Below.alloc ?_ ?_ _) | (with_reducible refine Below.drew ?_) | (with_reducible refine below_drewN ?_ _) | (with_reducible refine Below.setCell ?_ ?_ _) | (with_reducible refine below_step (by with_reducible assumption) ?_ ?_) | (with_reducible exact Below.size (by with_reducible assumption)) | go_size))⟩
            case measure => simp [intOf]; omega
        · have ej : j = k := by omega
          subst ej
          go_wp2
          go_ret
          exact ⟨_, rfl, hown, hBs⟩
end Go.Proofs.Ytpphnnbijmoodaa
