/-
  FIRST: MayBeFirst of package ray.
-/
import Derived.Test.YtpphnnbijmoodaaNotAfter
import Derived.Test.YtpphnnbijmoodaaWalls
import Derived.Test.YtpphnnbijmoodaaWayErr
set_option linter.unusedVariables false
set_option linter.unusedSimpArgs false
namespace Go.Proofs.Ytpphnnbijmoodaa
open Go.RowKit

/-- the error of the first of k that has one -/
def eF (g : Nat → Int) : Nat → Int
  | 0 => 0
  | k + 1 => if eF g k = 0 then g k else eF g k
theorem eF_succ {g : Nat → Int} {k : Nat} (h : eF g k = 0) (h2 : g k = 0) : eF g (k + 1) = 0 := by
  unfold eF; rw [if_pos h]; exact h2
theorem eF_zero {g : Nat → Int} : ∀ {n : Nat}, eF g n = 0 → ∀ k, k < n → g k = 0
  | 0, _, k, h => absurd h (Nat.not_lt_zero _)
  | n + 1, e, k, h => by
    unfold eF at e
    by_cases c : eF g n = 0
    · rw [if_pos c] at e
      rcases Nat.lt_or_ge k n with d | d
      · exact eF_zero c k d
      · have : k = n := by omega
        subst this; exact e
    · rw [if_neg c] at e; exact absurd e c
theorem eF_stay {g : Nat → Int} {k : Nat} (h : eF g k = 0) (h2 : ¬ g k = 0) : ∀ d, eF g (k + 1 + d) = g k
  | 0 => by show eF g (k + 1) = _; unfold eF; rw [if_pos h]
  | d + 1 => by
    have := eF_stay h h2 d
    show eF g (k + 1 + d + 1) = _
    unfold eF
    rw [this, if_neg h2]
theorem eF_is {g : Nat → Int} {k N : Nat} (h : eF g k = 0) (h2 : ¬ g k = 0) (hk : k < N) : eF g N = g k := by
  have := eF_stay h h2 (N - (k + 1))
  rwa [show k + 1 + (N - (k + 1)) = N by omega] at this
/-- the error of a length -/
def lE8 (n m : Int) : Int := frst [unl (decide (0 < n)) 10, unl (decide (n ≤ m)) 8]
set_option maxRecDepth 100000 in
set_option maxHeartbeats 1000000 in
theorem lengthError_any (n m : Int) (w : World) : Calls Try.prog 106 #[.int .i64 n, .int .i64 m] w fun e w' => e = .returned (.int .i64 (lE8 n m)) ∧ Below w.heap.size w w' := by
  have HE := Lib.hid (show lE8 n m = frst [unl (decide (0 < n)) 10, unl (decide (n ≤ m)) 8] from rfl)
  go_enter Try.func106, Try.ntmps106
  go_wp2_with fail
  refine (unless_any _ _ _).mono ?_
  rintro e w' ⟨rfl, rfl⟩
  go_wp2_with fail
  refine (unless_any _ _ _).mono ?_
  rintro e w' ⟨rfl, rfl⟩
  go_wp2_with fail
  apply Calls.mono
  focus ((apply first2 <;> exact cell_fresh _ _ _ _ _ _ (by first | rfl | simp) rfl); done)
  rintro e w' ⟨rfl, rfl⟩
  go_wp2
  go_ret
  exact ⟨ri HE.out.symm, by (repeat' (first | (with_reducible exact Below.refl _ _) | (with_reducible assumption) | (with_reducible refine Below.alloc ?_ ?_ _) | (with_reducible refine Below.drew ?_) | (with_reducible refine below_drewN ?_ _) | (with_reducible refine Below.setCell ?_ ?_ _) | (with_reducible refine below_step (by with_reducible assumption) ?_ ?_) | (with_reducible exact Below.size (by with_reducible assumption)) | go_size))⟩

/-- what the modes are read from -/
def MRow (w : World) (p : Option Addr) (N : Nat) (M : Nat → Md) : Prop := 0 < N → ∃ g o, p = some ⟨g, o, none⟩ ∧ g < w.heap.size ∧ ∀ k, k < N → w.cell? ⟨g, o + k * 4, none⟩ = some (.int .i64 (M k).Wedge) ∧ w.cell? ⟨g, o + k * 4 + 1, none⟩ = some (.int .i64 (M k).Metal) ∧ w.cell? ⟨g, o + k * 4 + 2, none⟩ = some (.int .i64 (M k).Skips) ∧ w.cell? ⟨g, o + k * 4 + 3, none⟩ = some (.int .i64 (M k).Thick)
theorem MRow.below {w w' : World} {p : Option Addr} {N : Nat} {M : Nat → Md} (h : MRow w p N M) (hB : Below w.heap.size w w') : MRow w' p N M := by
  intro h0
  obtain ⟨g, o, hp, hg, hc⟩ := h h0
  have b := (bcell hB).1
  exact ⟨g, o, hp, by have := hB.size; omega, fun k hk => ⟨(b _ _ hg).trans (hc k hk).1, (b _ _ hg).trans (hc k hk).2.1, (b _ _ hg).trans (hc k hk).2.2.1, (b _ _ hg).trans (hc k hk).2.2.2⟩⟩

set_option maxRecDepth 100000 in
set_option maxHeartbeats 1000000 in
theorem mayBeFirst_len (p : Option Addr) (N cap : Nat) (fx fz tx tz : Int) (w : World) (hc : N ≤ cap ∧ cap ≤ maxLen) (h : ¬ lE8 (N : Int) 8 = 0) :
    Calls Try.prog 61 #[.slice p N cap, .agg #[.int .i64 fx, .int .i64 fz], .agg #[.int .i64 tx, .int .i64 tz]] w fun e w' => e = .returned (.tuple #[.slice none 0 0, .int .i64 (lE8 (N : Int) 8)]) ∧ Below w.heap.size w w' := by
  have K1 := Lib.hid (fun W => lengthError_any (N : Int) 8 W)
  generalize lE8 (N : Int) 8 = g at *
  go_enter Try.func61, Try.ntmps61
  go_wp2_with fail; (refine (K1.out _).mono ?_; rintro e w1 ⟨rfl, hw1⟩; obtain ⟨hcw1, hfw1, hlw1, hmw1, hnw1⟩ := bcell3 hw1; have hzw1 := hw1.size; (try simp only [World.size_alloc, World.size_setCell, World.size_drew, size_drewN] at hzw1))
  go_wp2
  go_ret2
  exact ⟨rfl, by (repeat' (first | (with_reducible exact Below.refl _ _) | (with_reducible assumption) | (with_reducible refine Below.alloc ?_ ?_ _) | (with_reducible refine Below.drew ?_) | (with_reducible refine below_drewN ?_ _) | (with_reducible refine Below.setCell ?_ ?_ _) | (with_reducible refine below_step (by with_reducible assumption) ?_ ?_) | (with_reducible exact Below.size (by with_reducible assumption)) | go_size))⟩
/-- the times of the first k -/
def tl (L H : Nat → Int) (k : Nat) : List Value := (List.range k).flatMap fun j => [.int .i64 (L j), .int .i64 (H j)]
theorem tl_succ (L H : Nat → Int) (k : Nat) : tl L H (k + 1) = tl L H k ++ [.int .i64 (L k), .int .i64 (H k)] := by
  unfold tl; rw [List.range_succ, List.flatMap_append]; simp
theorem tl_len (L H : Nat → Int) : ∀ k, (tl L H k).length = k * 2
  | 0 => rfl
  | k + 1 => by rw [tl_succ, List.length_append, tl_len L H k]; simp; omega
theorem tl_get (L H : Nat → Int) : ∀ n k, k < n → (tl L H n)[k * 2]? = some (.int .i64 (L k)) ∧ (tl L H n)[k * 2 + 1]? = some (.int .i64 (H k))
  | 0, k, h => absurd h (Nat.not_lt_zero _)
  | n + 1, k, h => by
    rw [tl_succ]
    have hl := tl_len L H n
    rcases Nat.lt_or_ge k n with c | c
    · have := tl_get L H n k c
      rw [List.getElem?_append_left (by omega), List.getElem?_append_left (by omega)]
      exact this
    · have : k = n := by omega
      subst this
      rw [List.getElem?_append_right (by omega), List.getElem?_append_right (by omega), hl]
      exact ⟨by rw [Nat.sub_self]; rfl, by rw [Nat.add_sub_cancel_left]; rfl⟩
/-- what MayBeFirst answers -/
def FPost (w : World) (L H : Nat → Int) (g : Nat → Int) (N : Nat) (e : Ending) (w' : World) : Prop :=
  (eF g N = 0 ∧ IRowE w (selI L (mnF H N) N) 0 e w') ∨ (¬ eF g N = 0 ∧ e = .returned (.tuple #[.slice none 0 0, .int .i64 (eF g N)]) ∧ Below w.heap.size w w')
set_option maxRecDepth 100000 in
set_option maxHeartbeats 4000000 in
theorem mayBeFirst_walk (M : Nat → Md) (L H g : Nat → Int) (p : Option Addr) (N cap : Nat) (fx fz tx tz : Int) (w : World) (hc : N ≤ cap ∧ cap ≤ maxLen) (hN : 1 ≤ N ∧ N ≤ 8) (hrow : MRow w p N M)
    (KL : Hid (∀ k, k < N → g k = 0 → ∀ W, Calls Try.prog 46 #[.agg #[.int .i64 (M k).Wedge, .int .i64 (M k).Metal, .int .i64 (M k).Skips, .int .i64 (M k).Thick], .agg #[.int .i64 fx, .int .i64 fz], .agg #[.int .i64 tx, .int .i64 tz]] W fun e w' => e = .returned (.tuple #[.agg #[.int .i64 (L k), .int .i64 (H k)], .int .i64 0]) ∧ Below W.heap.size W w'))
    (KE : Hid (∀ k, k < N → ¬ g k = 0 → ∀ W, Calls Try.prog 46 #[.agg #[.int .i64 (M k).Wedge, .int .i64 (M k).Metal, .int .i64 (M k).Skips, .int .i64 (M k).Thick], .agg #[.int .i64 fx, .int .i64 fz], .agg #[.int .i64 tx, .int .i64 tz]] W fun e w' => e = .returned (.tuple #[.agg #[.int .i64 0, .int .i64 0], .int .i64 (g k)]) ∧ Below W.heap.size W w')) :
    Calls Try.prog 61 #[.slice p N cap, .agg #[.int .i64 fx, .int .i64 fz], .agg #[.int .i64 tx, .int .i64 tz]] w (FPost w L H g N) := by
  have hmax := hc.2
  unfold maxLen at hmax
  have K1 : ∀ W, _ := fun W => lengthError_any (N : Int) 8 W
  rw [show lE8 (N : Int) 8 = 0 by unfold lE8; rw [decide_eq_true (by omega), decide_eq_true (by omega)]; rfl] at K1
  have KN := Lib.hid K1
  clear K1
  obtain ⟨i0, hi, hz0, hz1, hz2⟩ := info_parts infoRange
  have HI := Lib.hid hi
  have HZ := Lib.hid hz0
  have HZ1 := Lib.hid hz1
  have HZ2 := Lib.hid hz2
  clear hi hz0 hz1 hz2
  have HR := Lib.hid hrow
  clear hrow
  go_enter Try.func61, Try.ntmps61
  go_wp2_with fail; (refine (KN.out _).mono ?_; rintro e w1 ⟨rfl, hw1⟩; obtain ⟨hcw1, hfw1, hlw1, hmw1, hnw1⟩ := bcell3 hw1; have hzw1 := hw1.size; (try simp only [World.size_alloc, World.size_setCell, World.size_drew, size_drewN] at hzw1))
  have cf1_0 : w1.cell? ⟨w.heap.size, 0, none⟩ = some (.int .i64 (fx)) := (hcw1 (w.heap.size) (0) (by first | omega | (simp only [World.size_alloc, World.size_drew, World.size_setCell, size_drewN]; omega))).trans (by first | assumption | (simp [go_sem, *]; done)); have cf1_1 : w1.cell? ⟨w.heap.size, 1, none⟩ = some (.int .i64 (fz)) := (hcw1 (w.heap.size) (1) (by first | omega | (simp only [World.size_alloc, World.size_drew, World.size_setCell, size_drewN]; omega))).trans (by first | assumption | (simp [go_sem, *]; done)); have of1 : w.heap.size < w1.heap.size := (by omega)
  have ct1_0 : w1.cell? ⟨w.heap.size + 1, 0, none⟩ = some (.int .i64 (tx)) := (hcw1 (w.heap.size + 1) (0) (by first | omega | (simp only [World.size_alloc, World.size_drew, World.size_setCell, size_drewN]; omega))).trans (by first | assumption | (simp [go_sem, *]; done)); have ct1_1 : w1.cell? ⟨w.heap.size + 1, 1, none⟩ = some (.int .i64 (tz)) := (hcw1 (w.heap.size + 1) (1) (by first | omega | (simp only [World.size_alloc, World.size_drew, World.size_setCell, size_drewN]; omega))).trans (by first | assumption | (simp [go_sem, *]; done)); have ot1 : w.heap.size + 1 < w1.heap.size := (by omega)
  have HR1 := Lib.hid (HR.out.below (show Below w.heap.size w w1 by (repeat' (first | (with_reducible exact Below.refl _ _) | (with_reducible assumption) | (with_reducible refine Below.alloc ?_ ?_ _) | (with_reducible refine Below.drew ?_) | (with_reducible refine below_drewN ?_ _) | (with_reducible refine Below.setCell ?_ ?_ _) | (with_reducible refine below_step (by with_reducible assumption) ?_ ?_) | (with_reducible exact Below.size (by with_reducible assumption)) | go_size))))
  clear hcw1 hfw1 hlw1 hmw1 hnw1
  go_wp2
  go_loopw [9, 22] (fun v i wr => ∃ k : Nat, k ≤ N ∧ i = .int .i64 (k : Int) ∧ eF g k = 0 ∧ wr.ownsRow w1.heap.size 26 2 v k (tl L H k) ∧ Below w1.heap.size w1 wr) (fun _ i _ => N - (intOf i).toNat)
  case atStart => exact ⟨0, Nat.zero_le _, rfl, rfl, World.ownsRow_nil _ _ _ _, Below.refl _ _⟩
  case round =>
    obtain ⟨k, hk, rfl, he, hown, hB⟩ := hrel
    have hzr := hB.size
    have cfr_0 : wr.cell? ⟨w.heap.size, 0, none⟩ = some (.int .i64 (fx)) := ((bcell (hB)).1 _ _ (by omega)).trans cf1_0
    have cfr_1 : wr.cell? ⟨w.heap.size, 1, none⟩ = some (.int .i64 (fz)) := ((bcell (hB)).1 _ _ (by omega)).trans cf1_1
    have ctr_0 : wr.cell? ⟨w.heap.size + 1, 0, none⟩ = some (.int .i64 (tx)) := ((bcell (hB)).1 _ _ (by omega)).trans ct1_0
    have ctr_1 : wr.cell? ⟨w.heap.size + 1, 1, none⟩ = some (.int .i64 (tz)) := ((bcell (hB)).1 _ _ (by omega)).trans ct1_1
    have ofr : w.heap.size < wr.heap.size := by omega
    have otr : w.heap.size + 1 < wr.heap.size := by omega
    have HE := Lib.hid he
    have hO := Lib.hid hown
    clear he hown
    by_cases hlt : k < N
    · obtain ⟨gg, o, rfl, hg, hcell⟩ := HR1.out (by omega)
      obtain ⟨a0, a1, a2, a3⟩ := hcell k hlt
      have b := (bcell hB).1
      have d0 := (b _ _ hg).trans a0
      have d1 := (b _ _ hg).trans a1
      have d2 := (b _ _ hg).trans a2
      have d3 := (b _ _ hg).trans a3
      clear a0 a1 a2 a3 b hcell
      have ogr : gg < wr.heap.size := by omega
      have e0 : (0 : Int) ≤ (k : Int) := by omega
      have e1 : (k : Int) < (N : Int) := by omega
      by_cases hgk : g k = 0
      · have KT := Lib.hid (KL.out k hlt hgk)
        have HT := Lib.hid (tl_succ L H k)
        have HE2 := Lib.hid (eF_succ HE.out hgk)
        clear hgk
        generalize (M k).Wedge = m0 at *
        generalize (M k).Metal = m1 at *
        generalize (M k).Skips = m2 at *
        generalize (M k).Thick = m3 at *
        generalize L k = lo at *
        generalize H k = hi at *
        go_wp2_with fail
        refine (KT.out _).mono ?_
        rintro e w9 ⟨rfl, hw9⟩
        have hzw9 := hw9.size
        simp only [World.size_alloc, World.size_setCell, World.size_drew] at hzw9
        have O9 := Lib.hid (ownsRow_below hO.out (show Below wr.heap.size wr w9 by (repeat' (first | (with_reducible exact Below.refl _ _) | (with_reducible assumption) | (with_reducible refine Below.alloc ?_ ?_ _) | (with_reducible refine Below.drew ?_) | (with_reducible refine below_drewN ?_ _) | (with_reducible refine Below.setCell ?_ ?_ _) | (with_reducible refine below_step (by with_reducible assumption) ?_ ?_) | (with_reducible exact Below.size (by with_reducible assumption)) | go_size))))
        have hb9 : Below w1.heap.size w1 w9 := by (repeat' (first | (with_reducible exact Below.refl _ _) | (with_reducible assumption) | (with_reducible refine Below.alloc ?_ ?_ _) | (with_reducible refine Below.drew ?_) | (with_reducible refine below_drewN ?_ _) | (with_reducible refine Below.setCell ?_ ?_ _) | (with_reducible refine below_step (by with_reducible assumption) ?_ ?_) | (with_reducible exact Below.size (by with_reducible assumption)) | go_size))
        clear hO d0 d1 d2 d3 cfr_0 cfr_1 ctr_0 ctr_1
        go_wp2_with (at_builtin; refine wpList_append_own _ rfl (.tmp 36) (.tmp 38) 66 rfl w1.heap.size 26 i0 (.agg #[.int .i64 0, .int .i64 0]) 2 16 Try.underlying66 HI.out HZ.out HZ1.out HZ2.out rfl (by decide) _ _ _ rfl ((O9.out.alloc _).alloc _) ⟨w9.heap.size + 1, 0, none⟩ 1 1 [.int .i64 lo, .int .i64 hi] rfl rfl ?c1 ?c2 ?c3 ?c4 ?c5 ?_)
        case c1 =>
          intro i u hi
          match i, hi with
          | 0, hi => simp at hi; subst hi; simp [Addr.add]
          | 1, hi => simp at hi; subst hi; simp [Addr.add]
        case c2 => intro u hu; simp at hu; rcases hu with rfl | rfl <;> rfl
        case c3 => unfold maxLen; omega
        case c4 => omega
        case c5 => simp; omega
        intro v' wA hown' hgrow _
        have hO' := Lib.hid hown'
        have hBA : Below w1.heap.size w1 wA := Below.grown (by (repeat' (first | (with_reducible exact Below.refl _ _) | (with_reducible assumption) | (with_reducible refine Below.alloc ?_ ?_ _) | (with_reducible refine Below.drew ?_) | (with_reducible refine below_drewN ?_ _) | (with_reducible refine Below.setCell ?_ ?_ _) | (with_reducible refine below_step (by with_reducible assumption) ?_ ?_) | (with_reducible exact Below.size (by with_reducible assumption)) | go_size))) hgrow (by simp; omega) (fun b hb => (O9.out.lt b hb).1)
        clear hown' hgrow
        go_wp2
        go_roundw
        case rel => exact ⟨k + 1, by omega, by go_num, HE2.out, by rw [HT.out]; exact hO'.out, hBA⟩
        case measure => simp [intOf]; omega
      · have KT := Lib.hid (KE.out k hlt hgk)
        have HE2 := Lib.hid (eF_is HE.out hgk hlt)
        generalize (M k).Wedge = m0 at *
        generalize (M k).Metal = m1 at *
        generalize (M k).Skips = m2 at *
        generalize (M k).Thick = m3 at *
        generalize g k = er at *
        go_wp2_with fail
        refine (KT.out _).mono ?_
        rintro e w9 ⟨rfl, hw9⟩
        have hzw9 := hw9.size
        simp only [World.size_alloc, World.size_setCell, World.size_drew] at hzw9
        go_wp2
        go_ret2
        exact .inr ⟨by rw [HE2.out]; exact hgk, by rw [HE2.out]; rfl, by (repeat' (first | (with_reducible exact Below.refl _ _) | (with_reducible assumption) | (with_reducible refine Below.alloc ?_ ?_ _) | (with_reducible refine Below.drew ?_) | (with_reducible refine below_drewN ?_ _) | (with_reducible refine Below.setCell ?_ ?_ _) | (with_reducible refine below_step (by with_reducible assumption) ?_ ?_) | (with_reducible exact Below.size (by with_reducible assumption)) | go_size))⟩
    · have ek : k = N := by omega
      subst ek
      have e1 : ¬ (k : Int) < (k : Int) := by omega
      have ho := hO.out
      rcases ho.2 with ⟨_, e⟩ | ⟨g1, c1, cur1, rfl, _, hgg, a1, m1, _⟩
      · exact absurd e (by omega)
      · have hc1 : Hid (∀ j, j < k → wr.cell? ⟨g1, j * 2, none⟩ = some (.int .i64 (L j)) ∧ wr.cell? ⟨g1, j * 2 + 1, none⟩ = some (.int .i64 (H j))) :=
          Lib.hid fun j hj => ⟨(ho.cellAt (j * 2) (by omega)).trans (tl_get L H k j hj).1, (ho.cellAt (j * 2 + 1) (by omega)).trans (tl_get L H k j hj).2⟩
        have KA := Lib.hid (notAfter_any L H k g1 c1 wr (by omega) ⟨a1, m1⟩ (Array.getElem?_eq_some_iff.1 hgg).1 hc1)
        have hHid := Lib.hid hgg
        unfold maxLen at m1
        clear hgg ho cfr_0 cfr_1 ctr_0 ctr_1
        go_wp2_with fail
        refine KA.out.mono ?_
        rintro e wz ⟨v', rfl, hown', hBz⟩
        have hO' := Lib.hid hown'
        clear hown'
        have hzz := hBz.size
        go_wp2
        go_ret2
        exact .inl ⟨HE.out, v', rfl, hO'.out.mono (by omega), by (repeat' (first | (with_reducible exact Below.refl _ _) | (with_reducible assumption) | (with_reducible refine Below.alloc ?_ ?_ _) | (with_reducible refine Below.drew ?_) | (with_reducible refine below_drewN ?_ _) | (with_reducible refine Below.setCell ?_ ?_ _) | (with_reducible refine below_step (by with_reducible assumption) ?_ ?_) | (with_reducible exact Below.size (by with_reducible assumption)) | go_size))⟩
end Go.Proofs.Ytpphnnbijmoodaa
