/-
  THE FIRST OF SOME ERRORS, as package ray and the reference find it in a slice that the caller has just made.
-/
import Derived.Test.YtpphnnbijmoodaaScal
import Derived.Lib.Hide
import Derived.StillTailTactics
import Derived.Deep.RegionHeld3
set_option linter.unusedVariables false
set_option linter.unusedSimpArgs false
namespace Go.Proofs.Ytpphnnbijmoodaa
open Go.RowKit

/-- the first number that is not 0, or 0 -/
def frst : List Int → Int
  | [] => 0
  | e :: l => if e = 0 then frst l else e
theorem frst_drop {l : List Int} {k : Nat} (h : k < l.length) : frst (l.drop k) = if l[k]?.getD 0 = 0 then frst (l.drop (k + 1)) else l[k]?.getD 0 := by
  rw [List.drop_eq_getElem_cons h, frst]; simp [h]

set_option maxHeartbeats 400000 in
theorem firstOf_any (es : List Int) (b n : Nat) (w : World) (hn : n = es.length) (hc : ∀ i, i < n → w.cell? ⟨b, i, none⟩ = some (.int .i64 (es[i]?.getD 0))) (hl : n ≤ 100) :
    Calls Try.prog 77 #[.slice (some ⟨b, 0, none⟩) n n] w fun e w' => e = .returned (.int .i64 (frst es)) ∧ w = w' := by
  have Hn := Lib.hid hn
  clear hn
  have Hc := Lib.hid hc
  clear hc
  go_enter Try.func77, Try.ntmps77
  go_wp2
  go_loop [7] (fun i => ∃ k : Nat, k ≤ n ∧ frst es = frst (es.drop k) ∧ i = .int .i64 k) (fun i => n - (intOf i).toNat)
  case atStart => exact ⟨0, Nat.zero_le _, by simp, rfl⟩
  case round =>
    obtain ⟨k, hk, hf, rfl⟩ := hrel
    have HF := Lib.hid hf
    clear hf
    by_cases hlt : k < n
    · have hcell := Hc.out k hlt
      have hd := frst_drop (l := es) (k := k) (by have := Hn.out; omega)
      by_cases h0 : es[k]?.getD 0 = 0
      · rw [if_pos h0] at hd
        have HD := Lib.hid hd
        clear hd
        rw [h0] at hcell
        clear h0
        go_wp2
        go_round
        case rel => exact ⟨k + 1, by omega, by rw [HF.out, HD.out], by go_num⟩
        case measure => simp [intOf]; omega
      · rw [if_neg h0] at hd
        have HD := Lib.hid hd
        clear hd
        go_wp2
        go_ret
        exact ⟨ri (by rw [HF.out, HD.out]), rfl⟩
    · have hd : frst (es.drop k) = 0 := by rw [List.drop_eq_nil_of_le (by have := Hn.out; omega)]; rfl
      have HD := Lib.hid hd
      clear hd
      go_wp2
      go_ret
      exact ⟨ri (by rw [HF.out, HD.out]), rfl⟩

theorem cells2 {w : World} {b : Nat} {e0 e1 : Int} (h0 : w.cell? ⟨b, 0, none⟩ = some (.int .i64 e0)) (h1 : w.cell? ⟨b, 1, none⟩ = some (.int .i64 e1)) :
    ∀ i, i < 2 → w.cell? ⟨b, i, none⟩ = some (.int .i64 ([e0, e1][i]?.getD 0)) := by
  intro i hi
  match i, hi with
  | 0, _ => exact h0
  | 1, _ => exact h1
theorem cells3 {w : World} {b : Nat} {e0 e1 e2 : Int} (h0 : w.cell? ⟨b, 0, none⟩ = some (.int .i64 e0)) (h1 : w.cell? ⟨b, 1, none⟩ = some (.int .i64 e1)) (h2 : w.cell? ⟨b, 2, none⟩ = some (.int .i64 e2)) :
    ∀ i, i < 3 → w.cell? ⟨b, i, none⟩ = some (.int .i64 ([e0, e1, e2][i]?.getD 0)) := by
  intro i hi
  match i, hi with
  | 0, _ => exact h0
  | 1, _ => exact h1
  | 2, _ => exact h2
theorem cells4 {w : World} {b : Nat} {e0 e1 e2 e3 : Int} (h0 : w.cell? ⟨b, 0, none⟩ = some (.int .i64 e0)) (h1 : w.cell? ⟨b, 1, none⟩ = some (.int .i64 e1)) (h2 : w.cell? ⟨b, 2, none⟩ = some (.int .i64 e2)) (h3 : w.cell? ⟨b, 3, none⟩ = some (.int .i64 e3)) :
    ∀ i, i < 4 → w.cell? ⟨b, i, none⟩ = some (.int .i64 ([e0, e1, e2, e3][i]?.getD 0)) := by
  intro i hi
  match i, hi with
  | 0, _ => exact h0
  | 1, _ => exact h1
  | 2, _ => exact h2
  | 3, _ => exact h3

theorem first2 (e0 e1 : Int) (b : Nat) (w : World) (h0 : w.cell? ⟨b, 0, none⟩ = some (.int .i64 e0)) (h1 : w.cell? ⟨b, 1, none⟩ = some (.int .i64 e1)) :
    Calls Try.prog 77 #[.slice (some ⟨b, 0, none⟩) 2 2] w fun e w' => e = .returned (.int .i64 (frst [e0, e1])) ∧ w = w' :=
  firstOf_any [e0, e1] b 2 w rfl (cells2 h0 h1) (by omega)
theorem first3 (e0 e1 e2 : Int) (b : Nat) (w : World) (h0 : w.cell? ⟨b, 0, none⟩ = some (.int .i64 e0)) (h1 : w.cell? ⟨b, 1, none⟩ = some (.int .i64 e1)) (h2 : w.cell? ⟨b, 2, none⟩ = some (.int .i64 e2)) :
    Calls Try.prog 77 #[.slice (some ⟨b, 0, none⟩) 3 3] w fun e w' => e = .returned (.int .i64 (frst [e0, e1, e2])) ∧ w = w' :=
  firstOf_any [e0, e1, e2] b 3 w rfl (cells3 h0 h1 h2) (by omega)
theorem first4 (e0 e1 e2 e3 : Int) (b : Nat) (w : World) (h0 : w.cell? ⟨b, 0, none⟩ = some (.int .i64 e0)) (h1 : w.cell? ⟨b, 1, none⟩ = some (.int .i64 e1)) (h2 : w.cell? ⟨b, 2, none⟩ = some (.int .i64 e2)) (h3 : w.cell? ⟨b, 3, none⟩ = some (.int .i64 e3)) :
    Calls Try.prog 77 #[.slice (some ⟨b, 0, none⟩) 4 4] w fun e w' => e = .returned (.int .i64 (frst [e0, e1, e2, e3])) ∧ w = w' :=
  firstOf_any [e0, e1, e2, e3] b 4 w rfl (cells4 h0 h1 h2 h3) (by omega)

set_option maxHeartbeats 400000 in
theorem rfirstOf_any (es : List Int) (b n : Nat) (w : World) (hn : n = es.length) (hc : ∀ i, i < n → w.cell? ⟨b, i, none⟩ = some (.int .i64 (es[i]?.getD 0))) (hl : n ≤ 100) :
    Calls Try.prog 89 #[.slice (some ⟨b, 0, none⟩) n n] w fun e w' => e = .returned (.int .i64 (frst es)) ∧ w = w' := by
  have Hn := Lib.hid hn
  clear hn
  have Hc := Lib.hid hc
  clear hc
  go_enter Try.func89, Try.ntmps89
  go_wp2
  go_loop [3] (fun i => ∃ k : Nat, k ≤ n ∧ frst es = frst (es.drop k) ∧ i = .int .i64 k) (fun i => n - (intOf i).toNat)
  case atStart => exact ⟨0, Nat.zero_le _, by simp, rfl⟩
  case round =>
    obtain ⟨k, hk, hf, rfl⟩ := hrel
    have HF := Lib.hid hf
    clear hf
    by_cases hlt : k < n
    · have hcell := Hc.out k hlt
      have hd := frst_drop (l := es) (k := k) (by have := Hn.out; omega)
      by_cases h0 : es[k]?.getD 0 = 0
      · rw [if_pos h0] at hd
        have HD := Lib.hid hd
        clear hd
        rw [h0] at hcell
        clear h0
        go_wp2
        go_round
        case rel => exact ⟨k + 1, by omega, by rw [HF.out, HD.out], by go_num⟩
        case measure => simp [intOf]; omega
      · rw [if_neg h0] at hd
        have HD := Lib.hid hd
        clear hd
        go_wp2
        go_ret
        exact ⟨ri (by rw [HF.out, HD.out]), rfl⟩
    · have hd : frst (es.drop k) = 0 := by rw [List.drop_eq_nil_of_le (by have := Hn.out; omega)]; rfl
      have HD := Lib.hid hd
      clear hd
      go_wp2
      go_ret
      exact ⟨ri (by rw [HF.out, HD.out]), rfl⟩
theorem rfirst2 (e0 e1 : Int) (b : Nat) (w : World) (h0 : w.cell? ⟨b, 0, none⟩ = some (.int .i64 e0)) (h1 : w.cell? ⟨b, 1, none⟩ = some (.int .i64 e1)) :
    Calls Try.prog 89 #[.slice (some ⟨b, 0, none⟩) 2 2] w fun e w' => e = .returned (.int .i64 (frst [e0, e1])) ∧ w = w' :=
  rfirstOf_any [e0, e1] b 2 w rfl (cells2 h0 h1) (by omega)
theorem cellsN {w : World} {b n : Nat} {es : List Int} (hn : n = es.length) (h : ∀ i : Fin es.length, w.cell? ⟨b, i.1, none⟩ = some (.int .i64 (es[i.1]))) :
    ∀ i, i < n → w.cell? ⟨b, i, none⟩ = some (.int .i64 (es[i]?.getD 0)) := by
  intro i hi
  subst hn
  rw [List.getElem?_eq_getElem hi]
  exact h ⟨i, hi⟩
theorem first6 (e0 e1 e2 e3 e4 e5 : Int) (b : Nat) (w : World) (h0 : w.cell? ⟨b, 0, none⟩ = some (.int .i64 e0)) (h1 : w.cell? ⟨b, 1, none⟩ = some (.int .i64 e1)) (h2 : w.cell? ⟨b, 2, none⟩ = some (.int .i64 e2)) (h3 : w.cell? ⟨b, 3, none⟩ = some (.int .i64 e3)) (h4 : w.cell? ⟨b, 4, none⟩ = some (.int .i64 e4)) (h5 : w.cell? ⟨b, 5, none⟩ = some (.int .i64 e5)) :
    Calls Try.prog 77 #[.slice (some ⟨b, 0, none⟩) 6 6] w fun e w' => e = .returned (.int .i64 (frst [e0, e1, e2, e3, e4, e5])) ∧ w = w' :=
  firstOf_any [e0, e1, e2, e3, e4, e5] b 6 w rfl (by
    intro i hi
    match i, hi with
    | 0, _ => exact h0
    | 1, _ => exact h1
    | 2, _ => exact h2
    | 3, _ => exact h3
    | 4, _ => exact h4
    | 5, _ => exact h5) (by omega)
theorem still_of {f : Nat} {args : Array Value} {w : World} {v : Value} (h : Calls Try.prog f args w fun e w' => e = .returned v ∧ w = w') : Calls Try.prog f args w fun e w' => e = .returned v ∧ w' = w :=
  h.mono fun _ _ h => ⟨h.1, h.2.symm⟩
theorem spE_frst (x z : Int) : frst [unl (inB x (-100000) 100000) 2, unl (inB z (-100000) 100000) 2] = spE x z := by
  unfold spE
  cases inB x (-100000) 100000 <;> cases inB z (-100000) 100000 <;> rfl

set_option maxRecDepth 100000 in
set_option maxHeartbeats 1000000 in
theorem placeError_any (x z : Int) (w : World) :
    Calls Try.prog 78 #[.agg #[.int .i64 x, .int .i64 z]] w fun e w' => e = .returned (.int .i64 (spE x z)) ∧ Below w.heap.size w w' := by
  have HE := Lib.hid (spE_frst x z)
  go_enter Try.func78, Try.ntmps78
  go_wp2
  obtain ⟨W, hW⟩ : ∃ W, W = w.alloc (.cells #[.int .i64 x, .int .i64 z] 23) := ⟨_, rfl⟩
  rw [← hW]
  have hB := hW ▸ (show Below w.heap.size w (w.alloc (.cells #[.int .i64 x, .int .i64 z] 23)) by (repeat' (first | (with_reducible exact Below.refl _ _) | (with_reducible assumption) | (with_reducible refine Below.alloc ?_ ?_ _) | (with_reducible refine Below.drew ?_) | (with_reducible refine below_drewN ?_ _) | (with_reducible refine Below.setCell ?_ ?_ _) | (with_reducible refine below_step (by with_reducible assumption) ?_ ?_) | (with_reducible exact Below.size (by with_reducible assumption)) | go_size)))
  have s0 : W.cell? ⟨w.heap.size, 0, none⟩ = some (.int .i64 x) := by rw [hW]; exact cell_fresh _ _ _ _ _ _ rfl rfl
  have s1 : W.cell? ⟨w.heap.size, 1, none⟩ = some (.int .i64 z) := by rw [hW]; exact cell_fresh _ _ _ _ _ _ rfl rfl
  clear hW
  refine wp_region_still_tail 6 (by kernel_rfl) (by kernel_rfl) ?_
  change wpStill _ _ W.drew _ _ _
  simp only [List.take_succ_cons, List.take_zero, List.drop_succ_cons, List.drop_zero]
  repeat (first | still_step | still_call (still_of (rangeError_any _ _ _ _)))
  refine wpStill_nil ?_
  change wpList _ _ _ _ _ W.drew
  go_wp2_with fail
  apply Calls.mono
  focus ((apply first2 <;> exact cell_fresh _ _ _ _ _ _ rfl rfl); done)
  rw [HE.out]
  rintro e w1 ⟨rfl, rfl⟩
  go_wp2
  go_ret
  exact ⟨rfl, by (repeat' (first | (with_reducible exact Below.refl _ _) | (with_reducible assumption) | (with_reducible refine Below.alloc ?_ ?_ _) | (with_reducible refine Below.drew ?_) | (with_reducible refine below_drewN ?_ _) | (with_reducible refine Below.setCell ?_ ?_ _) | (with_reducible refine below_step (by with_reducible assumption) ?_ ?_) | (with_reducible exact Below.size (by with_reducible assumption)) | go_size))⟩
end Go.Proofs.Ytpphnnbijmoodaa
