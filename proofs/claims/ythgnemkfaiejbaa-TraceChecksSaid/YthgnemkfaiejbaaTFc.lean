/-
  ARRAYS AND ROWS of singles of any word; CheckTrace of such a trace, both.
-/
import Derived.Test.YthgnemkfaiejbaaTFwR
import Derived.Test.YthgnemkfaiejbaaTRow
set_option linter.unusedVariables false
set_option linter.unusedSimpArgs false
namespace Go.Proofs.Ythgnemkfaiejbaa
open Go.RowKit

/-- n singles -/
def fC (u : Nat → Nat) (n : Nat) : Array Value := ((List.range n).map fun i => Value.float .f32 (u i)).toArray
theorem fC_size (u : Nat → Nat) (n : Nat) : (fC u n).size = n := by simp [fC]
theorem fC_get (u : Nat → Nat) {n i : Nat} (h : i < n) : (fC u n)[i]? = some (.float .f32 (u i)) := by
  unfold fC
  rw [List.getElem?_toArray, List.getElem?_map, List.getElem?_range h]; rfl
theorem fC_one (u : Nat → Nat) (n : Nat) : (fC u n).all (·.oneCell') = true := by
  rw [Array.all_eq_true_iff_forall_mem]
  intro v hv
  unfold fC at hv
  simp only [List.mem_toArray, List.mem_map] at hv
  obtain ⟨i, _, rfl⟩ := hv
  rfl
theorem fC_congr {u v : Nat → Nat} {n : Nat} (h : ∀ i, i < n → u i = v i) : fC u n = fC v n := by
  unfold fC
  congr 1
  apply List.map_congr_left
  intro i hi
  rw [h i (List.mem_range.1 hi)]
theorem tC_fC (x : Nat → Int) : tC x = fC (fun i => wd Ieee.single (x i)) 64 := rfl
/-- a word put in -/
def up (u : Nat → Nat) (k a : Nat) : Nat → Nat := fun i => if i = k then a else u i
theorem fC_set (u : Nat → Nat) {n k : Nat} (a : Nat) (h : k < n) : (fC u n).setIfInBounds k (.float .f32 a) = fC (up u k a) n := by
  apply Array.ext_getElem?
  intro i
  rw [Array.getElem?_setIfInBounds, fC_size]
  by_cases c : k = i
  · subst c
    rw [if_pos rfl, if_pos h, fC_get _ h]
    unfold up
    rw [if_pos rfl]
  · rw [if_neg c]
    by_cases d : i < n
    · rw [fC_get _ d, fC_get _ d]
      unfold up
      rw [if_neg (fun e => c e.symm)]
    · rw [Array.getElem?_eq_none (by rw [fC_size]; omega), Array.getElem?_eq_none (by rw [fC_size]; omega)]
/-- a slice that reads as n singles -/
def FRow (w : World) (v : Value) (u : Nat → Nat) (n : Nat) : Prop := ∃ q c, v = .slice q n c ∧ (n ≤ c ∧ c ≤ maxLen) ∧ (∀ i, i < n → u i < 2 ^ 32) ∧ (n = 0 ∨ ∃ b o, q = some ⟨b, o, none⟩ ∧ b < w.heap.size ∧ ∀ i, i < n → w.cell? ⟨b, o + i, none⟩ = some (.float .f32 (u i)))
theorem FRow.below {w w' : World} {v : Value} {u : Nat → Nat} {n : Nat} (h : FRow w v u n) (hb : Below w.heap.size w w') : FRow w' v u n := by
  obtain ⟨q, c, rfl, hc, hu, h⟩ := h
  refine ⟨q, c, rfl, hc, hu, ?_⟩
  rcases h with h | ⟨b, o, rfl, hlt, hx⟩
  · exact .inl h
  · exact .inr ⟨b, o, rfl, Nat.lt_of_lt_of_le hlt hb.size, fun i hi => (hb.cell (p := ⟨b, o + i, none⟩) hlt).trans (hx i hi)⟩
/-- the number of the first wrong sample, and its error -/
def cN (u : Nat → Nat) (n : Nat) : Int := nE (fun k => eS (u k)) n
def cE (u : Nat → Nat) (n : Nat) : Int := vE (fun k => eS (u k)) n
set_option maxRecDepth 100000 in
set_option maxHeartbeats 1000000 in
theorem checkTrace_w (u : Nat → Nat) (w : World) (hx : Hid (∀ k, k < 64 → u k < 2 ^ 32)) :
    Calls Try.prog 22 #[.agg (fC u 64)] w fun e w' => e = .returned (.tuple #[.int .i64 (cN u 64), .int .i64 (cE u 64)]) ∧ Below w.heap.size w w' := by
  have K := Lib.hid (fun W hc => samplesError_w u (some ⟨w.heap.size, 0, none⟩) w.heap.size 64 64 W (by omega) ⟨Nat.le_refl _, by unfold maxLen; omega⟩ (fun _ => rfl) hx hc)
  have HN := Lib.hid (show cN u 64 = nE (fun k => eS (u k)) 64 from rfl)
  have HE := Lib.hid (show cE u 64 = vE (fun k => eS (u k)) 64 from rfl)
  go_enter Try.func22, Try.ntmps22
  go_wp2_with fail
  refine (K.out _ (Lib.hid fun k hk => (cell_block (heap_alloc_last w _)).trans (fC_get u hk))).mono ?_
  rintro e w' ⟨rfl, q, rfl⟩
  rw [← HN.out, ← HE.out]
  go_wp2
  go_ret2
  exact ⟨rfl, ((Below.refl _ w).alloc (Nat.le_refl _) _).trans ⟨rfl, rfl, rfl, Nat.le_refl _, fun _ _ => rfl⟩⟩
set_option maxRecDepth 100000 in
set_option maxHeartbeats 1000000 in
theorem checkTraceR_w (u : Nat → Nat) (w : World) (hx : Hid (∀ k, k < 64 → u k < 2 ^ 32)) :
    Calls Try.prog 23 #[.agg (fC u 64)] w fun e w' => e = .returned (.tuple #[.int .i64 (cN u 64), .int .i64 (cE u 64)]) ∧ Below w.heap.size w w' := by
  have K := Lib.hid (fun W hc => samplesErrR_w u (some ⟨w.heap.size, 0, none⟩) w.heap.size 64 64 W (by omega) ⟨Nat.le_refl _, by unfold maxLen; omega⟩ (fun _ => rfl) hx hc)
  have HN := Lib.hid (show cN u 64 = nE (fun k => eS (u k)) 64 from rfl)
  have HE := Lib.hid (show cE u 64 = vE (fun k => eS (u k)) 64 from rfl)
  go_enter Try.func23, Try.ntmps23
  go_wp2_with fail
  refine (K.out _ (Lib.hid fun k hk => (cell_block (heap_alloc_last w _)).trans (fC_get u hk))).mono ?_
  rintro e w' ⟨rfl, q, rfl⟩
  rw [← HN.out, ← HE.out]
  go_wp2
  go_ret2
  exact ⟨rfl, ((Below.refl _ w).alloc (Nat.le_refl _) _).trans ⟨rfl, rfl, rfl, Nat.le_refl _, fun _ _ => rfl⟩⟩
end Go.Proofs.Ythgnemkfaiejbaa
