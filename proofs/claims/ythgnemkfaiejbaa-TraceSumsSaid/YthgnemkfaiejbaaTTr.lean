/-
  TRACES of whole numbers: CheckTrace, traceError, traceWith, cleared.
-/
import Derived.Test.YthgnemkfaiejbaaTSamp
set_option linter.unusedVariables false
set_option linter.unusedSimpArgs false
namespace Go.Proofs.Ythgnemkfaiejbaa
open Go.RowKit

theorem conv_single {n : Int} (h : n.natAbs < 2 ^ 24) : floatToFloatBits .f32 (wd Ieee.single n) .f64 = some (wd Ieee.double n) := by
  have h53 : n.natAbs < 2 ^ 53 := by omega
  obtain ⟨j, hj⟩ := read_wd fine_single h
  obtain ⟨k, hk⟩ := read_wd fine_double h53
  have e := other_wd fine_single fine_double h h53
  have hd : FloatKind.f32.decode (wd Ieee.single n) = .number (decide (n < 0)) (n.natAbs * 2 ^ j) (-(j : Int)) := hj
  rw [hj] at e
  have e2 : FloatKind.f64.encode (.number (decide (n < 0)) (n.natAbs * 2 ^ j) (-(j : Int))) = wd Ieee.double n := e
  have hk2 : FloatKind.f64.decode (wd Ieee.double n) = .number (decide (n < 0)) (n.natAbs * 2 ^ k) (-(k : Int)) := hk
  unfold floatToFloatBits
  rw [if_neg (by decide)]
  simp only [hd, e2, hk2]
  rfl
theorem run_conv32 (n : Int) (w : World) (h : n.natAbs < 2 ^ 24) : (convert 24 201 (.float .f32 (wd Ieee.single n))).run Try.prog w = .ok (.float .f64 (wd Ieee.double n)) w :=
  run_convert_float_float w _ _ _ _ _ _ (by rw [Try.underlying24]; rfl) Try.underlying201 (conv_single h)
theorem run_int32 (n : Int) (w : World) (h : n.natAbs < 2 ^ 24) : (convert 24 3 (.float .f32 (wd Ieee.single n))).run Try.prog w = .ok (.int .i64 n) w := by
  refine run_convert_float_int w _ _ _ _ _ _ (by rw [Try.underlying24]; rfl) Try.underlying3 ?_
  have e : (FloatKind.f32.decode (wd Ieee.single n)).toInt .zero = some n := toInt_wd fine_single .zero h
  unfold floatToIntVal
  rw [e]
  have : n.natAbs < 16777216 := h
  show (if _ then _ else _) = _
  rw [if_pos]
  exact ⟨by show (-9223372036854775808 : Int) ≤ n; omega, by show n ≤ (9223372036854775807 : Int); omega⟩
/-- the cells of a trace -/
def tC (x : Nat → Int) : Array Value := ((List.range 64).map fun i => f32 (x i)).toArray
theorem tC_size (x : Nat → Int) : (tC x).size = 64 := by simp [tC]
theorem tC_get (x : Nat → Int) {i : Nat} (h : i < 64) : (tC x)[i]? = some (f32 (x i)) := by
  unfold tC
  rw [List.getElem?_toArray, List.getElem?_map, List.getElem?_range h]; rfl
theorem tC_one (x : Nat → Int) : (tC x).all (·.oneCell') = true := by
  rw [Array.all_eq_true_iff_forall_mem]
  intro v hv
  unfold tC at hv
  simp only [List.mem_toArray, List.mem_map] at hv
  obtain ⟨i, _, rfl⟩ := hv
  rfl
theorem cell_block {w : World} {g i : Nat} {c : Array Value} {t : TypeId} {fr : Nat × Nat} (hg : w.heap[g]? = some (.cells c t fr)) : w.cell? ⟨g, i, none⟩ = c[i]? := by
  unfold World.cell?; rw [hg]; rfl
set_option maxRecDepth 100000 in
set_option maxHeartbeats 1000000 in
theorem samplesError_ok (x : Nat → Int) (g n cap : Nat) (w : World) (hn : n ≤ 10000) (hc : n ≤ cap ∧ cap ≤ maxLen) (hx : Hid (∀ k, k < n → (x k).natAbs ≤ 2047)) (hcell : Hid (∀ k, k < n → w.cell? ⟨g, k, none⟩ = some (f32 (x k)))) :
    Calls Try.prog 96 #[.slice (some ⟨g, 0, none⟩) n cap] w fun e w' => e = .returned (.tuple #[.int .i64 0, .int .i64 0]) ∧ w = w' := by
  have hmax := hc.2
  unfold maxLen at hmax
  go_enter Try.func96, Try.ntmps96
  go_wp2
  go_loop [9] (fun i => ∃ k : Nat, k ≤ n ∧ i = .int .i64 (k : Int)) (fun i => n - (intOf i).toNat)
  case atStart => exact ⟨0, Nat.zero_le _, rfl⟩
  case round =>
    obtain ⟨k, hk, rfl⟩ := hrel
    by_cases hlt : k < n
    · have hc0 := hcell.out k hlt
      have hxk := hx.out k hlt
      have hcv : ∀ w, _ := fun w => run_conv32 (x k) w (by omega)
      have K := Lib.hid (fun W => sampleError_any (x k) W (by omega))
      rw [show sE (x k) = 0 by unfold sE; rw [if_pos hxk]] at K
      unfold f32 at hc0
      unfold f64 at K
      clear hxk
      generalize wd Ieee.single (x k) = a at *
      generalize wd Ieee.double (x k) = b at *
      have e0 : (0 : Int) ≤ (k : Int) := by omega
      have e1 : (k : Int) < (n : Int) := by omega
      go_wp2_with fail
      refine (K.out _).mono ?_
      rintro e w' ⟨rfl, rfl⟩
      go_wp2
      go_round
      case rel => exact ⟨k + 1, by omega, by go_num⟩
      case measure => simp [intOf]; omega
    · have e1 : ¬ (k : Int) < (n : Int) := by omega
      go_wp2
      go_ret2
      exact ⟨rfl, rfl⟩
set_option maxRecDepth 100000 in
set_option maxHeartbeats 1000000 in
theorem checkTrace_ok (x : Nat → Int) (w : World) (hx : Hid (∀ k, k < 64 → (x k).natAbs ≤ 2047)) :
    Calls Try.prog 22 #[.agg (tC x)] w fun e w' => e = .returned (.tuple #[.int .i64 0, .int .i64 0]) ∧ Below w.heap.size w w' := by
  have K := Lib.hid (fun W hc => samplesError_ok x w.heap.size 64 64 W (by omega) ⟨Nat.le_refl _, by unfold maxLen; omega⟩ hx hc)
  go_enter Try.func22, Try.ntmps22
  go_wp2_with fail
  refine (K.out _ (Lib.hid fun k hk => (cell_block (heap_alloc_last w _)).trans (tC_get x hk))).mono ?_
  rintro e w' ⟨rfl, rfl⟩
  go_wp2
  go_ret2
  exact ⟨rfl, by (repeat' (first | (with_reducible exact Below.refl _ _) | (with_reducible assumption) | (with_reducible refine Below.alloc ?_ ?_ _) | (with_reducible refine Below.drew ?_) | (with_reducible refine below_drewN ?_ _) | (with_reducible refine Below.setCell ?_ ?_ _) | (with_reducible refine below_step (by with_reducible assumption) ?_ ?_) | (with_reducible exact Below.size (by with_reducible assumption)) | go_size))⟩
set_option maxRecDepth 100000 in
set_option maxHeartbeats 1000000 in
theorem traceError_ok (x : Nat → Int) (w : World) (hx : Hid (∀ k, k < 64 → (x k).natAbs ≤ 2047)) :
    Calls Try.prog 105 #[.agg (tC x)] w fun e w' => e = .returned (.int .i64 0) ∧ Below w.heap.size w w' := by
  have K := Lib.hid (fun W => checkTrace_ok x W hx)
  have hs := Lib.hid (tC_size x)
  generalize tC x = c at *
  go_enter Try.func105, Try.ntmps105
  go_wp2_with (refine wpl_load rfl 26 26 _ w.heap.size c (0, 0) _ rfl rfl Try.underlying26 rfl (by rw [hs.out]; exact infoTrace) (heap_alloc_last w _) ?_)
  refine (K.out _).mono ?_
  rintro e w1 ⟨rfl, hw1⟩
  have hz1 := hw1.size
  go_wp2
  go_ret
  exact ⟨rfl, by (repeat' (first | (with_reducible exact Below.refl _ _) | (with_reducible assumption) | (with_reducible refine Below.alloc ?_ ?_ _) | (with_reducible refine Below.drew ?_) | (with_reducible refine below_drewN ?_ _) | (with_reducible refine Below.setCell ?_ ?_ _) | (with_reducible refine below_step (by with_reducible assumption) ?_ ?_) | (with_reducible exact Below.size (by with_reducible assumption)) | go_size))⟩
end Go.Proofs.Ythgnemkfaiejbaa
