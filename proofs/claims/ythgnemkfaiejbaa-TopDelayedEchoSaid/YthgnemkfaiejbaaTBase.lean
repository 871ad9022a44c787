/-
  HELPERS OF STATEMENTS over traces: Mod, Sample, SameBits, SameSamples, SameFloats, SameTrace, Spike.
-/
import Derived.Test.YthgnemkfaiejbaaTLag
import Derived.Laws.ComplexArith
set_option linter.unusedVariables false
set_option linter.unusedSimpArgs false
namespace Go.Proofs.Ythgnemkfaiejbaa
open Go.RowKit

theorem emod_neg (n b : Int) (hb : 1 ≤ b) (h : n.tmod b < 0) : n.tmod b + b = n % b := by
  have e := fl_neg n b hb h
  have e1 := Int.mul_tdiv_add_tmod n b
  have e2 := Int.mul_ediv_add_emod n b
  rw [← e] at e2
  have : b * (n.tdiv b - 1) = b * n.tdiv b - b := by rw [Int.mul_sub, Int.mul_one]
  omega
theorem emod_pos (n b : Int) (hb : 1 ≤ b) (h : ¬ n.tmod b < 0) : n.tmod b = n % b := by
  have e := fl_pos n b hb h
  have e1 := Int.mul_tdiv_add_tmod n b
  have e2 := Int.mul_ediv_add_emod n b
  rw [← e] at e2
  omega
set_option maxHeartbeats 400000 in
theorem modB_any (n b : Int) (w : World) (hb : 1 ≤ b) (lo : -9223372036854775807 ≤ n) (hi : n ≤ 9223372036854775807) (hb2 : b ≤ 4611686018427387903) :
    Calls Try.prog 86 #[.int .i64 n, .int .i64 b] w fun e w' => e = .returned (.int .i64 (n % b)) ∧ w = w' := by
  have hb0 : ¬ b = 0 := by omega
  have h0 := tdiv_bd n b hb lo hi
  have h1 := Int.tmod_lt_of_pos n (show 0 < b by omega)
  have h2 := Int.lt_tmod_of_pos n (show 0 < b by omega)
  by_cases h : n.tmod b < 0
  · have e := emod_neg n b hb h
    have e0 : Hid (n.tmod b + b = n % b) := e
    clear e
    go_enter Try.func86, Try.ntmps86
    go_wp2
    go_ret
    exact ⟨ri (e0.out), rfl⟩
  · have e := emod_pos n b hb h
    have e0 : Hid (n.tmod b = n % b) := e
    clear e
    go_enter Try.func86, Try.ntmps86
    go_wp2
    go_ret
    exact ⟨ri (e0.out), rfl⟩
theorem sample_any (a c : Int) (w : World) (ha : a.natAbs ≤ 10000) (hc : c.natAbs ≤ 10000) :
    Calls Try.prog 95 #[.int .i64 a, .int .i64 c] w fun e w' => e = .returned (c64 a c) ∧ w = w' := by
  have e1 : max (-10000) (min 10000 a) = a := by omega
  have e2 : max (-10000) (min 10000 c) = c := by omega
  have c1 : ∀ w, _ := fun w => run_float32 a w
  have c2 : ∀ w, _ := fun w => run_float32 c w
  unfold f32 at c1 c2
  unfold c64
  clear ha hc
  generalize wd Ieee.single a = x at *
  generalize wd Ieee.single c = y at *
  go_enter Try.func95, Try.ntmps95
  go_wp2
  go_ret
  exact ⟨rfl, rfl⟩
theorem sameBits_eq (x y : Nat) (w : World) :
    Calls Try.prog 136 #[.complex .f64 x y, .complex .f64 x y] w fun e w' => e = .returned (.bool true) ∧ w = w' := by
  have hT0 : ∀ (x : Nat) w, (callFunc 170 #[.float .f64 x]).run Try.prog w = .ok (.value (.int .u64 x)) w := fun x w => by
    rw [run_callFunc_extern (e := Extern.MathFloatBits.float64bits) Try.func170 (by kernel_rfl) (by kernel_rfl) (by kernel_rfl) (by rfl)]
    rfl
  go_enter Try.func136, Try.ntmps136
  go_wp2
  go_ret
  exact ⟨rfl, rfl⟩
theorem conv_c64 {a b : Int} (ha : a.natAbs < 2 ^ 24) (hb : b.natAbs < 2 ^ 24) (w : World) : (convert 91 188 (c64 a b)).run Try.prog w = .ok (.complex .f64 (wd Ieee.double a) (wd Ieee.double b)) w :=
  run_convert_complex w _ _ .f32 .f64 _ _ _ _ (by rw [Try.underlying91]; rfl) Try.underlying188 (by
    unfold cConvBits
    rw [conv_single ha, conv_single hb]; rfl)
set_option maxRecDepth 100000 in
set_option maxHeartbeats 2000000 in
theorem sameSamples_eq (p q : Nat → Int) (b1 o1 b2 o2 n k1 k2 : Nat) (w : World) (hn : n ≤ 1000) (hk1 : n ≤ k1 ∧ k1 ≤ 1000000) (hk2 : n ≤ k2 ∧ k2 ≤ 1000000) (hp : Hid (∀ k, k < n → (p k).natAbs < 2 ^ 24 ∧ (q k).natAbs < 2 ^ 24)) (h1 : Hid (∀ k, k < n → w.cell? ⟨b1, o1 + k, none⟩ = some (c64 (p k) (q k)))) (h2 : Hid (∀ k, k < n → w.cell? ⟨b2, o2 + k, none⟩ = some (c64 (p k) (q k))))
    (hb1 : b1 < w.heap.size) (hb2 : b2 < w.heap.size) :
    Calls Try.prog 64 #[.slice (some ⟨b1, o1, none⟩) n k1, .slice (some ⟨b2, o2, none⟩) n k2] w fun e w' => e = .returned (.bool true) ∧ Below w.heap.size w w' := by
  go_enter Try.func64, Try.ntmps64
  go_wp2
  go_loopw [5] (fun i wr => ∃ k : Nat, k ≤ n ∧ i = .int .i64 (k : Int) ∧ Below w.heap.size w wr) (fun i _ => n - (intOf i).toNat)
  case atStart => exact ⟨0, Nat.zero_le _, rfl, Below.refl _ _⟩
  case round =>
    obtain ⟨k, hk, rfl, hB⟩ := hrel
    by_cases hlt : k < n
    · have d0 := (hB.cell (p := ⟨b1, o1 + k, none⟩) hb1).trans (h1.out k hlt)
      have d1 := (hB.cell (p := ⟨b2, o2 + k, none⟩) hb2).trans (h2.out k hlt)
      have cv : ∀ w, _ := fun w => conv_c64 (hp.out k hlt).1 (hp.out k hlt).2 w
      unfold c64 at d0 d1 cv
      generalize wd Ieee.single (p k) = x at *
      generalize wd Ieee.single (q k) = y at *
      generalize wd Ieee.double (p k) = u at *
      generalize wd Ieee.double (q k) = v at *
      have e0 : (0 : Int) ≤ (k : Int) := by omega
      have e1 : (k : Int) < (n : Int) := by omega
      have HB := Lib.hid hB
      clear hB
      go_wp2
      refine wp_region_held_drew (S := fun w' => w'.cell? ⟨b1, o1 + k, none⟩ = some (.complex .f32 x y) ∧ w'.cell? ⟨b2, o2 + k, none⟩ = some (.complex .f32 x y)) (by kernel_rfl) ?_ (fun hH1 => ?_)
      · (first | assumption | (refine ⟨?_, ?_⟩ <;> assumption) | (go_keep; done) | (simp [*, go_sem]; done))
      refine wpAnyH_pure (i := 0) (v := ?_) rfl (by kernel_rfl) (by kernel_rfl) (by kernel_rfl) (fun _ _ _ h => h) (by rfl) (by assumption) ?_ ?_
      rotate_left
      · (intro w hSw; (try dsimp only at hSw); go_simp; (try with_reducible rfl))
      simp only [Act.put, List.getElem_toArray, List.getElem_cons_succ, List.getElem_cons_zero, List.setIfInBounds_toArray, List.set_cons_zero, List.set_cons_succ]
      refine wpAnyH_pure (i := 1) (v := ?_) rfl (by kernel_rfl) (by kernel_rfl) (by kernel_rfl) (fun _ _ _ h => h) (by rfl) (by assumption) ?_ ?_
      rotate_left
      · (intro w hSw; (try dsimp only at hSw); go_simp; (try with_reducible rfl))
      simp only [Act.put, List.getElem_toArray, List.getElem_cons_succ, List.getElem_cons_zero, List.setIfInBounds_toArray, List.set_cons_zero, List.set_cons_succ]
      refine wpAnyH_pure (i := 2) (v := ?_) rfl (by kernel_rfl) (by kernel_rfl) (by kernel_rfl) (fun _ _ _ h => h) (by rfl) (by assumption) ?_ ?_
      rotate_left
      · (intro w hSw; (try dsimp only at hSw); go_simp; (try with_reducible rfl))
      simp only [Act.put, List.getElem_toArray, List.getElem_cons_succ, List.getElem_cons_zero, List.setIfInBounds_toArray, List.set_cons_zero, List.set_cons_succ]
      refine wpAnyH_pure (i := 3) (v := ?_) rfl (by kernel_rfl) (by kernel_rfl) (by kernel_rfl) (fun _ _ _ h => h) (by rfl) (by assumption) ?_ ?_
      rotate_left
      · (intro w hSw; (try dsimp only at hSw); go_simp; (try with_reducible rfl))
      simp only [Act.put, List.getElem_toArray, List.getElem_cons_succ, List.getElem_cons_zero, List.setIfInBounds_toArray, List.set_cons_zero, List.set_cons_succ]
      refine wpAnyH_pure (i := 4) (v := ?_) rfl (by kernel_rfl) (by kernel_rfl) (by kernel_rfl) (fun _ _ _ h => h) (by rfl) (by assumption) ?_ ?_
      rotate_left
      · (intro w hSw; (try dsimp only at hSw); go_simp; (try with_reducible rfl))
      simp only [Act.put, List.getElem_toArray, List.getElem_cons_succ, List.getElem_cons_zero, List.setIfInBounds_toArray, List.set_cons_zero, List.set_cons_succ]
      refine wpAnyH_pure (i := 5) (v := ?_) rfl (by kernel_rfl) (by kernel_rfl) (by kernel_rfl) (fun _ _ _ h => h) (by rfl) (by assumption) ?_ ?_
      rotate_left
      · (intro w hSw; (try dsimp only at hSw); go_simp; (try with_reducible rfl))
      simp only [Act.put, List.getElem_toArray, List.getElem_cons_succ, List.getElem_cons_zero, List.setIfInBounds_toArray, List.set_cons_zero, List.set_cons_succ]
      refine wpAnyH_pure (i := 6) (v := ?_) rfl (by kernel_rfl) (by kernel_rfl) (by kernel_rfl) (fun _ _ _ h => h) (by rfl) (by assumption) ?_ ?_
      rotate_left
      · (intro w hSw; (try dsimp only at hSw); go_simp; (try with_reducible rfl))
      simp only [Act.put, List.getElem_toArray, List.getElem_cons_succ, List.getElem_cons_zero, List.setIfInBounds_toArray, List.set_cons_zero, List.set_cons_succ]
      refine wpAnyH_pure (i := 7) (v := ?_) rfl (by kernel_rfl) (by kernel_rfl) (by kernel_rfl) (fun _ _ _ h => h) (by rfl) (by assumption) ?_ ?_
      rotate_left
      · (intro w hSw; (try dsimp only at hSw); go_simp; (try with_reducible rfl))
      simp only [Act.put, List.getElem_toArray, List.getElem_cons_succ, List.getElem_cons_zero, List.setIfInBounds_toArray, List.set_cons_zero, List.set_cons_succ]
      refine wpAnyH_pure (i := 8) (v := ?_) rfl (by kernel_rfl) (by kernel_rfl) (by kernel_rfl) (fun _ _ _ h => h) (by rfl) (by assumption) ?_ ?_
      rotate_left
      · (intro w hSw; (try dsimp only at hSw); go_simp; (try with_reducible rfl))
      simp only [Act.put, List.getElem_toArray, List.getElem_cons_succ, List.getElem_cons_zero, List.setIfInBounds_toArray, List.set_cons_zero, List.set_cons_succ]
      refine wpAnyH_pure (i := 9) (v := ?_) rfl (by kernel_rfl) (by kernel_rfl) (by kernel_rfl) (fun _ _ _ h => h) (by rfl) (by assumption) ?_ ?_
      rotate_left
      · (intro w hSw; (try dsimp only at hSw); go_simp; (try with_reducible rfl))
      simp only [Act.put, List.getElem_toArray, List.getElem_cons_succ, List.getElem_cons_zero, List.setIfInBounds_toArray, List.set_cons_zero, List.set_cons_succ]
      refine wpAnyH_ready (rs := [10]) (by kernel_rfl) (by simp) ?_
      refine AllReadyH.cons rfl (fun Kq hKq => ?_) AllReadyH.nil
      go_simp
      refine (sameBits_eq _ _ _).mono ?_
      (rintro e w' ⟨rfl, rfl⟩)
      refine hKq.out _ _ ?_ (fun hH2 => ?_)
      · (first | assumption | (refine ⟨?_, ?_⟩ <;> assumption) | (go_keep; done) | (simp [*, go_sem]; done))
      clear hKq Kq
      clear hH1
      refine wpAnyH_pure (i := 11) (v := ?_) rfl (by kernel_rfl) (by kernel_rfl) (by kernel_rfl) (fun _ _ _ h => h) (by rfl) (by assumption) ?_ ?_
      rotate_left
      · (intro w hSw; (try dsimp only at hSw); go_simp; (try with_reducible rfl))
      simp only [Act.put, List.getElem_toArray, List.getElem_cons_succ, List.getElem_cons_zero, List.setIfInBounds_toArray, List.set_cons_zero, List.set_cons_succ]
      refine wpAnyH_done (by kernel_rfl) ?_ _
      go_wp2
      go_roundw
      case rel => exact ⟨k + 1, by omega, by go_num, by have := HB.out; (repeat' (first | (with_reducible exact Below.refl _ _) | (with_reducible assumption) | (with_reducible refine Below.alloc ?_ ?_ _) | (with_reducible refine Below.drew ?_) | (with_reducible refine below_drewN ?_ _) | (with_reducible refine Below.setCell ?_ ?_ _) | (with_reducible refine below_step (by with_reducible assumption) ?_ ?_) | (with_reducible exact Below.size (by with_reducible assumption)) | go_size))⟩
      case measure => simp [intOf]; omega
    · obtain rfl : k = n := by omega
      have HB := Lib.hid hB
      clear hB
      go_wp2
      go_ret
      exact ⟨rfl, HB.out⟩
set_option maxRecDepth 100000 in
set_option maxHeartbeats 2000000 in
theorem sameFloats_eq (x : Nat → Int) (b1 o1 b2 o2 n k1 k2 : Nat) (w : World) (hn : n ≤ 100000) (hk1 : n ≤ k1 ∧ k1 ≤ maxLen) (hk2 : n ≤ k2 ∧ k2 ≤ maxLen) (h1 : Hid (∀ k, k < n → w.cell? ⟨b1, o1 + k, none⟩ = some (f32 (x k)))) (h2 : Hid (∀ k, k < n → w.cell? ⟨b2, o2 + k, none⟩ = some (f32 (x k))))
    (hb1 : b1 < w.heap.size) (hb2 : b2 < w.heap.size) :
    Calls Try.prog 103 #[.slice (some ⟨b1, o1, none⟩) n k1, .slice (some ⟨b2, o2, none⟩) n k2] w fun e w' => e = .returned (.bool true) ∧ Below w.heap.size w w' := by
  have hT0 : ∀ (x : Nat) w, (callFunc 163 #[.float .f32 x]).run Try.prog w = .ok (.value (.int .u32 x)) w := fun x w => by
    rw [run_callFunc_extern (e := Extern.MathFloatBits.float32bits) Try.func163 (by kernel_rfl) (by kernel_rfl) (by kernel_rfl) (by rfl)]
    rfl
  unfold maxLen at hk1 hk2
  go_enter Try.func103, Try.ntmps103
  go_wp2
  go_loopw [5] (fun i wr => ∃ k : Nat, k ≤ n ∧ i = .int .i64 (k : Int) ∧ Below w.heap.size w wr) (fun i _ => n - (intOf i).toNat)
  case atStart => exact ⟨0, Nat.zero_le _, rfl, Below.refl _ _⟩
  case round =>
    obtain ⟨k, hk, rfl, hB⟩ := hrel
    by_cases hlt : k < n
    · have d0 := (hB.cell (p := ⟨b1, o1 + k, none⟩) hb1).trans (h1.out k hlt)
      have d1 := (hB.cell (p := ⟨b2, o2 + k, none⟩) hb2).trans (h2.out k hlt)
      unfold f32 at d0 d1
      generalize wd Ieee.single (x k) = a at *
      have e0 : (0 : Int) ≤ (k : Int) := by omega
      have e1 : (k : Int) < (n : Int) := by omega
      have HB := Lib.hid hB
      clear hB
      go_wp2
      refine wp_region_held_drew (S := fun w' => w'.cell? ⟨b1, o1 + k, none⟩ = some (.float .f32 a) ∧ w'.cell? ⟨b2, o2 + k, none⟩ = some (.float .f32 a)) (by kernel_rfl) ?_ (fun hH1 => ?_)
      · (first | assumption | (refine ⟨?_, ?_⟩ <;> assumption) | (go_keep; done) | (simp [*, go_sem]; done))
      refine wpAnyH_pure (i := 0) (v := ?_) rfl (by kernel_rfl) (by kernel_rfl) (by kernel_rfl) (fun _ _ _ h => h) (by rfl) (by assumption) ?_ ?_
      rotate_left
      · (intro w hSw; (try dsimp only at hSw); go_simp; (try with_reducible rfl))
      simp only [Act.put, List.getElem_toArray, List.getElem_cons_succ, List.getElem_cons_zero, List.setIfInBounds_toArray, List.set_cons_zero, List.set_cons_succ]
      refine wpAnyH_pure (i := 1) (v := ?_) rfl (by kernel_rfl) (by kernel_rfl) (by kernel_rfl) (fun _ _ _ h => h) (by rfl) (by assumption) ?_ ?_
      rotate_left
      · (intro w hSw; (try dsimp only at hSw); go_simp; (try with_reducible rfl))
      simp only [Act.put, List.getElem_toArray, List.getElem_cons_succ, List.getElem_cons_zero, List.setIfInBounds_toArray, List.set_cons_zero, List.set_cons_succ]
      refine wpAnyH_pure (i := 2) (v := ?_) rfl (by kernel_rfl) (by kernel_rfl) (by kernel_rfl) (fun _ _ _ h => h) (by rfl) (by assumption) ?_ ?_
      rotate_left
      · (intro w hSw; (try dsimp only at hSw); go_simp; (try with_reducible rfl))
      simp only [Act.put, List.getElem_toArray, List.getElem_cons_succ, List.getElem_cons_zero, List.setIfInBounds_toArray, List.set_cons_zero, List.set_cons_succ]
      refine wpAnyH_pure (i := 3) (v := ?_) rfl (by kernel_rfl) (by kernel_rfl) (by kernel_rfl) (fun _ _ _ h => h) (by rfl) (by assumption) ?_ ?_
      rotate_left
      · (intro w hSw; (try dsimp only at hSw); go_simp; (try with_reducible rfl))
      simp only [Act.put, List.getElem_toArray, List.getElem_cons_succ, List.getElem_cons_zero, List.setIfInBounds_toArray, List.set_cons_zero, List.set_cons_succ]
      refine wpAnyH_pure (i := 5) (v := ?_) rfl (by kernel_rfl) (by kernel_rfl) (by kernel_rfl) (fun _ _ _ h => h) (by rfl) (by assumption) ?_ ?_
      rotate_left
      · (intro w hSw; (try dsimp only at hSw); go_simp; (try with_reducible rfl))
      simp only [Act.put, List.getElem_toArray, List.getElem_cons_succ, List.getElem_cons_zero, List.setIfInBounds_toArray, List.set_cons_zero, List.set_cons_succ]
      refine wpAnyH_pure (i := 6) (v := ?_) rfl (by kernel_rfl) (by kernel_rfl) (by kernel_rfl) (fun _ _ _ h => h) (by rfl) (by assumption) ?_ ?_
      rotate_left
      · (intro w hSw; (try dsimp only at hSw); go_simp; (try with_reducible rfl))
      simp only [Act.put, List.getElem_toArray, List.getElem_cons_succ, List.getElem_cons_zero, List.setIfInBounds_toArray, List.set_cons_zero, List.set_cons_succ]
      refine wpAnyH_pure (i := 7) (v := ?_) rfl (by kernel_rfl) (by kernel_rfl) (by kernel_rfl) (fun _ _ _ h => h) (by rfl) (by assumption) ?_ ?_
      rotate_left
      · (intro w hSw; (try dsimp only at hSw); go_simp; (try with_reducible rfl))
      simp only [Act.put, List.getElem_toArray, List.getElem_cons_succ, List.getElem_cons_zero, List.setIfInBounds_toArray, List.set_cons_zero, List.set_cons_succ]
      refine wpAnyH_pure (i := 8) (v := ?_) rfl (by kernel_rfl) (by kernel_rfl) (by kernel_rfl) (fun _ _ _ h => h) (by rfl) (by assumption) ?_ ?_
      rotate_left
      · (intro w hSw; (try dsimp only at hSw); go_simp; (try with_reducible rfl))
      simp only [Act.put, List.getElem_toArray, List.getElem_cons_succ, List.getElem_cons_zero, List.setIfInBounds_toArray, List.set_cons_zero, List.set_cons_succ]
      refine wpAnyH_ready (rs := [4]) (by kernel_rfl) (by simp) ?_
      refine AllReadyH.cons rfl (fun Kq hKq => ?_) AllReadyH.nil
      go_simp
      refine hKq.out _ _ ?_ (fun hH2 => ?_)
      · (first | assumption | (refine ⟨?_, ?_⟩ <;> assumption) | (go_keep; done) | (simp [*, go_sem]; done))
      clear hKq Kq
      clear hH1
      refine wpAnyH_ready (rs := [9]) (by kernel_rfl) (by simp) ?_
      refine AllReadyH.cons rfl (fun Kq hKq => ?_) AllReadyH.nil
      go_simp
      refine hKq.out _ _ ?_ (fun hH3 => ?_)
      · (first | assumption | (refine ⟨?_, ?_⟩ <;> assumption) | (go_keep; done) | (simp [*, go_sem]; done))
      clear hKq Kq
      clear hH2
      refine wpAnyH_pure (i := 10) (v := ?_) rfl (by kernel_rfl) (by kernel_rfl) (by kernel_rfl) (fun _ _ _ h => h) (by rfl) (by assumption) ?_ ?_
      rotate_left
      · (intro w hSw; (try dsimp only at hSw); go_simp; (try with_reducible rfl))
      simp only [Act.put, List.getElem_toArray, List.getElem_cons_succ, List.getElem_cons_zero, List.setIfInBounds_toArray, List.set_cons_zero, List.set_cons_succ]
      refine wpAnyH_done (by kernel_rfl) ?_ _
      go_wp2
      go_roundw
      case rel => exact ⟨k + 1, by omega, by go_num, by have := HB.out; (repeat' (first | (with_reducible exact Below.refl _ _) | (with_reducible assumption) | (with_reducible refine Below.alloc ?_ ?_ _) | (with_reducible refine Below.drew ?_) | (with_reducible refine below_drewN ?_ _) | (with_reducible refine Below.setCell ?_ ?_ _) | (with_reducible refine below_step (by with_reducible assumption) ?_ ?_) | (with_reducible exact Below.size (by with_reducible assumption)) | go_size))⟩
      case measure => simp [intOf]; omega
    · obtain rfl : k = n := by omega
      have HB := Lib.hid hB
      clear hB
      go_wp2
      go_ret
      exact ⟨rfl, HB.out⟩
set_option maxRecDepth 100000 in
set_option maxHeartbeats 2000000 in
theorem sameTrace_eq (x : Nat → Int) (w : World) :
    Calls Try.prog 31 #[.agg (tC x), .agg (tC x)] w fun e w' => e = .returned (.bool true) ∧ Below w.heap.size w w' := by
  have K : Hid (∀ (b1 b2 : Nat) (W : World), W.heap[b1]? = some (.cells (tC x) 26 (0, 0)) → W.heap[b2]? = some (.cells (tC x) 26 (0, 0)) → Calls Try.prog 103 #[.slice (some ⟨b1, 0, none⟩) 64 64, .slice (some ⟨b2, 0, none⟩) 64 64] W fun e w' => e = .returned (.bool true) ∧ Below W.heap.size W w') :=
    Lib.hid fun b1 b2 W h1 h2 => sameFloats_eq x b1 0 b2 0 64 64 64 W (by omega) ⟨by omega, by unfold maxLen; omega⟩ ⟨by omega, by unfold maxLen; omega⟩ (Lib.hid fun k hk => by rw [Nat.zero_add]; exact (cell_block h1).trans (tC_get x hk)) (Lib.hid fun k hk => by rw [Nat.zero_add]; exact (cell_block h2).trans (tC_get x hk)) (Array.getElem?_eq_some_iff.1 h1).1 (Array.getElem?_eq_some_iff.1 h2).1
  generalize tC x = c at *
  go_enter Try.func31, Try.ntmps31
  go_wp2
  refine wp_region_held_drew (S := fun w' => w'.heap[w.heap.size]? = some (.cells (c) 26 (0, 0)) ∧ w'.heap[w.heap.size + 1]? = some (.cells (c) 26 (0, 0))) (by kernel_rfl) ?_ (fun hH1 => ?_)
  · (first | assumption | (refine ⟨?_, ?_⟩ <;> (first | assumption | ((repeat (first | assumption | (refine heap_alloc_at ?_; (first | rfl | (simp only [World.size_alloc, World.size_drew, World.size_setCell, size_drewN]; done))) | refine block_alloc ?_ | refine Buf.alloc ?_ _ | refine Buf.drew ?_ | refine Buf.setCell ?_ (by omega) _ _)); done) | (go_keep; done) | (simp [*, go_sem]; done))))
  refine wpAnyH_pure (i := 0) (v := ?_) rfl (by kernel_rfl) (by kernel_rfl) (by kernel_rfl) (fun _ _ _ h => h) (by rfl) (by assumption) ?_ ?_
  rotate_left
  · (intro w hSw; (try dsimp only at hSw); go_simp; (try with_reducible rfl))
  simp only [Act.put, List.getElem_toArray, List.getElem_cons_succ, List.getElem_cons_zero, List.setIfInBounds_toArray, List.set_cons_zero, List.set_cons_succ]
  refine wpAnyH_pure (i := 1) (v := ?_) rfl (by kernel_rfl) (by kernel_rfl) (by kernel_rfl) (fun _ _ _ h => h) (by rfl) (by assumption) ?_ ?_
  rotate_left
  · (intro w hSw; (try dsimp only at hSw); go_simp; (try with_reducible rfl))
  simp only [Act.put, List.getElem_toArray, List.getElem_cons_succ, List.getElem_cons_zero, List.setIfInBounds_toArray, List.set_cons_zero, List.set_cons_succ]
  refine wpAnyH_ready (rs := [2]) (by kernel_rfl) (by simp) ?_
  refine AllReadyH.cons rfl (fun Kq hKq => ?_) AllReadyH.nil
  go_simp
  refine (K.out _ _ _ hH1.1 hH1.2).mono ?_
  (rintro e w1 ⟨rfl, hw1⟩)
  obtain ⟨hcw1, hfw1, hlw1, hmw1, hnw1⟩ := bcell3 hw1
  have hzw1 := hw1.size
  (try simp only [World.size_alloc, World.size_setCell, World.size_drew, size_drewN] at hzw1)
  have ca1_0 : w1.heap[w.heap.size]? = some (.cells (c) 26 (0, 0)) := block_below0 hw1 (by first | assumption | (repeat (first | assumption | (refine heap_alloc_at ?_; (first | rfl | (simp only [World.size_alloc, World.size_drew, World.size_setCell, size_drewN]; done))) | refine block_alloc ?_)))
  have cb1_0 : w1.heap[w.heap.size + 1]? = some (.cells (c) 26 (0, 0)) := block_below0 hw1 (by first | assumption | (repeat (first | assumption | (refine heap_alloc_at ?_; (first | rfl | (simp only [World.size_alloc, World.size_drew, World.size_setCell, size_drewN]; done))) | refine block_alloc ?_)))
  refine hKq.out _ _ ?_ (fun hH2 => ?_)
  · (first | assumption | (refine ⟨?_, ?_⟩ <;> (first | assumption | ((repeat (first | assumption | (refine heap_alloc_at ?_; (first | rfl | (simp only [World.size_alloc, World.size_drew, World.size_setCell, size_drewN]; done))) | refine block_alloc ?_ | refine Buf.alloc ?_ _ | refine Buf.drew ?_ | refine Buf.setCell ?_ (by omega) _ _)); done) | (go_keep; done) | (simp [*, go_sem]; done))))
  clear hKq Kq
  clear hH1
  refine wpAnyH_pure (i := 3) (v := ?_) rfl (by kernel_rfl) (by kernel_rfl) (by kernel_rfl) (fun _ _ _ h => h) (by rfl) (by assumption) ?_ ?_
  rotate_left
  · (intro w hSw; (try dsimp only at hSw); go_simp; (try with_reducible rfl))
  simp only [Act.put, List.getElem_toArray, List.getElem_cons_succ, List.getElem_cons_zero, List.setIfInBounds_toArray, List.set_cons_zero, List.set_cons_succ]
  refine wpAnyH_done (by kernel_rfl) ?_ _
  go_wp2
  go_ret
  exact ⟨rfl, by (repeat' (first | (with_reducible exact Below.refl _ _) | (with_reducible assumption) | (with_reducible refine Below.alloc ?_ ?_ _) | (with_reducible refine Below.drew ?_) | (with_reducible refine below_drewN ?_ _) | (with_reducible refine Below.setCell ?_ ?_ _) | (with_reducible refine below_step (by with_reducible assumption) ?_ ?_) | (with_reducible exact Below.size (by with_reducible assumption)) | go_size))⟩
/-- a trace of one sample -/
def spk (a : Nat) (v : Int) : Nat → Int := fun i => if i = a then v else 0
theorem tC_put (a : Nat) (v : Int) (h : a < 64) : (tC fun _ => 0).setIfInBounds a (f32 v) = tC (spk a v) := by
  apply Array.ext_getElem?
  intro i
  rw [Array.getElem?_setIfInBounds, tC_size]
  by_cases hi : i < 64
  · by_cases e : a = i
    · subst e
      rw [if_pos rfl, if_pos h, tC_get _ hi]
      unfold spk
      rw [if_pos rfl]
    · rw [if_neg e, tC_get _ hi, tC_get _ hi]
      unfold spk
      rw [if_neg (by omega)]
  · have e : ¬ a = i := by omega
    rw [if_neg e]
    rw [Array.getElem?_eq_none (by rw [tC_size]; omega), Array.getElem?_eq_none (by rw [tC_size]; omega)]
set_option maxRecDepth 100000 in
set_option maxHeartbeats 2000000 in
theorem spike_any (a : Nat) (v : Int) (w : World) (ha : a < 64) (hv : v.natAbs ≤ 2047) :
    Calls Try.prog 94 #[.int .i64 (a : Int), .int .i64 v] w fun e w' => e = .returned (.agg (tC (spk a v))) ∧ Below w.heap.size w w' := by
  have K := Lib.hid (fun W => modB_any (a : Int) 64 W (by omega) (by omega) (by omega) (by omega))
  rw [show (a : Int) % 64 = (a : Int) by omega] at K
  have e1 : max (-2047) (min 2047 v) = v := by omega
  have cv : ∀ w, _ := fun w => run_float32 v w
  have hset := tC_put a v ha
  have hz : (tC fun _ => 0)[a]? = some (f32 0) := tC_get _ ha
  have hs0 := Lib.hid (tC_size fun _ => 0)
  have hs := Lib.hid (tC_size (spk a v))
  have ho := Lib.hid (tC_one (spk a v))
  have hzt : ∀ w : World, (zeroValue 26).run Try.prog w = .ok (.agg (tC fun _ => 0)) w := zero_trace
  unfold f32 at cv hset hz
  generalize wd Ieee.single v = x at *
  generalize wd Ieee.single 0 = z0 at *
  generalize (tC fun _ => 0) = z at *
  generalize tC (spk a v) = c at *
  have HSET := Lib.hid hset
  have HZT := Lib.hid hzt
  clear hset hzt hv
  have q0 : (0 : Int) ≤ (a : Int) := by omega
  have q1 : (a : Int) < 64 := by omega
  go_enter Try.func94, Try.ntmps94
  go_wp2_with (refine wpl_alloc rfl 26 z rfl (HZT.out _) ?_)
  refine abs_calls (fun w1 hw1 => ?_)
  have hB1 : Below w.heap.size w w1 := by rw [hw1]; (repeat' (first | (with_reducible exact Below.refl _ _) | (with_reducible assumption) | (with_reducible refine Below.alloc ?_ ?_ _) | (with_reducible refine Below.drew ?_) | (with_reducible refine below_drewN ?_ _) | (with_reducible refine Below.setCell ?_ ?_ _) | (with_reducible refine below_step (by with_reducible assumption) ?_ ?_) | (with_reducible exact Below.size (by with_reducible assumption)) | go_size))
  have hg0 : w1.heap[w.heap.size]? = some (.cells z 26 (0, 0)) := by rw [hw1]; exact block_alloc (heap_alloc_last w _)
  have hg1 : w1.heap[w.heap.size + 1]? = some (.cells z 26 (0, 0)) := by rw [hw1]; exact heap_alloc_at (by simp)
  clear hw1
  have d0 : w1.cell? ⟨w.heap.size + 1, a, none⟩ = some (.float .f32 z0) := (cell_block hg1).trans hz
  have f0 : w1.frozen? ⟨w.heap.size + 1, a, none⟩ = false := frozen_block hg1
  have G0 := Lib.hid hg0
  have G1 := Lib.hid hg1
  have HB := Lib.hid hB1
  clear hg0 hg1 hB1 hz
  refine (K.out _).mono ?_
  rintro e w' ⟨rfl, rfl⟩
  go_wp2_with (first | (refine wpl_load rfl 26 26 _ (w.heap.size + 1) c (0, 0) _ rfl rfl Try.underlying26 rfl (by rw [hs.out]; exact infoTrace) (by rw [block_setCell G1.out, HSET.out]) ?_) | (refine wpl_store rfl 26 26 _ _ w.heap.size z c rfl rfl rfl (by rw [hs.out]; exact infoTrace) (by rw [hs.out, hs0.out]) ho.out (by rw [block_setCell_other (by omega)]; exact G0.out) ?_))
  refine bodyPost_ret (v := .agg c) ?_ rfl ⟨rfl, below_setRow (by have := HB.out; (repeat' (first | (with_reducible exact Below.refl _ _) | (with_reducible assumption) | (with_reducible refine Below.alloc ?_ ?_ _) | (with_reducible refine Below.drew ?_) | (with_reducible refine below_drewN ?_ _) | (with_reducible refine Below.setCell ?_ ?_ _) | (with_reducible refine below_step (by with_reducible assumption) ?_ ?_) | (with_reducible exact Below.size (by with_reducible assumption)) | go_size))) c (Nat.le_refl _)⟩
  rw [results_cell1 (p := 4) (ty := 26) rfl]
  change (loadVar 26 ⟨w.heap.size, 0, none⟩).run Try.prog _ = _
  exact run_loadVar_row _ _ 26 26 c (0, 0) _ (block_setRow (by rw [block_setCell_other (by omega)]; exact G0.out)) Try.underlying26 rfl (by rw [hs.out]; exact infoTrace)
end Go.Proofs.Ythgnemkfaiejbaa
