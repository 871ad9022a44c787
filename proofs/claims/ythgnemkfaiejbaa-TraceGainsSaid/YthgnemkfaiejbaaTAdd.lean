/-
  SUMS AND SHIFTS: loudest, Added, Shifted.
-/
import Derived.Test.YthgnemkfaiejbaaTErr
import Derived.Test.YthgnemkfaiejbaaTReg
import Derived.Test.YthgnemkfaiejbaaTPeak
set_option linter.unusedVariables false
set_option linter.unusedSimpArgs false
namespace Go.Proofs.Ythgnemkfaiejbaa
open Go.RowKit

section
variable {P : Program} {w : World} {o : Oper} {a : Act} {Q : Exit → Act → World → Prop} {ops : Array Oper} {rest : List Oper}
theorem wpl_build0 (hgd : o.guard = none) (t : TypeId) {n e : Nat} (z : Array Value) {sz : Nat} (ho : o.op = .build t #[]) (hz : (zeroValue t).run P w = .ok (.agg z) w) (hu : P.underlying t = some (.array n e)) (hs : (P.info? e).map (·.size) = some sz)
    (h : wpList P ops Q rest (a.put o.dst (.agg z)) w) : wpList P ops Q (o :: rest) a w :=
  wpList_plain hgd fun K hK => by
    unfold Oper.wp execOp
    obtain ⟨i, hi⟩ : ∃ i, P.info? e = some i := by
      cases hh : P.info? e with
      | none => rw [hh] at hs; cases hs
      | some i => exact ⟨i, rfl⟩
    simp only [ho, Instr.build, Sem.run_bind, Sem.run_pure, Result.andThen, hz, run_underlying hu, sizeOf, typeInfo, hi, Value.cells, Array.map_empty, Instr.fill]
    simp [go_sem, hi, sizeOf, typeInfo, Instr.fill]
    exact hK _ _ h
end
theorem siz_abs {n : Int} (h : n.natAbs < 2 ^ 62) : siz n = (n.natAbs : Int) := by
  unfold siz
  split
  · rw [IntWalk.wrap64_in _ (by omega)]; omega
  · omega
theorem index_tr {A : Array Value} {k : Nat} {v : Value} (hk : k < 64) (h : A[k]? = some v) (w : World) : (Instr.index 26 (.agg A) (.int .i64 (k : Int))).run Try.prog w = .ok v w := by
  have e0 : (0 : Int) ≤ (k : Int) := by omega
  have e1 : (k : Int) < 64 := by omega
  simp [Instr.index, go_sem, h, hk]
/-- the greatest size so far -/
def ldM (x : Nat → Int) : Nat → Int
  | 0 => 0
  | k + 1 => max (ldM x k) ((x k).natAbs : Int)
theorem ldM_le (x : Nat → Int) (c : Int) (hc : 0 ≤ c) : ∀ n, ldM x n ≤ c ↔ ∀ k, k < n → ((x k).natAbs : Int) ≤ c
  | 0 => by simp [ldM, hc]
  | n + 1 => by
    have ih := ldM_le x c hc n
    show max (ldM x n) _ ≤ c ↔ _
    constructor
    · intro h k hk
      by_cases e : k = n
      · rw [e]; omega
      · exact ih.1 (by omega) k (by omega)
    · intro h
      have a := ih.2 fun k hk => h k (by omega)
      have b := h n (by omega)
      omega
set_option maxRecDepth 100000 in
set_option maxHeartbeats 2000000 in
theorem loudest_any (x : Nat → Int) (w : World) (hx : Hid (∀ k, k < 64 → (x k).natAbs < 2 ^ 24)) :
    Calls Try.prog 113 #[.agg (tC x)] w fun e w' => e = .returned (.int .i64 (ldM x 64)) ∧ Below w.heap.size w w' := by
  have HG := Lib.hid (fun k (h : k < 64) => tC_get x h)
  have hs := Lib.hid (tC_size x)
  have HM := Lib.hid (fun k => show ldM x (k + 1) = max (ldM x k) ((x k).natAbs : Int) from rfl)
  have h0 := Lib.hid (show ldM x 0 = 0 from rfl)
  generalize tC x = c at *
  go_enter Try.func113, Try.ntmps113
  go_wp2_with (refine wpl_load rfl 26 26 _ w.heap.size c (0, 0) _ rfl rfl Try.underlying26 rfl (by rw [hs.out]; exact infoTrace) (heap_alloc_last w _) ?_)
  go_loop [3, 7] (fun s i => ∃ k : Nat, k ≤ 64 ∧ i = .int .i64 (k : Int) ∧ s = .int .i64 (ldM x k)) (fun _ i => 64 - (intOf i).toNat)
  case atStart => exact ⟨0, Nat.zero_le _, rfl, by rw [h0.out]⟩
  case round =>
    obtain ⟨k, hk, rfl, rfl⟩ := hrel
    by_cases hlt : k < 64
    · have hix : ∀ w, _ := fun w => index_tr hlt (HG.out k hlt) w
      have hxk := hx.out k hlt
      have hcv : ∀ w, _ := fun w => run_int32 (x k) w hxk
      have K := Lib.hid (fun W => size_any (x k) W)
      rw [siz_abs (by omega)] at K
      have HMk := Lib.hid (HM.out k)
      unfold f32 at hix
      clear hxk
      generalize wd Ieee.single (x k) = v at *
      generalize ((x k).natAbs : Int) = m at *
      generalize ldM x k = s at *
      have e0 : (0 : Int) ≤ (k : Int) := by omega
      have e1 : (k : Int) < 64 := by omega
      go_wp2_with fail
      refine (K.out _).mono ?_
      rintro e w' ⟨rfl, rfl⟩
      go_wp2
      go_round
      case rel => exact ⟨k + 1, by omega, by go_num, by rw [HMk.out]⟩
      case measure => simp [intOf]; omega
    · obtain rfl : k = 64 := by omega
      go_wp2
      go_ret
      exact ⟨rfl, by (repeat' (first | (with_reducible exact Below.refl _ _) | (with_reducible assumption) | (with_reducible refine Below.alloc ?_ ?_ _) | (with_reducible refine Below.drew ?_) | (with_reducible refine below_drewN ?_ _) | (with_reducible refine Below.setCell ?_ ?_ _) | (with_reducible refine below_step (by with_reducible assumption) ?_ ?_) | (with_reducible exact Below.size (by with_reducible assumption)) | go_size))⟩
set_option maxRecDepth 100000 in
set_option maxHeartbeats 2000000 in
theorem traceWith_bel (x : Nat → Int) (f : FuncId) (cap : Array Value) (w : World) (HF : Hid (Enters Try.prog f))
    (HC : Hid (∀ k : Nat, k < 64 → ∀ W, Below w.heap.size w W → Calls Try.prog f (#[.int .i64 (k : Int)] ++ cap) W fun e w' => e = .returned (.int .i64 (x k)) ∧ Below W.heap.size W w')) :
    Calls Try.prog 127 #[.func (.func f) #[] cap] w fun e w' => e = .returned (.agg (tC x)) ∧ Below w.heap.size w w' := by
  go_enter Try.func127, Try.ntmps127
  go_wp2_with (refine wpl_alloc rfl 26 (tC fun _ => 0) rfl (zero_trace _) ?_)
  have hl1 : w.heap.size < w.heap.size + 1 := by omega
  go_loopw [5] (fun i wr => ∃ k : Nat, k ≤ 64 ∧ i = .int .i64 (k : Int) ∧ Below w.heap.size w wr ∧ wr.heap[w.heap.size]? = some (.cells (tC fun _ => 0) 26 (0, 0)) ∧ wr.heap[w.heap.size + 1]? = some (.cells (tC (tF x k)) 26 (0, 0))) (fun i _ => 64 - (intOf i).toNat)
  case atStart =>
    refine ⟨0, Nat.zero_le _, rfl, by (repeat' (first | (with_reducible exact Below.refl _ _) | (with_reducible assumption) | (with_reducible refine Below.alloc ?_ ?_ _) | (with_reducible refine Below.drew ?_) | (with_reducible refine below_drewN ?_ _) | (with_reducible refine Below.setCell ?_ ?_ _) | (with_reducible refine below_step (by with_reducible assumption) ?_ ?_) | (with_reducible exact Below.size (by with_reducible assumption)) | go_size)), block_alloc (heap_alloc_last w _), ?_⟩
    have := heap_alloc_last (w.alloc (.cells (tC fun _ => 0) 26)) (.cells (tC fun _ => 0) 26)
    rw [show (w.alloc (.cells (tC fun _ => 0) 26)).heap.size = w.heap.size + 1 by simp] at this
    exact this
  case round =>
    obtain ⟨k, hk, rfl, hB, hg0, hg1⟩ := hrel
    have hzr := hB.size
    by_cases hlt : k < 64
    · have K := Lib.hid (HC.out k hlt wr hB)
      have hcv : ∀ w, _ := fun w => run_float32 (x k) w
      have HB := Lib.hid hB
      have HG0 := Lib.hid hg0
      have HG1 := Lib.hid hg1
      clear hB hg0 hg1
      unfold f32 at hcv
      generalize hv : wd Ieee.single (x k) = v at *
      have HV := Lib.hid hv
      clear hv
      have e0 : (0 : Int) ≤ (k : Int) := by omega
      have e1 : (k : Int) < 64 := by omega
      have he : ∀ w, (callFunc f (#[.int .i64 (k : Int)] ++ cap)).run Try.prog w = .ok (.enter f (#[.int .i64 (k : Int)] ++ cap)) w := fun w => HF.out _ w
      go_wp2_with fail
      refine K.out.mono ?_
      rintro e w2 ⟨rfl, hw2⟩
      clear he
      have k0 := block_below0 hw2 HG0.out
      have k1 := block_below0 hw2 HG1.out
      have HB2 := Lib.hid (below_step hw2 HB.out HB.out.size)
      have hc0 : w2.cell? ⟨w.heap.size + 1, k, none⟩ = some (f32 (tF x k k)) := (cell_block k1).trans (tC_get _ hlt)
      have hf0 : w2.frozen? ⟨w.heap.size + 1, k, none⟩ = false := frozen_block k1
      have HK0 := Lib.hid k0
      have HK1 := Lib.hid k1
      clear k0 k1 hw2
      unfold f32 at hc0
      go_wp2
      go_roundw
      case rel =>
        refine ⟨k + 1, by omega, by go_num, by have := HB2.out; (repeat' (first | (with_reducible exact Below.refl _ _) | (with_reducible assumption) | (with_reducible refine Below.alloc ?_ ?_ _) | (with_reducible refine Below.drew ?_) | (with_reducible refine below_drewN ?_ _) | (with_reducible refine Below.setCell ?_ ?_ _) | (with_reducible refine below_step (by with_reducible assumption) ?_ ?_) | (with_reducible exact Below.size (by with_reducible assumption)) | go_size)), ?_, ?_⟩
        · rw [block_setCell_other (by omega)]; exact HK0.out
        · have h := block_setCell (i := k) (v := .float .f32 v) HK1.out
          rw [h]
          have h2 := tC_set x hlt
          unfold f32 at h2
          rw [HV.out] at h2
          rw [h2]
      case measure => simp [intOf]; omega
    · have ek : k = 64 := by omega
      subst ek
      have hs := Lib.hid (tC_size (tF x 64))
      have hs0 := Lib.hid (tC_size fun _ => 0)
      have ho := Lib.hid (tC_one (tF x 64))
      have he := Lib.hid (tC_congr (x := tF x 64) (y := x) (fun i hi => by unfold tF; rw [if_pos hi]))
      generalize tC (tF x 64) = c at *
      generalize (tC fun _ => 0) = z at *
      go_wp2_with (first | (refine wpl_load rfl 26 26 _ (w.heap.size + 1) c (0, 0) _ rfl rfl Try.underlying26 rfl (by rw [hs.out]; exact infoTrace) hg1 ?_) | (refine wpl_store rfl 26 26 _ _ w.heap.size z c rfl rfl rfl (by rw [hs.out]; exact infoTrace) (by rw [hs.out, hs0.out]) ho.out hg0 ?_))
      refine bodyPost_ret (v := .agg c) ?_ rfl ⟨by rw [he.out], below_setRow hB c (Nat.le_refl _)⟩
      rw [results_cell1 (p := 2) (ty := 26) rfl]
      change (loadVar 26 ⟨w.heap.size, 0, none⟩).run Try.prog _ = _
      exact run_loadVar_row _ _ 26 26 c (0, 0) _ (block_setRow hg0) Try.underlying26 rfl (by rw [hs.out]; exact infoTrace)
set_option maxRecDepth 100000 in
set_option maxHeartbeats 1000000 in
theorem added1_any (n m : Int) (b1 b2 k : Nat) (w : World) (hk : k < 64) (hn : n.natAbs < 2 ^ 24) (hm : m.natAbs < 2 ^ 24) (hc : w.cell? ⟨b1, k, none⟩ = some (f32 n)) (hd : w.cell? ⟨b2, k, none⟩ = some (f32 m)) :
    Calls Try.prog 128 #[.int .i64 (k : Int), .pointer (some ⟨b1, 0, none⟩), .pointer (some ⟨b2, 0, none⟩)] w fun e w' => e = .returned (.int .i64 (n + m)) ∧ Below w.heap.size w w' := by
  have c1 : ∀ w, _ := fun w => run_int32 n w hn
  have c2 : ∀ w, _ := fun w => run_int32 m w hm
  have wr1 : IntKind.i64.wrap (n + m) = n + m := IntWalk.i64_in _ (by omega)
  unfold f32 at hc hd
  clear hn hm
  generalize wd Ieee.single n = u at *
  generalize wd Ieee.single m = v at *
  have e0 : (0 : Int) ≤ (k : Int) := by omega
  have e1 : (k : Int) < 64 := by omega
  go_enter Try.func128, Try.ntmps128
  go_wp2
  refine wp_region_held_drew (S := fun w' => w'.cell? ⟨b1, k, none⟩ = some (.float .f32 u) ∧ w'.cell? ⟨b2, k, none⟩ = some (.float .f32 v)) (by kernel_rfl) ?_ (fun hH1 => ?_)
  · (first | assumption | (refine ⟨?_, ?_⟩ <;> assumption) | (go_keep; done) | (simp [*, go_sem]; done))
  refine wpAnyH_pure (i := 0) (v := ?_) rfl (by kernel_rfl) (by kernel_rfl) (by kernel_rfl) (fun _ _ _ h => h) (by rfl) (by assumption) ?_ ?_
  rotate_left
  · (intro w hSw; (try dsimp only at hSw); go_simp; (try with_reducible rfl))
  simp only [Act.put, List.getElem_toArray, List.getElem_cons_succ, List.getElem_cons_zero, List.setIfInBounds_toArray, List.set_cons_zero, List.set_cons_succ]
  refine wpAnyH_pure (i := 1) (v := ?_) rfl (by kernel_rfl) (by kernel_rfl) (by kernel_rfl) (fun _ _ _ h => h) (by rfl) (by assumption) ?_ ?_
  rotate_left
  · (intro w hSw; (try dsimp only at hSw); go_simp; (try with_reducible rfl))
  simp only [Act.put, List.getElem_toArray, List.getElem_cons_succ, List.getElem_cons_zero, List.setIfInBounds_toArray, List.set_cons_zero, List.set_cons_succ]
  refine wpAnyH_pure (i := 2) (v := ?_) rfl (by kernel_rfl) (by kernel_rfl) (by kernel_rfl) (fun _ _ _ h => h) (by rfl) (by assumption) ?_ ?_
  rotate_left
  · (intro w hSw; (try dsimp only at hSw); go_simp; (try with_reducible rfl))
  simp only [Act.put, List.getElem_toArray, List.getElem_cons_succ, List.getElem_cons_zero, List.setIfInBounds_toArray, List.set_cons_zero, List.set_cons_succ]
  refine wpAnyH_pure (i := 3) (v := ?_) rfl (by kernel_rfl) (by kernel_rfl) (by kernel_rfl) (fun _ _ _ h => h) (by rfl) (by assumption) ?_ ?_
  rotate_left
  · (intro w hSw; (try dsimp only at hSw); go_simp; (try with_reducible rfl))
  simp only [Act.put, List.getElem_toArray, List.getElem_cons_succ, List.getElem_cons_zero, List.setIfInBounds_toArray, List.set_cons_zero, List.set_cons_succ]
  refine wpAnyH_pure (i := 4) (v := ?_) rfl (by kernel_rfl) (by kernel_rfl) (by kernel_rfl) (fun _ _ _ h => h) (by rfl) (by assumption) ?_ ?_
  rotate_left
  · (intro w hSw; (try dsimp only at hSw); go_simp; (try with_reducible rfl))
  simp only [Act.put, List.getElem_toArray, List.getElem_cons_succ, List.getElem_cons_zero, List.setIfInBounds_toArray, List.set_cons_zero, List.set_cons_succ]
  refine wpAnyH_pure (i := 5) (v := ?_) rfl (by kernel_rfl) (by kernel_rfl) (by kernel_rfl) (fun _ _ _ h => h) (by rfl) (by assumption) ?_ ?_
  rotate_left
  · (intro w hSw; (try dsimp only at hSw); go_simp; (try with_reducible rfl))
  simp only [Act.put, List.getElem_toArray, List.getElem_cons_succ, List.getElem_cons_zero, List.setIfInBounds_toArray, List.set_cons_zero, List.set_cons_succ]
  refine wpAnyH_pure (i := 6) (v := ?_) rfl (by kernel_rfl) (by kernel_rfl) (by kernel_rfl) (fun _ _ _ h => h) (by rfl) (by assumption) ?_ ?_
  rotate_left
  · (intro w hSw; (try dsimp only at hSw); go_simp; (try with_reducible rfl))
  simp only [Act.put, List.getElem_toArray, List.getElem_cons_succ, List.getElem_cons_zero, List.setIfInBounds_toArray, List.set_cons_zero, List.set_cons_succ]
  refine wpAnyH_pure (i := 7) (v := ?_) rfl (by kernel_rfl) (by kernel_rfl) (by kernel_rfl) (fun _ _ _ h => h) (by rfl) (by assumption) ?_ ?_
  rotate_left
  · (intro w hSw; (try dsimp only at hSw); go_simp; (try with_reducible rfl))
  simp only [Act.put, List.getElem_toArray, List.getElem_cons_succ, List.getElem_cons_zero, List.setIfInBounds_toArray, List.set_cons_zero, List.set_cons_succ]
  refine wpAnyH_pure (i := 8) (v := ?_) rfl (by kernel_rfl) (by kernel_rfl) (by kernel_rfl) (fun _ _ _ h => h) (by rfl) (by assumption) ?_ ?_
  rotate_left
  · (intro w hSw; (try dsimp only at hSw); go_simp; (try with_reducible rfl))
  simp only [Act.put, List.getElem_toArray, List.getElem_cons_succ, List.getElem_cons_zero, List.setIfInBounds_toArray, List.set_cons_zero, List.set_cons_succ]
  refine wpAnyH_pure (i := 9) (v := ?_) rfl (by kernel_rfl) (by kernel_rfl) (by kernel_rfl) (fun _ _ _ h => h) (by rfl) (by assumption) ?_ ?_
  rotate_left
  · (intro w hSw; (try dsimp only at hSw); go_simp; (try with_reducible rfl))
  simp only [Act.put, List.getElem_toArray, List.getElem_cons_succ, List.getElem_cons_zero, List.setIfInBounds_toArray, List.set_cons_zero, List.set_cons_succ]
  refine wpAnyH_done (by kernel_rfl) ?_ _
  go_wp2
  go_ret
  exact ⟨rfl, by (repeat' (first | (with_reducible exact Below.refl _ _) | (with_reducible assumption) | (with_reducible refine Below.alloc ?_ ?_ _) | (with_reducible refine Below.drew ?_) | (with_reducible refine below_drewN ?_ _) | (with_reducible refine Below.setCell ?_ ?_ _) | (with_reducible refine below_step (by with_reducible assumption) ?_ ?_) | (with_reducible exact Below.size (by with_reducible assumption)) | go_size))⟩
end Go.Proofs.Ythgnemkfaiejbaa
