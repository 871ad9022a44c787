/-
  TRACES MADE OF ROWS: Ints, made.
-/
import Derived.Test.YthgnemkfaiejbaaTRow
import Derived.OwnWalk
import Derived.Laws.AppendOwn
import Derived.Laws.OwnMore
import Derived.StillTailTactics
import Derived.Deep.Onto
set_option linter.unusedVariables false
set_option linter.unusedSimpArgs false
namespace Go.Proofs.Ythgnemkfaiejbaa
open Go.RowKit

/-- a row of integers of the call's own -/
def IntsPost (x : Nat → Int) (n : Nat) (w : World) (e : Ending) (w' : World) : Prop := ∃ v, e = .returned v ∧ w'.ownsRow w.heap.size 3 1 v n (iL x n) ∧ Below w.heap.size w w'
set_option maxRecDepth 100000 in
set_option maxHeartbeats 2000000 in
theorem ints_any (x : Nat → Int) (w : World) (hx : Hid (∀ k, k < 64 → (x k).natAbs < 2 ^ 24)) :
    Calls Try.prog 115 #[.agg (tC x)] w (IntsPost x 64 w) := by
  have HG := Lib.hid (fun k (h : k < 64) => tC_get x h)
  obtain ⟨i0, hi, hz0, hz1, hz2⟩ := info_parts1 infoInt
  have HI := Lib.hid hi
  have HZ := Lib.hid hz0
  have HZ1 := Lib.hid hz1
  have HZ2 := Lib.hid hz2
  clear hi hz0 hz1 hz2
  generalize tC x = c at *
  go_enter Try.func115, Try.ntmps115
  go_wp2
  go_loopw [3, 4] (fun v i wr => ∃ k : Nat, k ≤ 64 ∧ i = .int .i64 (k : Int) ∧ wr.ownsRow (w.heap.size + 1) 3 1 v k (iL x k) ∧ Below (w.heap.size + 1) (w.alloc (.cells c 26)) wr) (fun _ i _ => 64 - (intOf i).toNat)
  case atStart => exact ⟨0, Nat.zero_le _, rfl, World.ownsRow_nil _ _ _ _, Below.refl _ _⟩
  case round =>
    obtain ⟨k, hk, rfl, hown, hB⟩ := hrel
    have hzr := hB.size
    rw [World.size_alloc] at hzr
    by_cases hlt : k < 64
    · have d0 : wr.cell? ⟨w.heap.size, k, none⟩ = some (f32 (x k)) := (hB.cell (p := ⟨w.heap.size, k, none⟩) (by simp)).trans ((cell_block (heap_alloc_last w _)).trans (HG.out k hlt))
      have hcv : ∀ w, _ := fun w => run_int32 (x k) w (hx.out k hlt)
      have HL := Lib.hid (iL_succ x k)
      unfold f32 at d0
      generalize wd Ieee.single (x k) = v0 at *
      generalize x k = y at *
      have HO := Lib.hid hown
      have HB := Lib.hid hB
      clear hown hB
      have e0 : (0 : Int) ≤ (k : Int) := by omega
      have e1 : (k : Int) < 64 := by omega
      have hlw : w.heap.size < wr.heap.size := by omega
      go_wp2_with (at_builtin; go_loud (refine wpList_append_own _ rfl (.tmp 9) (.tmp 14) 50 rfl (w.heap.size + 1) 3 i0 (.int .i64 0) 1 8 Try.underlying50 HI.out HZ.out HZ1.out HZ2.out rfl (by decide) _ k (iL x k) rfl (HO.out.alloc _) ⟨wr.heap.size, 0, none⟩ 1 1 [.int .i64 y] rfl rfl ?c1 ?c2 ?c3 ?c4 ?c5 ?_))
      case c1 =>
        intro j u hj
        match j, hj with
        | 0, hj => simp at hj; subst hj; simp [Addr.add]
      case c2 => intro u hu; simp at hu; subst hu; rfl
      case c3 => unfold maxLen; omega
      case c4 => omega
      case c5 => simp; omega
      intro v' wA hown' hgrow _
      rw [← HL.out] at hown'
      have HO' := Lib.hid hown'
      have HB' := Lib.hid (Below.grown (HB.out.alloc (by omega) _) hgrow (by simp; omega) (fun b hb => (HO.out.lt b hb).1))
      clear hown' hgrow HO HB
      go_wp2
      go_roundw
      case rel => exact ⟨k + 1, by omega, by go_num, HO'.out, HB'.out⟩
      case measure => simp [intOf]; omega
    · obtain rfl : k = 64 := by omega
      have HO := Lib.hid hown
      have HB := Lib.hid hB
      clear hown hB
      go_wp2
      go_ret
      exact ⟨_, rfl, HO.out.mono (by omega), ((Below.refl _ w).alloc (Nat.le_refl _) _).trans (HB.out.mono (by omega))⟩
def cut4 (x : Nat → Int) : Nat → Int := fun k => max (-4000) (min 4000 (x k))
/-- the trace of a row cut to 4000 -/
def mkT (x : Nat → Int) (n : Nat) : Nat → Int := rz (cut4 x) n
theorem mkT_bd (x : Nat → Int) (n k : Nat) : (mkT x n k).natAbs ≤ 4000 := by
  unfold mkT rz cut4
  split <;> omega
theorem mkT_24 (x : Nat → Int) (n : Nat) : Hid (∀ k, k < 64 → (mkT x n k).natAbs < 2 ^ 24) := Lib.hid fun k _ => by have := mkT_bd x n k; omega
set_option maxRecDepth 100000 in
set_option maxHeartbeats 2000000 in
theorem made_any (v : Value) (x : Nat → Int) (n : Nat) (w : World) (hn : n ≤ 100000) (hr : Hid (IRow w v x n)) :
    Calls Try.prog 33 #[v] w fun e w' => e = .returned (.agg (tC (mkT x n))) ∧ Below w.heap.size w w' := by
  have KT := Lib.hid (fun (u : Value) W h => traceR_any u (cut4 x) n W h)
  rw [show tC (rz (cut4 x) n) = tC (mkT x n) from rfl] at KT
  obtain ⟨i0, hi, hz0, hz1, hz2⟩ := info_parts1 infoInt
  have HI := Lib.hid hi
  have HZ := Lib.hid hz0
  have HZ1 := Lib.hid hz1
  have HZ2 := Lib.hid hz2
  clear hi hz0 hz1 hz2
  obtain ⟨q, c, rfl, hc, hcell⟩ := hr.out
  have HC := Lib.hid hcell
  clear hcell hr
  obtain ⟨hc1, hc2⟩ := hc
  unfold maxLen at hc2
  have HZT := Lib.hid zero_trace
  have hs0 := Lib.hid (tC_size fun _ => 0)
  have hs := Lib.hid (tC_size (mkT x n))
  have ho := Lib.hid (tC_one (mkT x n))
  generalize tC (mkT x n) = d at *
  generalize (tC fun _ => 0) = z at *
  go_enter Try.func33, Try.ntmps33
  go_wp2_with (refine wpl_alloc rfl 26 z rfl (HZT.out _) ?_)
  go_loopw [3, 4] (fun v i wr => ∃ k : Nat, k ≤ n ∧ i = .int .i64 (k : Int) ∧ wr.ownsRow (w.heap.size + 1) 3 1 v k (iL (cut4 x) k) ∧ Below (w.heap.size + 1) (w.alloc (.cells z 26)) wr) (fun _ i _ => n - (intOf i).toNat)
  case atStart => exact ⟨0, Nat.zero_le _, rfl, World.ownsRow_nil _ _ _ _, Below.refl _ _⟩
  case round =>
    obtain ⟨k, hk, rfl, hown, hB⟩ := hrel
    have hzr := hB.size
    rw [World.size_alloc] at hzr
    by_cases hlt : k < n
    · have hcell := HC.out
      rcases hcell with h0 | ⟨b, o, rfl, hb, hcell⟩
      · omega
      have d0 : wr.cell? ⟨b, o + k, none⟩ = some (.int .i64 (x k)) := (hB.cell (p := ⟨b, o + k, none⟩) (by simp; omega)).trans ((World.cell?_alloc_lt _ _ _ (by exact hb)).trans (hcell k hlt))
      have HL := Lib.hid (iL_succ (cut4 x) k)
      rw [show cut4 x k = max (-4000) (min 4000 (x k)) from rfl] at HL
      clear hcell HC
      generalize x k = y at *
      have HO := Lib.hid hown
      have HB := Lib.hid hB
      clear hown hB
      have e0 : (0 : Int) ≤ (k : Int) := by omega
      have e1 : (k : Int) < (n : Int) := by omega
      have hbw : b < wr.heap.size := by omega
      go_wp2_with (at_builtin; refine wpList_append_own _ rfl (.tmp 11) (.tmp 18) 50 rfl (w.heap.size + 1) 3 i0 (.int .i64 0) 1 8 Try.underlying50 HI.out HZ.out HZ1.out HZ2.out rfl (by decide) _ k (iL (cut4 x) k) rfl (HO.out.alloc _) ⟨wr.heap.size, 0, none⟩ 1 1 [.int .i64 (max (-4000) (min 4000 y))] rfl rfl ?c1 ?c2 ?c3 ?c4 ?c5 ?_)
      case c1 =>
        intro j u hj
        match j, hj with
        | 0, hj => simp at hj; subst hj; simp [Addr.add]
      case c2 => intro u hu; simp at hu; subst hu; rfl
      case c3 => unfold maxLen; omega
      case c4 => omega
      case c5 => simp; omega
      intro v' wA hown' hgrow _
      rw [← HL.out] at hown'
      have HO' := Lib.hid hown'
      have HB' := Lib.hid (Below.grown (HB.out.alloc (by omega) _) hgrow (by simp; omega) (fun b hb => (HO.out.lt b hb).1))
      clear hown' hgrow HO HB
      go_wp2
      go_roundw
      case rel => exact ⟨k + 1, by omega, by go_num, HO'.out, HB'.out⟩
      case measure => simp [intOf]; omega
    · obtain rfl : k = n := by omega
      have HR := Lib.hid (Lib.hid (irow_own hown))
      have HB := Lib.hid (((Below.refl _ w).alloc (Nat.le_refl _) (.cells z 26)).trans (hB.mono (by omega)))
      have HG := Lib.hid (hB.block w.heap.size (by omega))
      have e1 : ¬ (k : Int) < (k : Int) := by omega
      clear hown hB HC
      go_wp2_with fail
      refine (KT.out _ _ HR.out).mono ?_
      rintro e w2 ⟨rfl, hw2⟩
      have hg : w2.heap[w.heap.size]? = some (.cells z 26 (0, 0)) := block_below0 hw2 (HG.out.trans (heap_alloc_last w _))
      have HB2 := Lib.hid (below_step hw2 HB.out HB.out.size)
      clear hw2 HG
      go_wp2_with (refine wpl_store rfl 26 26 _ _ w.heap.size z d rfl rfl rfl (by rw [hs.out]; exact infoTrace) (by rw [hs.out, hs0.out]) ho.out hg ?_)
      refine bodyPost_ret (v := .agg d) ?_ rfl ⟨rfl, below_setRow HB2.out d (Nat.le_refl _)⟩
      rw [results_cell1 (p := 2) (ty := 26) rfl]
      change (loadVar 26 ⟨w.heap.size, 0, none⟩).run Try.prog _ = _
      exact run_loadVar_row _ _ 26 26 d (0, 0) _ (block_setRow hg) Try.underlying26 rfl (by rw [hs.out]; exact infoTrace)
end Go.Proofs.Ythgnemkfaiejbaa
