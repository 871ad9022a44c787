/-
  SHIFTED, as the reference has it.
-/
import Derived.Test.YthgnemkfaiejbaaTLagR
import Derived.Test.YthgnemkfaiejbaaTShift
import Derived.Test.YthgnemkfaiejbaaTMade
set_option linter.unusedVariables false
set_option linter.unusedSimpArgs false
namespace Go.Proofs.Ythgnemkfaiejbaa
open Go.RowKit

theorem shT_in {x : Nat → Int} {m : Int} {k j : Nat} (h : (k : Int) - m = j) (hj : j < 64) : shT x m k = x j := by
  unfold shT
  rw [h, if_pos (by unfold inB; exact decide_eq_true (by omega))]; rfl
theorem shT_off {x : Nat → Int} {m : Int} {k : Nat} (h : ¬ (0 ≤ (k : Int) - m ∧ (k : Int) - m ≤ 63)) : shT x m k = 0 := by
  unfold shT
  rw [if_neg (by unfold inB; rw [decide_eq_false h]; decide)]
set_option maxRecDepth 100000 in
set_option maxHeartbeats 4000000 in
theorem shiftedR_any (x : Nat → Int) (m : Int) (w : World) (hx : Hid (∀ k, k < 64 → (x k).natAbs ≤ 2047)) (hm : m.natAbs ≤ 64) :
    Calls Try.prog 54 #[.agg (tC x), .int .i64 m] w fun e w' => e = .returned (.agg (tC (shT x m))) ∧ Below w.heap.size w w' := by
  have K1 := Lib.hid (fun W => ints_any x W (Lib.hid fun k hk => by have := hx.out k hk; omega))
  have KT := Lib.hid (fun (u : Value) W h => traceR_any u (shT x m) 64 W h)
  rw [show tC (rz (shT x m) 64) = tC (shT x m) from tC_congr fun i hi => if_pos hi] at KT
  obtain ⟨i0, hi, hz0, hz1, hz2⟩ := info_parts1 infoInt
  have HI := Lib.hid hi
  have HZ0 := Lib.hid hz0
  have HZ1 := Lib.hid hz1
  have HZ2 := Lib.hid hz2
  clear hi hz0 hz1 hz2
  have HZT := Lib.hid zero_trace
  have hsc := Lib.hid (tC_size x)
  have hs0 := Lib.hid (tC_size fun _ => 0)
  have hs := Lib.hid (tC_size (shT x m))
  have ho := Lib.hid (tC_one (shT x m))
  unfold IntsPost at K1
  generalize tC x = c at *
  generalize tC (shT x m) = d at *
  generalize (tC fun _ => 0) = z at *
  go_enter Try.func54, Try.ntmps54
  go_wp2_with (first | (refine wpl_alloc rfl 26 z rfl (HZT.out _) ?_) | (refine wpl_load rfl 26 26 _ w.heap.size c (0, 0) _ rfl rfl Try.underlying26 rfl (by rw [hsc.out]; exact infoTrace) (block_alloc (heap_alloc_last w _)) ?_))
  refine (K1.out _).mono ?_
  rintro e w1 ⟨va, rfl, hoa, hw1⟩
  have cz := block_below0 hw1 (heap_alloc_last (w.alloc _) _)
  rw [World.size_alloc] at cz
  have hz1 := hw1.size
  have hB1 : Below w.heap.size w w1 := by (repeat' (first | (with_reducible exact Below.refl _ _) | (with_reducible assumption) | (with_reducible refine Below.alloc ?_ ?_ _) | (with_reducible refine Below.drew ?_) | (with_reducible refine below_drewN ?_ _) | (with_reducible refine Below.setCell ?_ ?_ _) | (with_reducible refine below_step (by with_reducible assumption) ?_ ?_) | (with_reducible exact Below.size (by with_reducible assumption)) | go_size))
  simp only [World.size_alloc] at hz1
  obtain ⟨b1, o1, c1, rfl, hc1, hb1, h1⟩ := irow64 (irow_own hoa)
  have H1 := Lib.hid h1
  unfold maxLen at hc1
  clear hw1 hoa h1
  go_wp2
  go_loopw [6, 7] (fun v i wr => ∃ k : Nat, k ≤ 64 ∧ i = .int .i64 (k : Int) ∧ wr.ownsRow w1.heap.size 3 1 v k (iL (shT x m) k) ∧ Below w1.heap.size w1 wr) (fun _ i _ => 64 - (intOf i).toNat)
  case atStart => exact ⟨0, Nat.zero_le _, rfl, World.ownsRow_nil _ _ _ _, Below.refl _ _⟩
  case round =>
    obtain ⟨k, hk, rfl, hown, hB⟩ := hrel
    have hzr := hB.size
    have HO := Lib.hid hown
    have HB := Lib.hid hB
    clear hown hB
    by_cases hlt : k < 64
    · have e1 : (k : Int) < 64 := by omega
      have w1' : IntKind.i64.wrap ((k : Int) - m) = (k : Int) - m := IntWalk.i64_in _ (by omega)
      have HL := Lib.hid (iL_succ (shT x m) k)
      by_cases hin : 0 ≤ (k : Int) - m ∧ (k : Int) - m ≤ 63
      · obtain ⟨j, hj⟩ : ∃ j : Nat, (k : Int) - m = j := ⟨((k : Int) - m).toNat, by omega⟩
        have hjl : j < 64 := by omega
        rw [shT_in hj hjl] at HL
        have hI : inB (j : Int) 0 63 = true := by unfold inB; exact decide_eq_true (by omega)
        have d0 := (HB.out.cell (p := ⟨b1, o1 + j, none⟩) hb1).trans (H1.out j hjl)
        have w1'' : IntKind.i64.wrap ((k : Int) - m) = (j : Int) := w1'.trans hj
        have q0 : (0 : Int) ≤ (j : Int) := by omega
        have q1 : (j : Int) < 64 := by omega
        clear w1' hin hj
        generalize x j = y at *
        go_wp2_with fail
        refine (bwithin_any _ _ _ _).mono ?_
        rintro e w' ⟨rfl, rfl⟩
        rw [hI]
        have hb1r : b1 < wr.heap.size := by omega
        go_wp2_with (at_builtin; go_loud (refine wpList_append_own _ rfl (.tmp 18) (.tmp 25) 50 rfl w1.heap.size 3 i0 (.int .i64 0) 1 8 Try.underlying50 HI.out HZ0.out HZ1.out HZ2.out rfl (by decide) _ k (iL (shT x m) k) rfl (HO.out.alloc _) ⟨wr.heap.size, 0, none⟩ 1 1 [.int .i64 y] rfl rfl ?c1 ?c2 ?c3 ?c4 ?c5 ?_))
        case c1 =>
          intro j u hj
          match j, hj with
          | 0, hj => simp at hj; subst hj; simp [Addr.add]
        case c2 => intro u hu; simp at hu; subst hu; rfl
        case c3 => unfold maxLen; omega
        case c4 => omega
        case c5 => simp; omega
        intro v' wA hown' hgrow _
        rw [← HL.out] at hown'
        have HO' := Lib.hid hown'
        have HB' := Lib.hid (Below.grown (HB.out.alloc (by omega) _) hgrow (by simp; omega) (fun b hb => (HO.out.lt b hb).1))
        clear hown' hgrow HO HB
        go_wp2
        go_roundw
        case rel => exact ⟨k + 1, by omega, by go_num, HO'.out, HB'.out⟩
        case measure => simp [intOf]; omega
      · rw [shT_off hin] at HL
        have hI : inB ((k : Int) - m) 0 63 = false := by unfold inB; exact decide_eq_false hin
        clear hin
        go_wp2_with fail
        refine (bwithin_any _ _ _ _).mono ?_
        rintro e w' ⟨rfl, rfl⟩
        rw [hI]
        go_wp2_with (at_builtin; go_loud (refine wpList_append_own _ rfl (.tmp 27) (.tmp 28) 50 rfl w1.heap.size 3 i0 (.int .i64 0) 1 8 Try.underlying50 HI.out HZ0.out HZ1.out HZ2.out rfl (by decide) _ k (iL (shT x m) k) rfl (HO.out.alloc _) ⟨wr.heap.size, 0, none⟩ 1 1 [.int .i64 0] rfl rfl ?c1 ?c2 ?c3 ?c4 ?c5 ?_))
        case c1 =>
          intro j u hj
          match j, hj with
          | 0, hj => simp at hj; subst hj; simp [Addr.add]
        case c2 => intro u hu; simp at hu; subst hu; rfl
        case c3 => unfold maxLen; omega
        case c4 => omega
        case c5 => simp; omega
        intro v' wA hown' hgrow _
        rw [← HL.out] at hown'
        have HO' := Lib.hid hown'
        have HB' := Lib.hid (Below.grown (HB.out.alloc (by omega) _) hgrow (by simp; omega) (fun b hb => (HO.out.lt b hb).1))
        clear hown' hgrow HO HB
        go_wp2
        go_roundw
        case rel => exact ⟨k + 1, by omega, by go_num, HO'.out, HB'.out⟩
        case measure => simp [intOf]; omega
    · obtain rfl : k = 64 := by omega
      have HR := Lib.hid (Lib.hid (irow_own HO.out))
      have HG := Lib.hid ((HB.out.block (w.heap.size + 1) (by omega)).trans cz)
      have HB2 := Lib.hid (below_step HB.out hB1 hB1.size)
      clear HO HB cz hB1
      go_wp2_with fail
      refine (KT.out _ _ HR.out).mono ?_
      rintro e w2 ⟨rfl, hw2⟩
      have hg : w2.heap[w.heap.size + 1]? = some (.cells z 26 (0, 0)) := block_below0 hw2 HG.out
      have HB3 := Lib.hid (below_step hw2 HB2.out HB2.out.size)
      clear hw2 HG HB2
      go_wp2_with (refine wpl_store rfl 26 26 _ _ (w.heap.size + 1) z d rfl rfl rfl (by rw [hs.out]; exact infoTrace) (by rw [hs.out, hs0.out]) ho.out hg ?_)
      refine bodyPost_ret (v := .agg d) ?_ rfl ⟨rfl, below_setRow HB3.out d (by omega)⟩
      rw [results_cell1 (p := 4) (ty := 26) rfl]
      change (loadVar 26 ⟨w.heap.size + 1, 0, none⟩).run Try.prog _ = _
      exact run_loadVar_row _ _ 26 26 d (0, 0) _ (block_setRow hg) Try.underlying26 rfl (by rw [hs.out]; exact infoTrace)
end Go.Proofs.Ythgnemkfaiejbaa
