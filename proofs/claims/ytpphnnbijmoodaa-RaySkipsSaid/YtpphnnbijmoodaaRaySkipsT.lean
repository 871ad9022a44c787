/-
  SKIPS UNFOLD: RaySkips returns true.
-/
import Derived.Test.YtpphnnbijmoodaaRaySkips
set_option linter.unusedVariables false
set_option linter.unusedSimpArgs false
namespace Go.Proofs.Ytpphnnbijmoodaa
open Go.RowKit

theorem td_tu {p q v : Int} (hv : 1 ≤ v) (h : p ≤ q) : tdn p v ≤ tup q v := by
  have a := tdn_le (l := p) hv
  have b := le_tup (l := q) hv
  exact Int.le_of_mul_le_mul_right (by omega : tdn p v * v ≤ tup q v * v) (by omega)
theorem raySkips_any (m : Md) (fx fz tx tz : Int) (w : World) :
    Calls Try.prog 10 #[.agg #[.int .i64 m.Wedge, .int .i64 m.Metal, .int .i64 m.Skips, .int .i64 m.Thick, .int .i64 fx, .int .i64 fz, .int .i64 tx, .int .i64 tz]] w fun e w' => e = .returned (.bool true) ∧ Below w.heap.size w w' := by
  by_cases h : gE m fx fz tx tz = 0
  · obtain ⟨hm, hw⟩ := gE_zero.1 h
    clear h
    obtain ⟨V, M, Sk, T⟩ := m
    obtain ⟨S, rfl⟩ : ∃ S : Nat, Sk = (S : Int) := ⟨Sk.toNat, by have := hm.2.2.1.1; show Sk = _; have : 0 ≤ Sk := this; omega⟩
    have hx := okC_of hm hw
    have hu := unf_bd hm hw.2.2.2
    have hS4 : S ≤ 4 := by have : (S : Int) ≤ 4 := hm.2.2.1.2; omega
    have K4 : ∀ W, _ := fun W => Walls_ok ⟨V, M, (S : Int), T⟩ fx fz tx tz W hm hw
    rw [wls_fl] at K4
    have hb := ls_le hx
    refine raySkips_ok V M T fx fz tx tz (unf ⟨V, M, (S : Int), T⟩ tz) (lsL (crM ⟨V, M, (S : Int), T⟩ fx fz tx tz)) (lsH (crM ⟨V, M, (S : Int), T⟩ fx fz tx tz)) (lsL (crM (more ⟨V, M, (S : Int), T⟩) fx fz tx tz)) (if (S : Int) < 4 then lsH (crM (more ⟨V, M, (S : Int), T⟩) fx fz tx tz) else lsL (crM ⟨V, M, (S : Int), T⟩ fx fz tx tz)) (tdn (lLo (tx - fx) (unf ⟨V, M, (S : Int), T⟩ tz - fz)) M) (tup (lHi (tx - fx) (unf ⟨V, M, (S : Int), T⟩ tz - fz)) M) S _ w hS4 ?_ hu.2 ?_ ?_ hx.1 hx.2.1
      (Lib.hid fun W => LeastTime_ok _ fx fz tx tz W hm hw) ?_ (Lib.hid fun W => Unfolded_ok _ tz W hm hw.2.2.2) (Lib.hid K4) ?_
    · simp
    · split
      · rename_i h4; exact deeper_m hm hw h4
      · exact Int.le_refl _
    · refine Lib.hid fun k hk => ?_
      have e := wall_ok hm hw (j := k) (by show k < ((S : Int)).toNat; omega)
      have hk' : k < ((S : Int)).toNat := by omega
      rw [List.getElem?_map, List.getElem?_range hk']
      exact e
    · refine Lib.hid fun h4 W => ?_
      have := LeastTime_ok (more ⟨V, M, (S : Int), T⟩) fx fz tx tz W (ok_more hm h4) hw
      rw [if_pos h4]
      exact this
    · refine Lib.hid fun hV => ?_
      have o := one_speed hx (show (crM ⟨V, M, (S : Int), T⟩ fx fz tx tz).V1 = (crM ⟨V, M, (S : Int), T⟩ fx fz tx tz).V2 from hV) (by show -fz + unf ⟨V, M, (S : Int), T⟩ tz ≤ 200000; have := hw.1.2; omega)
      have e : (crM ⟨V, M, (S : Int), T⟩ fx fz tx tz).H1 + (crM ⟨V, M, (S : Int), T⟩ fx fz tx tz).H2 = unf ⟨V, M, (S : Int), T⟩ tz - fz := by show -fz + unf ⟨V, M, (S : Int), T⟩ tz = _; omega
      rw [e] at o
      have o1 : lsL (crM ⟨V, M, (S : Int), T⟩ fx fz tx tz) ≤ tup (lHi (tx - fx) (unf ⟨V, M, (S : Int), T⟩ tz - fz)) M := o.1
      have o2 : tdn (lLo (tx - fx) (unf ⟨V, M, (S : Int), T⟩ tz - fz)) M ≤ lsH (crM ⟨V, M, (S : Int), T⟩ fx fz tx tz) := o.2
      have hM : 500 ≤ M ∧ M ≤ 10000 := hm.2.1
      have p1 := hw.1
      have p2 := hw.2.1
      have o3 : tdn (lLo (tx - fx) (unf ⟨V, M, (S : Int), T⟩ tz - fz)) M ≤ tup (lHi (tx - fx) (unf ⟨V, M, (S : Int), T⟩ tz - fz)) M := td_tu (by omega) (lH_le (by omega) (by omega))
      refine ⟨by omega, fun W => ?_⟩
      exact timeOf_ok fx fz tx (unf ⟨V, M, (S : Int), T⟩ tz) M W (spE_zero.2 p1) (spE_zero.2 ⟨p2.1, by omega⟩) ((unl_zero (by decide)).2 (inB_iff.2 hM))
  · exact raySkips_err m fx fz tx tz _ w h (Lib.hid fun W => LeastTime_err m fx fz tx tz W h)
end Go.Proofs.Ytpphnnbijmoodaa
