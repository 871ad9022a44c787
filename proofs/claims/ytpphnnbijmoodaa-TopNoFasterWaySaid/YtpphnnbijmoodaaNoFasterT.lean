/-
  NO WAY IS FASTER: TopNoFasterWay returns true.
-/
import Derived.Test.YtpphnnbijmoodaaNoFaster
set_option linter.unusedVariables false
set_option linter.unusedSimpArgs false
namespace Go.Proofs.Ytpphnnbijmoodaa
open Go.RowKit

theorem leg_bd {a h v : Int} (ha : -200000 ≤ a ∧ a ≤ 200000) (hh : -200000 ≤ h ∧ h ≤ 200000) (hv : 500 ≤ v) : 0 ≤ tup (lHi a h) v ∧ tup (lHi a h) v ≤ 6000000101 := by
  have l := len_spec ha hh
  exact tup_bd (by omega) (by omega) hv
theorem alt_bd (k : Nat) {T : Int} (h : 2 ≤ T ∧ T ≤ 20000) : 0 ≤ alt k T ∧ alt k T ≤ 20000 := by unfold alt; split <;> omega
set_option maxRecDepth 100000 in
theorem topNoFasterWay_any (m : Md) (fx fz tx tz s q0 q1 q2 q3 : Int) (w : World) :
    Calls Try.prog 17 #[.agg #[.int .i64 m.Wedge, .int .i64 m.Metal, .int .i64 m.Skips, .int .i64 m.Thick, .int .i64 fx, .int .i64 fz, .int .i64 tx, .int .i64 tz], .int .i64 s, .agg #[.int .i64 q0, .int .i64 q1, .int .i64 q2, .int .i64 q3]] w fun e w' => e = .returned (.bool true) ∧ Below w.heap.size w w' := by
  by_cases h : gE m fx fz tx tz = 0
  · obtain ⟨hm, hw⟩ := gE_zero.1 h
    clear h
    obtain ⟨V, M, Sk, T⟩ := m
    obtain ⟨S, rfl⟩ : ∃ S : Nat, Sk = (S : Int) := ⟨Sk.toNat, by have := hm.2.2.1.1; show Sk = _; have : 0 ≤ Sk := this; omega⟩
    have hS4 : S ≤ 4 := by have : (S : Int) ≤ 4 := hm.2.2.1.2; omega
    have hV : 500 ≤ V ∧ V ≤ 10000 := hm.1
    have hM : 500 ≤ M ∧ M ≤ 10000 := hm.2.1
    have hT : 2 ≤ T ∧ T ≤ 20000 := hm.2.2.2
    cases hs : inB s (-50000) 50000
    · exact nf_far V M T fx fz tx tz _ _ s q0 q1 q2 q3 S w hS4 hs (Lib.hid fun W => LeastTime_ok ⟨V, M, (S : Int), T⟩ fx fz tx tz W hm hw)
    · have hs5 := inB_iff.1 hs
      have p1 := hw.1
      have p2 := hw.2.1
      have p3 : fz < 0 := hw.2.2.1
      have p4 : 1 ≤ tz ∧ tz ≤ T - 1 := hw.2.2.2
      have uM : unl (inB M 500 10000) 2 = 0 := (unl_zero (by decide)).2 (inB_iff.2 hM)
      exact nf_walk (fun p k A => Way0 fx (0 - fz) V M s p k T A) V M T fx fz tx tz _ _ s (fun n => [q0, q1, q2, q3].getD n 0) S w hS4 hs5 (tdn (lLo (s - fx) (0 - fz)) V) (tup (lHi (s - fx) (0 - fz)) V) (leg_bd (by omega) (by omega) hV.1)
        (Lib.hid way0_start) (Lib.hid fun W => LeastTime_ok ⟨V, M, (S : Int), T⟩ fx fz tx tz W hm hw)
        (Lib.hid fun W => timeOf_ok fx fz s 0 V W (spE_zero.2 p1) (spE_zero.2 ⟨by omega, by omega⟩) ((unl_zero (by decide)).2 (inB_iff.2 hV)))
        (Lib.hid fun k p r A hk hp hr hG => by
          have a1 := alt_bd k hT
          have a2 := alt_bd (k + 1) hT
          exact ⟨_, _, leg_bd (by omega) (by omega) hM.1, way0_step hG (by omega) hs5 hp hr hT hk, fun W => timeOf_ok p (alt k T) r (alt (k + 1) T) M W (spE_zero.2 ⟨by omega, by omega⟩) (spE_zero.2 ⟨by omega, by omega⟩) uM⟩)
        (Lib.hid fun p A hp hG => by
          have a1 := alt_bd S hT
          have g : lsL (crM ⟨V, M, (S : Int), T⟩ fx fz tx tz) ≤ A + tup (lHi (tx - p) (tz - alt S T)) M := way0_end (m := ⟨V, M, (S : Int), T⟩) hm hw (A := A) (p := p) (s := s) hG hs5 hp
          exact ⟨_, _, leg_bd (by omega) (by omega) hM.1, g, fun W => timeOf_ok p (alt S T) tx tz M W (spE_zero.2 ⟨by omega, by omega⟩) (spE_zero.2 p2) uM⟩)
  · exact nf_err m fx fz tx tz _ s q0 q1 q2 q3 w h (Lib.hid fun W => LeastTime_err m fx fz tx tz W h)
end Go.Proofs.Ytpphnnbijmoodaa
