/-
  TUNEUNEVEN: the walks.
-/
import Derived.Test.YtfgeeibfknieaaaSb
import Derived.Test.YtfgeeibfknieaaaAgE
import Derived.Test.YtfgeeibfknieaaaAgS
import Derived.Test.YtfgeeibfknieaaaLFr
import Derived.Test.YtfgeeibfknieaaaUA
set_option linter.unusedVariables false
set_option linter.unusedSimpArgs false
namespace Go.Proofs.Ytfgeeibfknieaaa
open Go Go.RowKit

open Ag
namespace Un
def size (m : Int) : Int := if IntKind.i64.wrap m < 0 then IntKind.i64.wrap (0 - IntKind.i64.wrap m) else IntKind.i64.wrap m
def E (l : List Int) (k : Nat) : Int := Sb.unl (Sb.inB (l.getD k 0) 0 1000000) 2
def p (l : List Int) (r s : Int) (k : Nat) : Bool := decide (IntKind.i64.wrap ((1000) * (size (l.getD k 0 - r))) > IntKind.i64.wrap (s * r))
def fl (p : Nat → Bool) : Nat → List Int
  | 0 => []
  | k + 1 => if p k then fl p k ++ [(k : Int)] else fl p k
theorem fl_len (p : Nat → Bool) : ∀ k, (fl p k).length ≤ k
  | 0 => Nat.le_refl _
  | k + 1 => by
    have := fl_len p k
    unfold fl
    split
    · simp; omega
    · omega
theorem fl_yes {p : Nat → Bool} {k : Nat} (h : p k = true) : fl p (k + 1) = fl p k ++ [(k : Int)] := by simp [fl, h]
theorem fl_no {p : Nat → Bool} {k : Nat} (h : p k = false) : fl p (k + 1) = fl p k := by simp [fl, h]
theorem wrap_succ {k : Nat} (h : k < 4611686018427387904) : Value.int .i64 (IntKind.i64.wrap (((k : Nat) : Int) + 1)) = .int .i64 (((k + 1 : Nat)) : Int) := by
  rw [IntWalk.i64_in _ (by omega)]; rfl
end Un
set_option maxRecDepth 100000 in
set_option maxHeartbeats 400000 in
theorem Un.size_p (m : Int) : CallOb Try.prog 29 #[.int .i64 (IntKind.i64.wrap (m))] [] (.int .i64 (Un.size (m))) := by
  intro w hw
  refine calls_aw [some (.int .i64 (IntKind.i64.wrap (m))), aU, aU, aU, aU, aU, aU, aU] [] Try.func29 rfl (by kernel_rfl) (fun e x h => by cases h) ?_
  refine aw_sr [⟨.pure, [], none, true⟩]
    (fun L1 => ⟨[some (.int .i64 (IntKind.i64.wrap (m))), aU, aI 0, aU, aU, aU, aU, aU], [], []⟩)
    (fun L1 => [])
    fol (by kernel_rfl) (fun _ => by kernel_rfl) (fun L1 => trivial) (fun L1 => ?_)
  refine aw_seq ?_
  refine aw_sr [⟨.pure, [], none, true⟩, ⟨.pure, [0], none, true⟩]
    (fun L2 => ⟨[some (.int .i64 (IntKind.i64.wrap (m))), aU, aI 0, some (.int .i64 (IntKind.i64.wrap (m))), some (.bool (decide ((IntKind.i64.wrap (m)) < 0))), aU, aU, aU], [], []⟩)
    (fun L2 => [])
    fol (by kernel_rfl) (fun _ => by kernel_rfl) (fun L2 => trivial) (fun L2 => ?_)
  refine aw_cond (decide ((IntKind.i64.wrap (m)) < 0)) rfl (fun h3 => ?_) (fun h3 => ?_)
  ·
    have h3' := of_decide_eq_true h3
    refine aw_sr [⟨.pure, [], none, true⟩, ⟨.pure, [0], none, true⟩, ⟨.pure, [0, 1], none, true⟩]
      (fun L4 => ⟨[some (.int .i64 (IntKind.i64.wrap (m))), aU, some (.int .i64 (IntKind.i64.wrap ((0) - (IntKind.i64.wrap (m))))), some (.int .i64 (IntKind.i64.wrap (m))), some (.bool (decide ((IntKind.i64.wrap (m)) < 0))), some (.int .i64 (IntKind.i64.wrap (m))), some (.int .i64 (IntKind.i64.wrap ((0) - (IntKind.i64.wrap (m))))), aU], [], []⟩)
      (fun L4 => [])
      fol (by kernel_rfl) (fun _ => by kernel_rfl) (fun L4 => trivial) (fun L4 => ?_)
    refine aw_ret ?_
    refine ret_thn ?_
    refine fin_ret none [0] (.int .i64 (IntKind.i64.wrap ((0) - (IntKind.i64.wrap (m))))) [] (.inr rfl) rfl (by kernel_rfl) trivial (fun w' hb => ?_)
    exact ⟨by simp_all [Un.size] <;> omega, hb⟩
  ·
    have h3' := of_decide_eq_false h3
    refine aw_skip ?_
    refine nrm_thn ?_
    refine aw_sr [⟨.pure, [], none, true⟩, ⟨.pure, [0], none, true⟩]
      (fun L5 => ⟨[some (.int .i64 (IntKind.i64.wrap (m))), aU, some (.int .i64 (IntKind.i64.wrap (m))), some (.int .i64 (IntKind.i64.wrap (m))), some (.bool (decide ((IntKind.i64.wrap (m)) < 0))), aU, aU, some (.int .i64 (IntKind.i64.wrap (m)))], [], []⟩)
      (fun L5 => [])
      fol (by kernel_rfl) (fun _ => by kernel_rfl) (fun L5 => trivial) (fun L5 => ?_)
    refine aw_ret ?_
    refine fin_ret none [0] (.int .i64 (IntKind.i64.wrap (m))) [] (.inr rfl) rfl (by kernel_rfl) trivial (fun w' hb => ?_)
    exact ⟨by simp_all [Un.size] <;> omega, hb⟩

theorem Un.size_max (m : Int) : (if (IntKind.i64.wrap ((0) - (IntKind.i64.wrap (m)))) > (IntKind.i64.wrap (m)) then (IntKind.i64.wrap ((0) - (IntKind.i64.wrap (m)))) else (IntKind.i64.wrap (m))) = Un.size m := by
  have h : -9223372036854775808 ≤ IntKind.i64.wrap m ∧ IntKind.i64.wrap m ≤ 9223372036854775807 := by rw [IntKind.wrap_i64]; omega
  unfold Un.size
  generalize IntKind.i64.wrap m = x at *
  by_cases h0 : x < 0
  · by_cases h1 : x = -9223372036854775808
    · subst h1; decide
    · rw [IntWalk.i64_in _ (by omega)]; split <;> (try split) <;> omega
  · rw [IntWalk.i64_in _ (by omega)]; split <;> (try split) <;> omega
set_option maxRecDepth 100000 in
set_option maxHeartbeats 400000 in
theorem Un.size_r (m : Int) : CallOb Try.prog 32 #[.int .i64 (IntKind.i64.wrap (m))] [] (.int .i64 (Un.size (m))) := by
  intro w hw
  refine calls_aw [some (.int .i64 (IntKind.i64.wrap (m))), aU, aU, aU, aU, aU, aU] [] Try.func32 rfl (by kernel_rfl) (fun e x h => by cases h) ?_
  refine aw_sr [⟨.pure, [], none, true⟩]
    (fun L1 => ⟨[some (.int .i64 (IntKind.i64.wrap (m))), aU, aI 0, aU, aU, aU, aU], [], []⟩)
    (fun L1 => [])
    fol (by kernel_rfl) (fun _ => by kernel_rfl) (fun L1 => trivial) (fun L1 => ?_)
  refine aw_sr [⟨.pure, [], none, true⟩, ⟨.pure, [], none, true⟩, ⟨.pure, [1], none, true⟩, ⟨.pure, [0, 1, 2], none, true⟩, ⟨.pure, [0, 1, 2, 3], none, true⟩]
    (fun L2 => ⟨[some (.int .i64 (IntKind.i64.wrap (m))), aU, some (.int .i64 (if (IntKind.i64.wrap ((0) - (IntKind.i64.wrap (m)))) > (IntKind.i64.wrap (m)) then (IntKind.i64.wrap ((0) - (IntKind.i64.wrap (m)))) else (IntKind.i64.wrap (m)))), some (.int .i64 (IntKind.i64.wrap (m))), some (.int .i64 (IntKind.i64.wrap (m))), some (.int .i64 (IntKind.i64.wrap ((0) - (IntKind.i64.wrap (m))))), some (.int .i64 (if (IntKind.i64.wrap ((0) - (IntKind.i64.wrap (m)))) > (IntKind.i64.wrap (m)) then (IntKind.i64.wrap ((0) - (IntKind.i64.wrap (m)))) else (IntKind.i64.wrap (m))))], [], []⟩)
    (fun L2 => [])
    fol (by kernel_rfl) (fun _ => by kernel_rfl) (fun L2 => trivial) (fun L2 => ?_)
  refine aw_ret ?_
  refine fin_ret none [0] (.int .i64 (if (IntKind.i64.wrap ((0) - (IntKind.i64.wrap (m)))) > (IntKind.i64.wrap (m)) then (IntKind.i64.wrap ((0) - (IntKind.i64.wrap (m)))) else (IntKind.i64.wrap (m)))) [] (.inr rfl) rfl (by kernel_rfl) trivial (fun w' hb => ?_)
  exact ⟨congrArg Ending.returned (congrArg (Value.int .i64) (Un.size_max m)), hb⟩

set_option maxRecDepth 100000 in
set_option maxHeartbeats 400000 in
theorem Un.echo_p (r : Int) : CallOb Try.prog 28 #[aN r] [] (.int .i64 (Sb.unl (Sb.inB (r) (1) (1000000)) 2)) := by
  intro w hw
  refine calls_aw [aI r, aU, aU, aU, aU] [] Try.func28 rfl (by kernel_rfl) (fun e x h => by cases h) ?_
  refine aw_sr [⟨.pure, [], none, true⟩]
    (fun L1 => ⟨[aI r, aU, aI 0, aU, aU], [], []⟩)
    (fun L1 => [])
    fol (by kernel_rfl) (fun _ => by kernel_rfl) (fun L1 => trivial) (fun L1 => ?_)
  refine aw_sr [⟨.pure, [], none, true⟩, ⟨(.call [] (.int .i64 (Sb.unl (Sb.inB (r) (1) (1000000)) 2))), [0], none, true⟩, ⟨.pure, [0, 1], none, true⟩]
    (fun L2 => ⟨[aI r, aU, some (.int .i64 (Sb.unl (Sb.inB (r) (1) (1000000)) 2)), aI r, some (.int .i64 (Sb.unl (Sb.inB (r) (1) (1000000)) 2))], [], []⟩)
    (fun L2 => [CallOb Try.prog 27 #[aN r, aN 1, aN 1000000] [] (.int .i64 (Sb.unl (Sb.inB (r) (1) (1000000)) 2))])
    fol (by kernel_rfl) (fun _ => by kernel_rfl) (fun L2 => ⟨(Sb.rangeError _ _ _), trivial⟩) (fun L2 => ?_)
  refine aw_ret ?_
  refine fin_ret none [0] (.int .i64 (Sb.unl (Sb.inB (r) (1) (1000000)) 2)) [] (.inr rfl) rfl (by kernel_rfl) trivial (fun w' hb => ?_)
  exact ⟨by simp_all [Sb.unl], hb⟩

set_option maxRecDepth 100000 in
set_option maxHeartbeats 400000 in
theorem Un.echo_r (r : Int) : CallOb Try.prog 31 #[aN r] [] (.int .i64 (Sb.unl (Sb.inB (r) (1) (1000000)) 2)) := by
  intro w hw
  refine calls_aw [aI r, aU, aU, aU, aU, aU] [] Try.func31 rfl (by kernel_rfl) (fun e x h => by cases h) ?_
  refine aw_sr [⟨.pure, [], none, true⟩]
    (fun L1 => ⟨[aI r, aU, aI 0, aU, aU, aU], [], []⟩)
    (fun L1 => [])
    fol (by kernel_rfl) (fun _ => by kernel_rfl) (fun L1 => trivial) (fun L1 => ?_)
  refine aw_seq ?_
  refine aw_sr [⟨.pure, [], none, true⟩, ⟨(.call [] (.bool (Sb.inB (r) (1) (1000000)))), [0], none, true⟩, ⟨.pure, [0, 1], none, true⟩]
    (fun L2 => ⟨[aI r, aU, aI 0, aI r, some (.bool (Sb.inB (r) (1) (1000000))), some (.bool (!(Sb.inB (r) (1) (1000000))))], [], []⟩)
    (fun L2 => [CallOb Try.prog 30 #[aN r, aN 1, aN 1000000] [] (.bool (Sb.inB (r) (1) (1000000)))])
    fol (by kernel_rfl) (fun _ => by kernel_rfl) (fun L2 => ⟨(Sb.withinR _ _ _), trivial⟩) (fun L2 => ?_)
  refine aw_cond (!(Sb.inB (r) (1) (1000000))) rfl (fun h3 => ?_) (fun h3 => ?_)
  ·
    refine aw_sr [⟨.pure, [], none, true⟩]
      (fun L4 => ⟨[aI r, aU, aI 2, aI r, some (.bool (Sb.inB (r) (1) (1000000))), some (.bool (!(Sb.inB (r) (1) (1000000))))], [], []⟩)
      (fun L4 => [])
      fol (by kernel_rfl) (fun _ => by kernel_rfl) (fun L4 => trivial) (fun L4 => ?_)
    refine aw_ret ?_
    refine ret_thn ?_
    refine fin_ret none [0] (aN 2) [] (.inr rfl) rfl (by kernel_rfl) trivial (fun w' hb => ?_)
    exact ⟨by simp_all [Sb.unl], hb⟩
  ·
    refine aw_skip ?_
    refine nrm_thn ?_
    refine aw_sr [⟨.pure, [], none, true⟩]
      (fun L5 => ⟨[aI r, aU, aI 0, aI r, some (.bool (Sb.inB (r) (1) (1000000))), some (.bool (!(Sb.inB (r) (1) (1000000))))], [], []⟩)
      (fun L5 => [])
      fol (by kernel_rfl) (fun _ => by kernel_rfl) (fun L5 => trivial) (fun L5 => ?_)
    refine aw_ret ?_
    refine fin_ret none [0] (aN 0) [] (.inr rfl) rfl (by kernel_rfl) trivial (fun w' hb => ?_)
    exact ⟨by simp_all [Sb.unl], hb⟩

set_option maxRecDepth 100000 in
set_option maxHeartbeats 400000 in
theorem Un.clo (g b cap : Nat) (u : List Int) (k : Nat) (hk : k < u.length) : CallOb Try.prog 26 #[.int .i64 (↑k), .pointer (some ⟨g, 0, none⟩)] [.blk (g) [.slice (some ⟨b, 0, none⟩) (u.length) (cap)] 31 false, .row (some ⟨b, 0, none⟩) (u.length) (cap) 1 (iv (u)) 3 false] (.int .i64 (Un.E (u) k)) := by
  intro w hw
  refine calls_aw [some (.int .i64 (↑k)), aP g 0, aU, aU, aU, aU, aU, aU, aU] [.blk (g) [.slice (some ⟨b, 0, none⟩) (u.length) (cap)] 31 false, .row (some ⟨b, 0, none⟩) (u.length) (cap) 1 (iv (u)) 3 false] Try.func26 rfl (by kernel_rfl) (esOk hw (by simp [Cel.mine])) ?_
  refine aw_sr [⟨.pure, [], none, true⟩]
    (fun L1 => ⟨[some (.int .i64 (↑k)), aP g 0, aU, aI 0, aU, aU, aU, aU, aU], [.blk (g) [.slice (some ⟨b, 0, none⟩) (u.length) (cap)] 31 false, .row (some ⟨b, 0, none⟩) (u.length) (cap) 1 (iv (u)) 3 false], []⟩)
    (fun L1 => [])
    fol (by kernel_rfl) (fun _ => by kernel_rfl) (fun L1 => trivial) (fun L1 => ?_)
  refine aw_sr [⟨(.read 0), [], none, true⟩, ⟨.pure, [], none, true⟩, ⟨.idx, [0, 1], some (.pointer (some ⟨b, k, none⟩)), true⟩, ⟨(.read 1), [0, 1, 2], some (.int .i64 ((u).getD k 0)), true⟩, ⟨(.call [] (.int .i64 (Sb.unl (Sb.inB ((u).getD k 0) (0) (1000000)) 2))), [0, 1, 2, 3], none, true⟩, ⟨.pure, [0, 1, 2, 3, 4], none, true⟩]
    (fun L2 => ⟨[some (.int .i64 (↑k)), aP g 0, aU, some (.int .i64 (Sb.unl (Sb.inB ((u).getD k 0) (0) (1000000)) 2)), some (.slice (some ⟨b, 0, none⟩) (u.length) (cap)), some (.int .i64 (↑k)), some (.pointer (some ⟨b, k, none⟩)), some (.int .i64 ((u).getD k 0)), some (.int .i64 (Sb.unl (Sb.inB ((u).getD k 0) (0) (1000000)) 2))], [.blk (g) [.slice (some ⟨b, 0, none⟩) (u.length) (cap)] 31 false, .row (some ⟨b, 0, none⟩) (u.length) (cap) 1 (iv (u)) 3 false], []⟩)
    (fun L2 => [g = g, (.pointer (some ⟨b, 0 + Int.toNat (↑k) * 1, none⟩) : Value) = .pointer (some ⟨b, k, none⟩), (0 : Int) ≤ ↑k, (↑k) < ((u.length : Nat) : Int), (.int .i64 ((u).getD k 0) : Value) = .int .i64 ((u).getD k 0), b = b, (iv (u))[k]? = some (.int .i64 ((u).getD k 0)), CallOb Try.prog 27 #[.int .i64 ((u).getD k 0), aN 0, aN 1000000] [] (.int .i64 (Sb.unl (Sb.inB ((u).getD k 0) (0) (1000000)) 2))])
    fol (by kernel_rfl) (fun _ => by kernel_rfl) (fun L2 => ⟨rfl, (ptr_eq (by simp <;> omega)), (by omega), (by omega), rfl, rfl, (iv_get (by omega)), (Sb.rangeError _ _ _), trivial⟩) (fun L2 => ?_)
  refine aw_ret ?_
  refine fin_ret none [0] (.int .i64 (Sb.unl (Sb.inB ((u).getD k 0) (0) (1000000)) 2)) [] (.inr rfl) rfl (by kernel_rfl) trivial (fun w' hb => ?_)
  exact ⟨rfl, hb⟩

theorem Un.fi_step {E : Nat → Int} {n k : Nat} (hk : k < n) (h : (E k != 0) = false) : fi E (n - k) k = fi E (n - (k + 1)) (k + 1) := by
  rw [show n - k = (n - (k + 1)) + 1 by omega]
  simp only [fi, h, Bool.false_eq_true, if_false]
theorem Un.fi_here {E : Nat → Int} {n k : Nat} (hk : k < n) (h : (E k != 0) = true) : fi E (n - k) k = ((k : Int), E k) := by
  rw [show n - k = (n - (k + 1)) + 1 by omega]
  simp only [fi, h, if_true]
set_option maxRecDepth 100000 in
set_option maxHeartbeats 400000 in
theorem Un.firstIn (g b cap : Nat) (u : List Int) (hl : u.length ≤ 16) : CallOb Try.prog 25 #[.int .i64 (((u.length : Nat) : Int)), .func (.func 26) #[] #[.pointer (some ⟨g, 0, none⟩)]] [.blk (g) [.slice (some ⟨b, 0, none⟩) (u.length) (cap)] 31 false, .row (some ⟨b, 0, none⟩) (u.length) (cap) 1 (iv (u)) 3 false] (.tuple #[.int .i64 ((fi (Un.E u) u.length 0).1), .int .i64 ((fi (Un.E u) u.length 0).2)]) := by
  intro w hw
  refine calls_aw [some (.int .i64 (((u.length : Nat) : Int))), some (.func (.func 26) #[] #[.pointer (some ⟨g, 0, none⟩)]), aU, aU, aU, aU, aU, aU, aU, aU, aU, aU, aU, aU, aU, aU, aU, aU, aU, aU] [.blk (g) [.slice (some ⟨b, 0, none⟩) (u.length) (cap)] 31 false, .row (some ⟨b, 0, none⟩) (u.length) (cap) 1 (iv (u)) 3 false] Try.func25 rfl (by kernel_rfl) (esOk hw (by simp [Cel.mine])) ?_
  refine aw_sr [⟨.pure, [], none, true⟩, ⟨.pure, [0], none, true⟩]
    (fun L1 => ⟨[some (.int .i64 (((u.length : Nat) : Int))), some (.func (.func 26) #[] #[.pointer (some ⟨g, 0, none⟩)]), aU, aU, aI 0, aI 0, aU, aU, aU, aU, aU, aU, aU, aU, aU, aU, aU, aU, aU, aU], [.blk (g) [.slice (some ⟨b, 0, none⟩) (u.length) (cap)] 31 false, .row (some ⟨b, 0, none⟩) (u.length) (cap) 1 (iv (u)) 3 false], []⟩)
    (fun L1 => [])
    fol (by kernel_rfl) (fun _ => by kernel_rfl) (fun L1 => trivial) (fun L1 => ?_)
  refine aw_seq ?_
  refine aw_sr [⟨.pure, [], none, true⟩, ⟨.pure, [], none, true⟩]
    (fun L2 => ⟨[some (.int .i64 (((u.length : Nat) : Int))), some (.func (.func 26) #[] #[.pointer (some ⟨g, 0, none⟩)]), aU, aU, aI 0, aI 0, aU, aU, some (.int .i64 (((u.length : Nat) : Int))), aI 0, aU, aU, aU, aU, aU, aU, aU, aU, aU, aU], [.blk (g) [.slice (some ⟨b, 0, none⟩) (u.length) (cap)] 31 false, .row (some ⟨b, 0, none⟩) (u.length) (cap) 1 (iv (u)) 3 false], []⟩)
    (fun L2 => [])
    fol (by kernel_rfl) (fun _ => by kernel_rfl) (fun L2 => trivial) (fun L2 => ?_)
  refine aw_block ?_
  refine aw_loop (ι := {i : Ix // i.k ≤ u.length ∧ (fi (Un.E u) u.length 0 = fi (Un.E u) (u.length - i.k) i.k)}) (fun i => ⟨[some (.int .i64 (((u.length : Nat) : Int))), some (.func (.func 26) #[] #[.pointer (some ⟨g, 0, none⟩)]), aU, aU, aI 0, aI 0, none, none, some (.int .i64 (((u.length : Nat) : Int))), some (.int .i64 (((i.1.k : Nat) : Int))), none, none, none, none, none, none, none, none, none, none], [.blk (g) [.slice (some ⟨b, 0, none⟩) (u.length) (cap)] 31 false, .row (some ⟨b, 0, none⟩) (u.length) (cap) 1 (iv (u)) 3 false], []⟩) (fun i => u.length - i.1.k) ⟨⟨0, none, 0⟩, Nat.zero_le _, rfl⟩ (weak_to [true, true, true, true, true, true, false, false, true, true, false, false, false, false, false, false, false, false, false, false] [0, 1] (by decide) (by kernel_rfl)) ?_
  rintro ⟨⟨k, a, c⟩, hkn, hk⟩
  show Aw _ _ _ _ ⟨[some (.int .i64 (((u.length : Nat) : Int))), some (.func (.func 26) #[] #[.pointer (some ⟨g, 0, none⟩)]), aU, aU, aI 0, aI 0, none, none, some (.int .i64 (((u.length : Nat) : Int))), some (.int .i64 (↑k)), none, none, none, none, none, none, none, none, none, none], [.blk (g) [.slice (some ⟨b, 0, none⟩) (u.length) (cap)] 31 false, .row (some ⟨b, 0, none⟩) (u.length) (cap) 1 (iv (u)) 3 false], []⟩ _
  simp only at hk hkn
  refine aw_sr [⟨.pure, [], none, true⟩]
    (fun L3 => ⟨[some (.int .i64 (((u.length : Nat) : Int))), some (.func (.func 26) #[] #[.pointer (some ⟨g, 0, none⟩)]), aU, aU, aI 0, aI 0, none, none, some (.int .i64 (((u.length : Nat) : Int))), some (.int .i64 (↑k)), some (.bool (decide (↑k < (((u.length : Nat) : Int))))), none, none, none, none, none, none, none, none, none], [.blk (g) [.slice (some ⟨b, 0, none⟩) (u.length) (cap)] 31 false, .row (some ⟨b, 0, none⟩) (u.length) (cap) 1 (iv (u)) 3 false], []⟩)
    (fun L3 => [])
    fol (by kernel_rfl) (fun _ => by kernel_rfl) (fun L3 => trivial) (fun L3 => ?_)
  refine aw_seq ?_
  refine aw_cond (decide (↑k < (((u.length : Nat) : Int)))) rfl (fun h4 => ?_) (fun h4 => ?_)
  ·
    have h4' := of_decide_eq_true h4
    refine aw_skip ?_
    refine nrm_thn ?_
    refine aw_seq ?_
    refine aw_block ?_
    refine aw_sr [⟨.pure, [], none, true⟩, ⟨.pure, [0], none, true⟩]
      (fun L5 => ⟨[some (.int .i64 (((u.length : Nat) : Int))), some (.func (.func 26) #[] #[.pointer (some ⟨g, 0, none⟩)]), aU, aU, aI 0, aI 0, some (.int .i64 (↑k)), none, some (.int .i64 (((u.length : Nat) : Int))), some (.int .i64 (↑k)), some (.bool (decide (↑k < (((u.length : Nat) : Int))))), some (.int .i64 (↑k)), none, none, none, none, none, none, none, none], [.blk (g) [.slice (some ⟨b, 0, none⟩) (u.length) (cap)] 31 false, .row (some ⟨b, 0, none⟩) (u.length) (cap) 1 (iv (u)) 3 false], []⟩)
      (fun L5 => [])
      fol (by kernel_rfl) (fun _ => by kernel_rfl) (fun L5 => trivial) (fun L5 => ?_)
    refine aw_sr [⟨.pure, [], none, true⟩, ⟨.pure, [], none, true⟩, ⟨(.call [0, 1] (.int .i64 (Un.E (u) k))), [0, 1], none, true⟩, ⟨.pure, [0, 1, 2], none, true⟩]
      (fun L6 => ⟨[some (.int .i64 (((u.length : Nat) : Int))), some (.func (.func 26) #[] #[.pointer (some ⟨g, 0, none⟩)]), aU, aU, aI 0, aI 0, some (.int .i64 (↑k)), some (.int .i64 (Un.E (u) k)), some (.int .i64 (((u.length : Nat) : Int))), some (.int .i64 (↑k)), some (.bool (decide (↑k < (((u.length : Nat) : Int))))), some (.int .i64 (↑k)), some (.func (.func 26) #[] #[.pointer (some ⟨g, 0, none⟩)]), some (.int .i64 (↑k)), some (.int .i64 (Un.E (u) k)), none, none, none, none, none], [.blk (g) [.slice (some ⟨b, 0, none⟩) (u.length) (cap)] 31 false, .row (some ⟨b, 0, none⟩) (u.length) (cap) 1 (iv (u)) 3 false], []⟩)
      (fun L6 => [CallOb Try.prog 26 #[.int .i64 (↑k), .pointer (some ⟨g, 0, none⟩)] [.blk (g) [.slice (some ⟨b, 0, none⟩) (u.length) (cap)] 31 false, .row (some ⟨b, 0, none⟩) (u.length) (cap) 1 (iv (u)) 3 false] (.int .i64 (Un.E (u) k))])
      fol (by kernel_rfl) (fun _ => by kernel_rfl) (fun L6 => ⟨((callOb_frz (Un.clo _ _ _ u _ (by omega)))), trivial⟩) (fun L6 => ?_)
    refine aw_sr [⟨.pure, [], none, true⟩, ⟨.pure, [0], none, true⟩]
      (fun L7 => ⟨[some (.int .i64 (((u.length : Nat) : Int))), some (.func (.func 26) #[] #[.pointer (some ⟨g, 0, none⟩)]), aU, aU, aI 0, aI 0, some (.int .i64 (↑k)), some (.int .i64 (Un.E (u) k)), some (.int .i64 (((u.length : Nat) : Int))), some (.int .i64 (↑k)), some (.bool (decide (↑k < (((u.length : Nat) : Int))))), some (.int .i64 (↑k)), some (.func (.func 26) #[] #[.pointer (some ⟨g, 0, none⟩)]), some (.int .i64 (↑k)), some (.int .i64 (Un.E (u) k)), some (.int .i64 (Un.E (u) k)), some (.bool ((Un.E (u) k) != (0))), none, none, none], [.blk (g) [.slice (some ⟨b, 0, none⟩) (u.length) (cap)] 31 false, .row (some ⟨b, 0, none⟩) (u.length) (cap) 1 (iv (u)) 3 false], []⟩)
      (fun L7 => [])
      fol (by kernel_rfl) (fun _ => by kernel_rfl) (fun L7 => trivial) (fun L7 => ?_)
    refine aw_cond ((Un.E (u) k) != (0)) rfl (fun h8 => ?_) (fun h8 => ?_)
    ·
      refine aw_sr [⟨.pure, [], none, true⟩, ⟨.pure, [], none, true⟩, ⟨.pure, [0], none, true⟩, ⟨.pure, [0, 1, 2], none, true⟩]
        (fun L9 => ⟨[some (.int .i64 (((u.length : Nat) : Int))), some (.func (.func 26) #[] #[.pointer (some ⟨g, 0, none⟩)]), aU, aU, some (.int .i64 (↑k)), some (.int .i64 (Un.E (u) k)), some (.int .i64 (↑k)), some (.int .i64 (Un.E (u) k)), some (.int .i64 (((u.length : Nat) : Int))), some (.int .i64 (↑k)), some (.bool (decide (↑k < (((u.length : Nat) : Int))))), some (.int .i64 (↑k)), some (.func (.func 26) #[] #[.pointer (some ⟨g, 0, none⟩)]), some (.int .i64 (↑k)), some (.int .i64 (Un.E (u) k)), some (.int .i64 (Un.E (u) k)), some (.bool ((Un.E (u) k) != (0))), some (.int .i64 (↑k)), some (.int .i64 (Un.E (u) k)), none], [.blk (g) [.slice (some ⟨b, 0, none⟩) (u.length) (cap)] 31 false, .row (some ⟨b, 0, none⟩) (u.length) (cap) 1 (iv (u)) 3 false], []⟩)
        (fun L9 => [])
        fol (by kernel_rfl) (fun _ => by kernel_rfl) (fun L9 => trivial) (fun L9 => ?_)
      refine aw_ret ?_
      refine ret_inB ?_
      refine ret_thn ?_
      refine ret_thn ?_
      refine ret_inB ?_
      refine ret_thn ?_
      refine fin_ret none [0, 0] (.tuple #[.int .i64 (↑k), .int .i64 (Un.E (u) k)]) [] (.inr rfl) rfl (by kernel_rfl) trivial (fun w' hb => ?_)
      exact ⟨by first | rw [hk, Un.fi_here (by omega) (by assumption)] | (rw [hk, show u.length - k = 0 by omega]; rfl), hb⟩
    ·
      refine aw_skip ?_
      refine nrm_inB ?_
      refine nrm_thn ?_
      refine aw_region [⟨.pure, [], some (.int .i64 (↑(k + 1))), true⟩, ⟨.pure, [0], none, true⟩]
        (fun L10 => ⟨[some (.int .i64 (((u.length : Nat) : Int))), some (.func (.func 26) #[] #[.pointer (some ⟨g, 0, none⟩)]), aU, aU, aI 0, aI 0, some (.int .i64 (↑k)), some (.int .i64 (Un.E (u) k)), some (.int .i64 (((u.length : Nat) : Int))), some (.int .i64 (↑(k + 1))), some (.bool (decide (↑k < (((u.length : Nat) : Int))))), some (.int .i64 (↑k)), some (.func (.func 26) #[] #[.pointer (some ⟨g, 0, none⟩)]), some (.int .i64 (↑k)), some (.int .i64 (Un.E (u) k)), some (.int .i64 (Un.E (u) k)), some (.bool ((Un.E (u) k) != (0))), none, none, some (.int .i64 (↑(k + 1)))], [.blk (g) [.slice (some ⟨b, 0, none⟩) (u.length) (cap)] 31 false, .row (some ⟨b, 0, none⟩) (u.length) (cap) 1 (iv (u)) 3 false], []⟩)
        (fun L10 => [(.int .i64 (IntKind.i64.wrap ((↑k) + (1))) : Value) = .int .i64 (↑(k + 1))])
        fol (by kernel_rfl) (fun _ => by kernel_rfl) (fun L10 => ⟨(Un.wrap_succ (by omega)), trivial⟩) (fun L10 => ?_)
      refine nrm_thn ?_
      refine ⟨⟨⟨k + 1, none, 0⟩, by simp only; omega, by first | exact True.intro | (simp only; rw [hk]; exact Un.fi_step (by omega) h8)⟩, ?_, by simp only; omega⟩
      show Weak ⟨[some (.int .i64 (((u.length : Nat) : Int))), some (.func (.func 26) #[] #[.pointer (some ⟨g, 0, none⟩)]), aU, aU, aI 0, aI 0, some (.int .i64 (↑k)), some (.int .i64 (Un.E (u) k)), some (.int .i64 (((u.length : Nat) : Int))), some (.int .i64 (↑(k + 1))), some (.bool (decide (↑k < (((u.length : Nat) : Int))))), some (.int .i64 (↑k)), some (.func (.func 26) #[] #[.pointer (some ⟨g, 0, none⟩)]), some (.int .i64 (↑k)), some (.int .i64 (Un.E (u) k)), some (.int .i64 (Un.E (u) k)), some (.bool ((Un.E (u) k) != (0))), none, none, some (.int .i64 (↑(k + 1)))], [.blk (g) [.slice (some ⟨b, 0, none⟩) (u.length) (cap)] 31 false, .row (some ⟨b, 0, none⟩) (u.length) (cap) 1 (iv (u)) 3 false], []⟩ ⟨[some (.int .i64 (((u.length : Nat) : Int))), some (.func (.func 26) #[] #[.pointer (some ⟨g, 0, none⟩)]), aU, aU, aI 0, aI 0, none, none, some (.int .i64 (((u.length : Nat) : Int))), some (.int .i64 ((((k + 1) : Nat) : Int))), none, none, none, none, none, none, none, none, none, none], [.blk (g) [.slice (some ⟨b, 0, none⟩) (u.length) (cap)] 31 false, .row (some ⟨b, 0, none⟩) (u.length) (cap) 1 (iv (u)) 3 false], []⟩
      exact weak_to [true, true, true, true, true, true, false, false, true, true, false, false, false, false, false, false, false, false, false, false] [0, 1] (by decide) (by kernel_rfl)
  ·
    have h4' := of_decide_eq_false h4
    refine aw_exit ?_
    refine ex_thn ?_
    refine ex_thn ?_
    refine ex_hit ?_
    refine nrm_thn ?_
    refine aw_sr [⟨.pure, [], none, true⟩, ⟨.pure, [0], none, true⟩]
      (fun L11 => ⟨[some (.int .i64 (((u.length : Nat) : Int))), some (.func (.func 26) #[] #[.pointer (some ⟨g, 0, none⟩)]), aU, aU, aI 0, aI 0, none, none, some (.int .i64 (((u.length : Nat) : Int))), some (.int .i64 (↑k)), some (.bool (decide (↑k < (((u.length : Nat) : Int))))), none, none, none, none, none, none, none, none, none], [.blk (g) [.slice (some ⟨b, 0, none⟩) (u.length) (cap)] 31 false, .row (some ⟨b, 0, none⟩) (u.length) (cap) 1 (iv (u)) 3 false], []⟩)
      (fun L11 => [])
      fol (by kernel_rfl) (fun _ => by kernel_rfl) (fun L11 => trivial) (fun L11 => ?_)
    refine aw_ret ?_
    refine fin_ret none [0, 0] (.tuple #[aN 0, aN 0]) [] (.inr rfl) rfl (by kernel_rfl) trivial (fun w' hb => ?_)
    exact ⟨by first | rw [hk, Un.fi_here (by omega) (by assumption)] | (rw [hk, show u.length - k = 0 by omega]; rfl), hb⟩

set_option maxRecDepth 100000 in
set_option maxHeartbeats 400000 in
theorem Un.uneven1 (b cap : Nat) (u : List Int) (r s : Int) (hl : decide ((((u.length : Nat) : Int)) > 16) = true) : CallOb Try.prog 8 #[.slice (some ⟨b, 0, none⟩) (u.length) (cap), aN r, aN s] [.row (some ⟨b, 0, none⟩) (u.length) (cap) 1 (iv (u)) 3 false] (.tuple #[.slice none 0 0, aN 8]) := by
  intro w hw
  refine calls_aw [some (.slice (some ⟨b, 0, none⟩) (u.length) (cap)), aI r, aI s, aU, aU, aU, aU, aU, aU, aU, aU, aU, aU, aU, aU, aU, aU, aU, aU, aU, aU, aU, aU, aU, aU, aU, aU, aU, aU, aU, aU, aU, aU, aU, aU, aU, aU, aU, aU, aU, aU, aU, aU, aU, aU, aU, aU, aU, aU, aU, aU, aU, aU, aU, aU] [.row (some ⟨b, 0, none⟩) (u.length) (cap) 1 (iv (u)) 3 false] Try.func8 rfl (by kernel_rfl) (esOk hw (by simp [Cel.mine])) ?_
  refine aw_sr [⟨.new, [], none, true⟩, ⟨.pure, [], none, true⟩, ⟨.pure, [1], none, true⟩]
    (fun L1 => ⟨[some (.slice (some ⟨b, 0, none⟩) (u.length) (cap)), aI r, aI s, aP (L1 0).b 0, aU, aU, some (.slice none 0 0), aI 0, aU, aU, aU, aU, aU, aU, aU, aU, aU, aU, aU, aU, aU, aU, aU, aU, aU, aU, aU, aU, aU, aU, aU, aU, aU, aU, aU, aU, aU, aU, aU, aU, aU, aU, aU, aU, aU, aU, aU, aU, aU, aU, aU, aU, aU, aU, aU], [.row (some ⟨b, 0, none⟩) (u.length) (cap) 1 (iv (u)) 3 false, .blk ((L1 0).b) [.slice (some ⟨b, 0, none⟩) (u.length) (cap)] 31 true], []⟩)
    (fun L1 => [])
    fol (by kernel_rfl) (fun _ => by kernel_rfl) (fun L1 => trivial) (fun L1 => ?_)
  refine aw_seq ?_
  refine aw_sr [⟨(.read 1), [], none, true⟩, ⟨.pure, [0], none, true⟩, ⟨.pure, [0, 1], none, true⟩]
    (fun L2 => ⟨[some (.slice (some ⟨b, 0, none⟩) (u.length) (cap)), aI r, aI s, aP (L1 0).b 0, aU, aU, some (.slice none 0 0), aI 0, aU, aU, aU, aU, aU, some (.slice (some ⟨b, 0, none⟩) (u.length) (cap)), some (.int .i64 (((u.length : Nat) : Int))), some (.bool (decide ((((u.length : Nat) : Int)) > 16))), aU, aU, aU, aU, aU, aU, aU, aU, aU, aU, aU, aU, aU, aU, aU, aU, aU, aU, aU, aU, aU, aU, aU, aU, aU, aU, aU, aU, aU, aU, aU, aU, aU, aU, aU, aU, aU, aU, aU], [.row (some ⟨b, 0, none⟩) (u.length) (cap) 1 (iv (u)) 3 false, .blk ((L1 0).b) [.slice (some ⟨b, 0, none⟩) (u.length) (cap)] 31 true], []⟩)
    (fun L2 => [(L1 0).b = (L1 0).b])
    fol (by kernel_rfl) (fun _ => by kernel_rfl) (fun L2 => ⟨rfl, trivial⟩) (fun L2 => ?_)
  refine aw_true (decide ((((u.length : Nat) : Int)) > 16)) rfl hl ?_
  refine aw_sr [⟨.pure, [], none, true⟩, ⟨.pure, [0], none, true⟩]
    (fun L3 => ⟨[some (.slice (some ⟨b, 0, none⟩) (u.length) (cap)), aI r, aI s, aP (L1 0).b 0, aU, aU, some (.slice none 0 0), aI 8, aU, aU, aU, aU, aU, some (.slice (some ⟨b, 0, none⟩) (u.length) (cap)), some (.int .i64 (((u.length : Nat) : Int))), some (.bool (decide ((((u.length : Nat) : Int)) > 16))), aU, aU, aU, aU, aU, aU, aU, aU, aU, aU, aU, aU, aU, aU, aU, aU, aU, aU, aU, aU, aU, aU, aU, aU, aU, aU, aU, aU, aU, aU, aU, aU, aU, aU, aU, aU, aU, aU, aU], [.row (some ⟨b, 0, none⟩) (u.length) (cap) 1 (iv (u)) 3 false, .blk ((L1 0).b) [.slice (some ⟨b, 0, none⟩) (u.length) (cap)] 31 true], []⟩)
    (fun L3 => [])
    fol (by kernel_rfl) (fun _ => by kernel_rfl) (fun L3 => trivial) (fun L3 => ?_)
  refine aw_ret ?_
  refine ret_thn ?_
  refine fin_ret none [0, 0] (.tuple #[.slice none 0 0, aN 8]) [] (.inr rfl) rfl (by kernel_rfl) trivial (fun w' hb => ?_)
  exact ⟨rfl, hb⟩

set_option maxRecDepth 100000 in
set_option maxHeartbeats 400000 in
theorem Un.uneven2 (b cap : Nat) (u : List Int) (r s : Int) (hl : u.length ≤ 16) (hL : decide ((((u.length : Nat) : Int)) > 16) = false) (hE : (Sb.frst [(fi (Un.E u) u.length 0).2, Sb.unl (Sb.inB (r) (1) (1000000)) 2, Sb.unl (Sb.inB (s) (0) (1000)) 2] != 0) = true) : CallOb Try.prog 8 #[.slice (some ⟨b, 0, none⟩) (u.length) (cap), aN r, aN s] [.row (some ⟨b, 0, none⟩) (u.length) (cap) 1 (iv (u)) 3 false] (.tuple #[.slice none 0 0, .int .i64 (Sb.frst [(fi (Un.E u) u.length 0).2, Sb.unl (Sb.inB (r) (1) (1000000)) 2, Sb.unl (Sb.inB (s) (0) (1000)) 2])]) := by
  intro w hw
  refine calls_aw [some (.slice (some ⟨b, 0, none⟩) (u.length) (cap)), aI r, aI s, aU, aU, aU, aU, aU, aU, aU, aU, aU, aU, aU, aU, aU, aU, aU, aU, aU, aU, aU, aU, aU, aU, aU, aU, aU, aU, aU, aU, aU, aU, aU, aU, aU, aU, aU, aU, aU, aU, aU, aU, aU, aU, aU, aU, aU, aU, aU, aU, aU, aU, aU, aU] [.row (some ⟨b, 0, none⟩) (u.length) (cap) 1 (iv (u)) 3 false] Try.func8 rfl (by kernel_rfl) (esOk hw (by simp [Cel.mine])) ?_
  refine aw_sr [⟨.new, [], none, true⟩, ⟨.pure, [], none, true⟩, ⟨.pure, [1], none, true⟩]
    (fun L1 => ⟨[some (.slice (some ⟨b, 0, none⟩) (u.length) (cap)), aI r, aI s, aP (L1 0).b 0, aU, aU, some (.slice none 0 0), aI 0, aU, aU, aU, aU, aU, aU, aU, aU, aU, aU, aU, aU, aU, aU, aU, aU, aU, aU, aU, aU, aU, aU, aU, aU, aU, aU, aU, aU, aU, aU, aU, aU, aU, aU, aU, aU, aU, aU, aU, aU, aU, aU, aU, aU, aU, aU, aU], [.row (some ⟨b, 0, none⟩) (u.length) (cap) 1 (iv (u)) 3 false, .blk ((L1 0).b) [.slice (some ⟨b, 0, none⟩) (u.length) (cap)] 31 true], []⟩)
    (fun L1 => [])
    fol (by kernel_rfl) (fun _ => by kernel_rfl) (fun L1 => trivial) (fun L1 => ?_)
  refine aw_seq ?_
  refine aw_sr [⟨(.read 1), [], none, true⟩, ⟨.pure, [0], none, true⟩, ⟨.pure, [0, 1], none, true⟩]
    (fun L2 => ⟨[some (.slice (some ⟨b, 0, none⟩) (u.length) (cap)), aI r, aI s, aP (L1 0).b 0, aU, aU, some (.slice none 0 0), aI 0, aU, aU, aU, aU, aU, some (.slice (some ⟨b, 0, none⟩) (u.length) (cap)), some (.int .i64 (((u.length : Nat) : Int))), some (.bool (decide ((((u.length : Nat) : Int)) > 16))), aU, aU, aU, aU, aU, aU, aU, aU, aU, aU, aU, aU, aU, aU, aU, aU, aU, aU, aU, aU, aU, aU, aU, aU, aU, aU, aU, aU, aU, aU, aU, aU, aU, aU, aU, aU, aU, aU, aU], [.row (some ⟨b, 0, none⟩) (u.length) (cap) 1 (iv (u)) 3 false, .blk ((L1 0).b) [.slice (some ⟨b, 0, none⟩) (u.length) (cap)] 31 true], []⟩)
    (fun L2 => [(L1 0).b = (L1 0).b])
    fol (by kernel_rfl) (fun _ => by kernel_rfl) (fun L2 => ⟨rfl, trivial⟩) (fun L2 => ?_)
  refine aw_false (decide ((((u.length : Nat) : Int)) > 16)) rfl hL ?_
  refine aw_skip ?_
  refine nrm_thn ?_
  refine aw_sr [⟨(.read 1), [], none, true⟩, ⟨.pure, [0], none, true⟩, ⟨.pure, [], none, true⟩, ⟨(.call [1, 0] (.tuple #[.int .i64 ((fi (Un.E u) u.length 0).1), .int .i64 ((fi (Un.E u) u.length 0).2)])), [0, 1, 2], none, true⟩, ⟨.pure, [0, 1, 2, 3], none, true⟩, ⟨.pure, [0, 1, 2, 3, 4], none, true⟩, ⟨.pure, [0, 1, 2, 3, 4], none, true⟩, ⟨.pure, [0, 1, 2, 3, 4, 5], none, true⟩, ⟨.pure, [0, 1, 2, 3, 4, 5, 6, 7], none, true⟩]
    (fun L3 => ⟨[some (.slice (some ⟨b, 0, none⟩) (u.length) (cap)), aI r, aI s, aP (L1 0).b 0, aU, aU, some (.slice none 0 0), aI 0, some (.int .i64 ((fi (Un.E u) u.length 0).1)), some (.int .i64 ((fi (Un.E u) u.length 0).2)), aU, aU, aU, some (.slice (some ⟨b, 0, none⟩) (u.length) (cap)), some (.int .i64 (((u.length : Nat) : Int))), some (.bool (decide ((((u.length : Nat) : Int)) > 16))), some (.tuple #[.int .i64 ((fi (Un.E u) u.length 0).1), .int .i64 ((fi (Un.E u) u.length 0).2)]), some (.slice (some ⟨b, 0, none⟩) (u.length) (cap)), some (.int .i64 (((u.length : Nat) : Int))), some (.func (.func 26) #[] #[.pointer (some ⟨(L1 0).b, 0, none⟩)]), some (.tuple #[.int .i64 ((fi (Un.E u) u.length 0).1), .int .i64 ((fi (Un.E u) u.length 0).2)]), some (.int .i64 ((fi (Un.E u) u.length 0).1)), some (.int .i64 ((fi (Un.E u) u.length 0).2)), aU, aU, aU, aU, aU, aU, aU, aU, aU, aU, aU, aU, aU, aU, aU, aU, aU, aU, aU, aU, aU, aU, aU, aU, aU, aU, aU, aU, aU, aU, aU, aU], [.row (some ⟨b, 0, none⟩) (u.length) (cap) 1 (iv (u)) 3 false, .blk ((L1 0).b) [.slice (some ⟨b, 0, none⟩) (u.length) (cap)] 31 true], []⟩)
    (fun L3 => [(L1 0).b = (L1 0).b, CallOb Try.prog 25 #[.int .i64 (((u.length : Nat) : Int)), .func (.func 26) #[] #[.pointer (some ⟨(L1 0).b, 0, none⟩)]] [.blk ((L1 0).b) [.slice (some ⟨b, 0, none⟩) (u.length) (cap)] 31 true, .row (some ⟨b, 0, none⟩) (u.length) (cap) 1 (iv (u)) 3 false] (.tuple #[.int .i64 ((fi (Un.E u) u.length 0).1), .int .i64 ((fi (Un.E u) u.length 0).2)])])
    fol (by kernel_rfl) (fun _ => by kernel_rfl) (fun L3 => ⟨rfl, ((callOb_frz (Un.firstIn _ _ _ u (by omega)))), trivial⟩) (fun L3 => ?_)
  refine aw_seq ?_
  refine aw_sr [⟨.pure, [], none, true⟩, ⟨.pure, [], none, true⟩, ⟨(.call [] (.int .i64 (Sb.unl (Sb.inB (r) (1) (1000000)) 2))), [1], none, true⟩, ⟨.pure, [], none, true⟩, ⟨(.call [] (.int .i64 (Sb.unl (Sb.inB (s) (0) (1000)) 2))), [1, 2, 3], none, true⟩, ⟨.new, [0, 1, 2, 3, 4], none, true⟩, ⟨(.call [7] (.int .i64 (Sb.frst [(fi (Un.E u) u.length 0).2, Sb.unl (Sb.inB (r) (1) (1000000)) 2, Sb.unl (Sb.inB (s) (0) (1000)) 2]))), [0, 1, 2, 3, 4, 5], none, true⟩, ⟨.pure, [0, 1, 2, 3, 4, 5, 6], none, true⟩]
    (fun L4 => ⟨[some (.slice (some ⟨b, 0, none⟩) (u.length) (cap)), aI r, aI s, aP (L1 0).b 0, aU, aU, some (.slice none 0 0), aI 0, some (.int .i64 ((fi (Un.E u) u.length 0).1)), some (.int .i64 (Sb.frst [(fi (Un.E u) u.length 0).2, Sb.unl (Sb.inB (r) (1) (1000000)) 2, Sb.unl (Sb.inB (s) (0) (1000)) 2])), aU, aU, aU, some (.slice (some ⟨b, 0, none⟩) (u.length) (cap)), some (.int .i64 (((u.length : Nat) : Int))), some (.bool (decide ((((u.length : Nat) : Int)) > 16))), some (.tuple #[.int .i64 ((fi (Un.E u) u.length 0).1), .int .i64 ((fi (Un.E u) u.length 0).2)]), some (.slice (some ⟨b, 0, none⟩) (u.length) (cap)), some (.int .i64 (((u.length : Nat) : Int))), some (.func (.func 26) #[] #[.pointer (some ⟨(L1 0).b, 0, none⟩)]), some (.tuple #[.int .i64 ((fi (Un.E u) u.length 0).1), .int .i64 ((fi (Un.E u) u.length 0).2)]), some (.int .i64 ((fi (Un.E u) u.length 0).1)), some (.int .i64 ((fi (Un.E u) u.length 0).2)), some (.int .i64 ((fi (Un.E u) u.length 0).2)), aI r, some (.int .i64 (Sb.unl (Sb.inB (r) (1) (1000000)) 2)), aI s, some (.int .i64 (Sb.unl (Sb.inB (s) (0) (1000)) 2)), aS (L4 5).b 0 3 3, some (.int .i64 (Sb.frst [(fi (Un.E u) u.length 0).2, Sb.unl (Sb.inB (r) (1) (1000000)) 2, Sb.unl (Sb.inB (s) (0) (1000)) 2])), aU, aU, aU, aU, aU, aU, aU, aU, aU, aU, aU, aU, aU, aU, aU, aU, aU, aU, aU, aU, aU, aU, aU, aU, aU], [.row (some ⟨b, 0, none⟩) (u.length) (cap) 1 (iv (u)) 3 false, .blk ((L1 0).b) [.slice (some ⟨b, 0, none⟩) (u.length) (cap)] 31 true, .blk ((L4 5).b) [.int .i64 ((fi (Un.E u) u.length 0).2), .int .i64 (Sb.unl (Sb.inB (r) (1) (1000000)) 2), .int .i64 (Sb.unl (Sb.inB (s) (0) (1000)) 2)] 25 true], []⟩)
    (fun L4 => [CallOb Try.prog 28 #[aN r] [] (.int .i64 (Sb.unl (Sb.inB (r) (1) (1000000)) 2)), CallOb Try.prog 27 #[aN s, aN 0, aN 1000] [] (.int .i64 (Sb.unl (Sb.inB (s) (0) (1000)) 2)), CallOb Try.prog 18 #[.slice (some ⟨(L4 5).b, 0, none⟩) (3) (3)] [.blk ((L4 5).b) [.int .i64 ((fi (Un.E u) u.length 0).2), .int .i64 (Sb.unl (Sb.inB (r) (1) (1000000)) 2), .int .i64 (Sb.unl (Sb.inB (s) (0) (1000)) 2)] 25 true] (.int .i64 (Sb.frst [(fi (Un.E u) u.length 0).2, Sb.unl (Sb.inB (r) (1) (1000000)) 2, Sb.unl (Sb.inB (s) (0) (1000)) 2]))])
    fol (by kernel_rfl) (fun _ => by kernel_rfl) (fun L4 => ⟨(Un.echo_p _), (Sb.rangeError _ _ _), (callOb_frz (Sb.firstOf3 _ _ _ _)), trivial⟩) (fun L4 => ?_)
  refine aw_sr [⟨.pure, [], none, true⟩, ⟨.pure, [0], none, true⟩]
    (fun L5 => ⟨[some (.slice (some ⟨b, 0, none⟩) (u.length) (cap)), aI r, aI s, aP (L1 0).b 0, aU, aU, some (.slice none 0 0), aI 0, some (.int .i64 ((fi (Un.E u) u.length 0).1)), some (.int .i64 (Sb.frst [(fi (Un.E u) u.length 0).2, Sb.unl (Sb.inB (r) (1) (1000000)) 2, Sb.unl (Sb.inB (s) (0) (1000)) 2])), aU, aU, aU, some (.slice (some ⟨b, 0, none⟩) (u.length) (cap)), some (.int .i64 (((u.length : Nat) : Int))), some (.bool (decide ((((u.length : Nat) : Int)) > 16))), some (.tuple #[.int .i64 ((fi (Un.E u) u.length 0).1), .int .i64 ((fi (Un.E u) u.length 0).2)]), some (.slice (some ⟨b, 0, none⟩) (u.length) (cap)), some (.int .i64 (((u.length : Nat) : Int))), some (.func (.func 26) #[] #[.pointer (some ⟨(L1 0).b, 0, none⟩)]), some (.tuple #[.int .i64 ((fi (Un.E u) u.length 0).1), .int .i64 ((fi (Un.E u) u.length 0).2)]), some (.int .i64 ((fi (Un.E u) u.length 0).1)), some (.int .i64 ((fi (Un.E u) u.length 0).2)), some (.int .i64 ((fi (Un.E u) u.length 0).2)), aI r, some (.int .i64 (Sb.unl (Sb.inB (r) (1) (1000000)) 2)), aI s, some (.int .i64 (Sb.unl (Sb.inB (s) (0) (1000)) 2)), aS (L4 5).b 0 3 3, some (.int .i64 (Sb.frst [(fi (Un.E u) u.length 0).2, Sb.unl (Sb.inB (r) (1) (1000000)) 2, Sb.unl (Sb.inB (s) (0) (1000)) 2])), some (.int .i64 (Sb.frst [(fi (Un.E u) u.length 0).2, Sb.unl (Sb.inB (r) (1) (1000000)) 2, Sb.unl (Sb.inB (s) (0) (1000)) 2])), some (.bool ((Sb.frst [(fi (Un.E u) u.length 0).2, Sb.unl (Sb.inB (r) (1) (1000000)) 2, Sb.unl (Sb.inB (s) (0) (1000)) 2]) != (0))), aU, aU, aU, aU, aU, aU, aU, aU, aU, aU, aU, aU, aU, aU, aU, aU, aU, aU, aU, aU, aU, aU, aU], [.row (some ⟨b, 0, none⟩) (u.length) (cap) 1 (iv (u)) 3 false, .blk ((L1 0).b) [.slice (some ⟨b, 0, none⟩) (u.length) (cap)] 31 true, .blk ((L4 5).b) [.int .i64 ((fi (Un.E u) u.length 0).2), .int .i64 (Sb.unl (Sb.inB (r) (1) (1000000)) 2), .int .i64 (Sb.unl (Sb.inB (s) (0) (1000)) 2)] 25 true], []⟩)
    (fun L5 => [])
    fol (by kernel_rfl) (fun _ => by kernel_rfl) (fun L5 => trivial) (fun L5 => ?_)
  refine aw_true ((Sb.frst [(fi (Un.E u) u.length 0).2, Sb.unl (Sb.inB (r) (1) (1000000)) 2, Sb.unl (Sb.inB (s) (0) (1000)) 2]) != (0)) rfl hE ?_
  refine aw_sr [⟨.pure, [], none, true⟩, ⟨.pure, [], none, true⟩, ⟨.pure, [0, 1], none, true⟩]
    (fun L6 => ⟨[some (.slice (some ⟨b, 0, none⟩) (u.length) (cap)), aI r, aI s, aP (L1 0).b 0, aU, aU, some (.slice none 0 0), some (.int .i64 (Sb.frst [(fi (Un.E u) u.length 0).2, Sb.unl (Sb.inB (r) (1) (1000000)) 2, Sb.unl (Sb.inB (s) (0) (1000)) 2])), some (.int .i64 ((fi (Un.E u) u.length 0).1)), some (.int .i64 (Sb.frst [(fi (Un.E u) u.length 0).2, Sb.unl (Sb.inB (r) (1) (1000000)) 2, Sb.unl (Sb.inB (s) (0) (1000)) 2])), aU, aU, aU, some (.slice (some ⟨b, 0, none⟩) (u.length) (cap)), some (.int .i64 (((u.length : Nat) : Int))), some (.bool (decide ((((u.length : Nat) : Int)) > 16))), some (.tuple #[.int .i64 ((fi (Un.E u) u.length 0).1), .int .i64 ((fi (Un.E u) u.length 0).2)]), some (.slice (some ⟨b, 0, none⟩) (u.length) (cap)), some (.int .i64 (((u.length : Nat) : Int))), some (.func (.func 26) #[] #[.pointer (some ⟨(L1 0).b, 0, none⟩)]), some (.tuple #[.int .i64 ((fi (Un.E u) u.length 0).1), .int .i64 ((fi (Un.E u) u.length 0).2)]), some (.int .i64 ((fi (Un.E u) u.length 0).1)), some (.int .i64 ((fi (Un.E u) u.length 0).2)), some (.int .i64 ((fi (Un.E u) u.length 0).2)), aI r, some (.int .i64 (Sb.unl (Sb.inB (r) (1) (1000000)) 2)), aI s, some (.int .i64 (Sb.unl (Sb.inB (s) (0) (1000)) 2)), aS (L4 5).b 0 3 3, some (.int .i64 (Sb.frst [(fi (Un.E u) u.length 0).2, Sb.unl (Sb.inB (r) (1) (1000000)) 2, Sb.unl (Sb.inB (s) (0) (1000)) 2])), some (.int .i64 (Sb.frst [(fi (Un.E u) u.length 0).2, Sb.unl (Sb.inB (r) (1) (1000000)) 2, Sb.unl (Sb.inB (s) (0) (1000)) 2])), some (.bool ((Sb.frst [(fi (Un.E u) u.length 0).2, Sb.unl (Sb.inB (r) (1) (1000000)) 2, Sb.unl (Sb.inB (s) (0) (1000)) 2]) != (0))), some (.int .i64 (Sb.frst [(fi (Un.E u) u.length 0).2, Sb.unl (Sb.inB (r) (1) (1000000)) 2, Sb.unl (Sb.inB (s) (0) (1000)) 2])), aU, aU, aU, aU, aU, aU, aU, aU, aU, aU, aU, aU, aU, aU, aU, aU, aU, aU, aU, aU, aU, aU], [.row (some ⟨b, 0, none⟩) (u.length) (cap) 1 (iv (u)) 3 false, .blk ((L1 0).b) [.slice (some ⟨b, 0, none⟩) (u.length) (cap)] 31 true, .blk ((L4 5).b) [.int .i64 ((fi (Un.E u) u.length 0).2), .int .i64 (Sb.unl (Sb.inB (r) (1) (1000000)) 2), .int .i64 (Sb.unl (Sb.inB (s) (0) (1000)) 2)] 25 true], []⟩)
    (fun L6 => [])
    fol (by kernel_rfl) (fun _ => by kernel_rfl) (fun L6 => trivial) (fun L6 => ?_)
  refine aw_ret ?_
  refine ret_thn ?_
  refine fin_ret none [0, 0] (.tuple #[.slice none 0 0, .int .i64 (Sb.frst [(fi (Un.E u) u.length 0).2, Sb.unl (Sb.inB (r) (1) (1000000)) 2, Sb.unl (Sb.inB (s) (0) (1000)) 2])]) [] (.inr rfl) rfl (by kernel_rfl) trivial (fun w' hb => ?_)
  exact ⟨rfl, hb⟩

set_option maxRecDepth 100000 in
set_option maxHeartbeats 400000 in
theorem Un.uneven3 (b cap : Nat) (u : List Int) (r s : Int) (hl : u.length ≤ 16) (hL : decide ((((u.length : Nat) : Int)) > 16) = false) (hE : (Sb.frst [(fi (Un.E u) u.length 0).2, Sb.unl (Sb.inB (r) (1) (1000000)) 2, Sb.unl (Sb.inB (s) (0) (1000)) 2] != 0) = false) : CallN Try.prog 8 #[.slice (some ⟨b, 0, none⟩) (u.length) (cap), aN r, aN s] [.row (some ⟨b, 0, none⟩) (u.length) (cap) 1 (iv (u)) 3 false] (fun l => .tuple #[.slice (l.a) ((Un.fl (Un.p u r s) u.length).length) (l.n), aN 0]) (fun l => .row (l.a) ((Un.fl (Un.p u r s) u.length).length) (l.n) 1 (iv (Un.fl (Un.p u r s) u.length)) 3 true) := by
  intro w hw
  refine calls_aw [some (.slice (some ⟨b, 0, none⟩) (u.length) (cap)), aI r, aI s, aU, aU, aU, aU, aU, aU, aU, aU, aU, aU, aU, aU, aU, aU, aU, aU, aU, aU, aU, aU, aU, aU, aU, aU, aU, aU, aU, aU, aU, aU, aU, aU, aU, aU, aU, aU, aU, aU, aU, aU, aU, aU, aU, aU, aU, aU, aU, aU, aU, aU, aU, aU] [.row (some ⟨b, 0, none⟩) (u.length) (cap) 1 (iv (u)) 3 false] Try.func8 rfl (by kernel_rfl) (esOk hw (by simp [Cel.mine])) ?_
  refine aw_sr [⟨.new, [], none, true⟩, ⟨.pure, [], none, true⟩, ⟨.pure, [1], none, true⟩]
    (fun L1 => ⟨[some (.slice (some ⟨b, 0, none⟩) (u.length) (cap)), aI r, aI s, aP (L1 0).b 0, aU, aU, some (.slice none 0 0), aI 0, aU, aU, aU, aU, aU, aU, aU, aU, aU, aU, aU, aU, aU, aU, aU, aU, aU, aU, aU, aU, aU, aU, aU, aU, aU, aU, aU, aU, aU, aU, aU, aU, aU, aU, aU, aU, aU, aU, aU, aU, aU, aU, aU, aU, aU, aU, aU], [.row (some ⟨b, 0, none⟩) (u.length) (cap) 1 (iv (u)) 3 false, .blk ((L1 0).b) [.slice (some ⟨b, 0, none⟩) (u.length) (cap)] 31 true], []⟩)
    (fun L1 => [])
    fol (by kernel_rfl) (fun _ => by kernel_rfl) (fun L1 => trivial) (fun L1 => ?_)
  refine aw_seq ?_
  refine aw_sr [⟨(.read 1), [], none, true⟩, ⟨.pure, [0], none, true⟩, ⟨.pure, [0, 1], none, true⟩]
    (fun L2 => ⟨[some (.slice (some ⟨b, 0, none⟩) (u.length) (cap)), aI r, aI s, aP (L1 0).b 0, aU, aU, some (.slice none 0 0), aI 0, aU, aU, aU, aU, aU, some (.slice (some ⟨b, 0, none⟩) (u.length) (cap)), some (.int .i64 (((u.length : Nat) : Int))), some (.bool (decide ((((u.length : Nat) : Int)) > 16))), aU, aU, aU, aU, aU, aU, aU, aU, aU, aU, aU, aU, aU, aU, aU, aU, aU, aU, aU, aU, aU, aU, aU, aU, aU, aU, aU, aU, aU, aU, aU, aU, aU, aU, aU, aU, aU, aU, aU], [.row (some ⟨b, 0, none⟩) (u.length) (cap) 1 (iv (u)) 3 false, .blk ((L1 0).b) [.slice (some ⟨b, 0, none⟩) (u.length) (cap)] 31 true], []⟩)
    (fun L2 => [(L1 0).b = (L1 0).b])
    fol (by kernel_rfl) (fun _ => by kernel_rfl) (fun L2 => ⟨rfl, trivial⟩) (fun L2 => ?_)
  refine aw_false (decide ((((u.length : Nat) : Int)) > 16)) rfl hL ?_
  refine aw_skip ?_
  refine nrm_thn ?_
  refine aw_sr [⟨(.read 1), [], none, true⟩, ⟨.pure, [0], none, true⟩, ⟨.pure, [], none, true⟩, ⟨(.call [1, 0] (.tuple #[.int .i64 ((fi (Un.E u) u.length 0).1), .int .i64 ((fi (Un.E u) u.length 0).2)])), [0, 1, 2], none, true⟩, ⟨.pure, [0, 1, 2, 3], none, true⟩, ⟨.pure, [0, 1, 2, 3, 4], none, true⟩, ⟨.pure, [0, 1, 2, 3, 4], none, true⟩, ⟨.pure, [0, 1, 2, 3, 4, 5], none, true⟩, ⟨.pure, [0, 1, 2, 3, 4, 5, 6, 7], none, true⟩]
    (fun L3 => ⟨[some (.slice (some ⟨b, 0, none⟩) (u.length) (cap)), aI r, aI s, aP (L1 0).b 0, aU, aU, some (.slice none 0 0), aI 0, some (.int .i64 ((fi (Un.E u) u.length 0).1)), some (.int .i64 ((fi (Un.E u) u.length 0).2)), aU, aU, aU, some (.slice (some ⟨b, 0, none⟩) (u.length) (cap)), some (.int .i64 (((u.length : Nat) : Int))), some (.bool (decide ((((u.length : Nat) : Int)) > 16))), some (.tuple #[.int .i64 ((fi (Un.E u) u.length 0).1), .int .i64 ((fi (Un.E u) u.length 0).2)]), some (.slice (some ⟨b, 0, none⟩) (u.length) (cap)), some (.int .i64 (((u.length : Nat) : Int))), some (.func (.func 26) #[] #[.pointer (some ⟨(L1 0).b, 0, none⟩)]), some (.tuple #[.int .i64 ((fi (Un.E u) u.length 0).1), .int .i64 ((fi (Un.E u) u.length 0).2)]), some (.int .i64 ((fi (Un.E u) u.length 0).1)), some (.int .i64 ((fi (Un.E u) u.length 0).2)), aU, aU, aU, aU, aU, aU, aU, aU, aU, aU, aU, aU, aU, aU, aU, aU, aU, aU, aU, aU, aU, aU, aU, aU, aU, aU, aU, aU, aU, aU, aU, aU], [.row (some ⟨b, 0, none⟩) (u.length) (cap) 1 (iv (u)) 3 false, .blk ((L1 0).b) [.slice (some ⟨b, 0, none⟩) (u.length) (cap)] 31 true], []⟩)
    (fun L3 => [(L1 0).b = (L1 0).b, CallOb Try.prog 25 #[.int .i64 (((u.length : Nat) : Int)), .func (.func 26) #[] #[.pointer (some ⟨(L1 0).b, 0, none⟩)]] [.blk ((L1 0).b) [.slice (some ⟨b, 0, none⟩) (u.length) (cap)] 31 true, .row (some ⟨b, 0, none⟩) (u.length) (cap) 1 (iv (u)) 3 false] (.tuple #[.int .i64 ((fi (Un.E u) u.length 0).1), .int .i64 ((fi (Un.E u) u.length 0).2)])])
    fol (by kernel_rfl) (fun _ => by kernel_rfl) (fun L3 => ⟨rfl, ((callOb_frz (Un.firstIn _ _ _ u (by omega)))), trivial⟩) (fun L3 => ?_)
  refine aw_seq ?_
  refine aw_sr [⟨.pure, [], none, true⟩, ⟨.pure, [], none, true⟩, ⟨(.call [] (.int .i64 (Sb.unl (Sb.inB (r) (1) (1000000)) 2))), [1], none, true⟩, ⟨.pure, [], none, true⟩, ⟨(.call [] (.int .i64 (Sb.unl (Sb.inB (s) (0) (1000)) 2))), [1, 2, 3], none, true⟩, ⟨.new, [0, 1, 2, 3, 4], none, true⟩, ⟨(.call [7] (.int .i64 (Sb.frst [(fi (Un.E u) u.length 0).2, Sb.unl (Sb.inB (r) (1) (1000000)) 2, Sb.unl (Sb.inB (s) (0) (1000)) 2]))), [0, 1, 2, 3, 4, 5], none, true⟩, ⟨.pure, [0, 1, 2, 3, 4, 5, 6], none, true⟩]
    (fun L4 => ⟨[some (.slice (some ⟨b, 0, none⟩) (u.length) (cap)), aI r, aI s, aP (L1 0).b 0, aU, aU, some (.slice none 0 0), aI 0, some (.int .i64 ((fi (Un.E u) u.length 0).1)), some (.int .i64 (Sb.frst [(fi (Un.E u) u.length 0).2, Sb.unl (Sb.inB (r) (1) (1000000)) 2, Sb.unl (Sb.inB (s) (0) (1000)) 2])), aU, aU, aU, some (.slice (some ⟨b, 0, none⟩) (u.length) (cap)), some (.int .i64 (((u.length : Nat) : Int))), some (.bool (decide ((((u.length : Nat) : Int)) > 16))), some (.tuple #[.int .i64 ((fi (Un.E u) u.length 0).1), .int .i64 ((fi (Un.E u) u.length 0).2)]), some (.slice (some ⟨b, 0, none⟩) (u.length) (cap)), some (.int .i64 (((u.length : Nat) : Int))), some (.func (.func 26) #[] #[.pointer (some ⟨(L1 0).b, 0, none⟩)]), some (.tuple #[.int .i64 ((fi (Un.E u) u.length 0).1), .int .i64 ((fi (Un.E u) u.length 0).2)]), some (.int .i64 ((fi (Un.E u) u.length 0).1)), some (.int .i64 ((fi (Un.E u) u.length 0).2)), some (.int .i64 ((fi (Un.E u) u.length 0).2)), aI r, some (.int .i64 (Sb.unl (Sb.inB (r) (1) (1000000)) 2)), aI s, some (.int .i64 (Sb.unl (Sb.inB (s) (0) (1000)) 2)), aS (L4 5).b 0 3 3, some (.int .i64 (Sb.frst [(fi (Un.E u) u.length 0).2, Sb.unl (Sb.inB (r) (1) (1000000)) 2, Sb.unl (Sb.inB (s) (0) (1000)) 2])), aU, aU, aU, aU, aU, aU, aU, aU, aU, aU, aU, aU, aU, aU, aU, aU, aU, aU, aU, aU, aU, aU, aU, aU, aU], [.row (some ⟨b, 0, none⟩) (u.length) (cap) 1 (iv (u)) 3 false, .blk ((L1 0).b) [.slice (some ⟨b, 0, none⟩) (u.length) (cap)] 31 true, .blk ((L4 5).b) [.int .i64 ((fi (Un.E u) u.length 0).2), .int .i64 (Sb.unl (Sb.inB (r) (1) (1000000)) 2), .int .i64 (Sb.unl (Sb.inB (s) (0) (1000)) 2)] 25 true], []⟩)
    (fun L4 => [CallOb Try.prog 28 #[aN r] [] (.int .i64 (Sb.unl (Sb.inB (r) (1) (1000000)) 2)), CallOb Try.prog 27 #[aN s, aN 0, aN 1000] [] (.int .i64 (Sb.unl (Sb.inB (s) (0) (1000)) 2)), CallOb Try.prog 18 #[.slice (some ⟨(L4 5).b, 0, none⟩) (3) (3)] [.blk ((L4 5).b) [.int .i64 ((fi (Un.E u) u.length 0).2), .int .i64 (Sb.unl (Sb.inB (r) (1) (1000000)) 2), .int .i64 (Sb.unl (Sb.inB (s) (0) (1000)) 2)] 25 true] (.int .i64 (Sb.frst [(fi (Un.E u) u.length 0).2, Sb.unl (Sb.inB (r) (1) (1000000)) 2, Sb.unl (Sb.inB (s) (0) (1000)) 2]))])
    fol (by kernel_rfl) (fun _ => by kernel_rfl) (fun L4 => ⟨(Un.echo_p _), (Sb.rangeError _ _ _), (callOb_frz (Sb.firstOf3 _ _ _ _)), trivial⟩) (fun L4 => ?_)
  refine aw_sr [⟨.pure, [], none, true⟩, ⟨.pure, [0], none, true⟩]
    (fun L5 => ⟨[some (.slice (some ⟨b, 0, none⟩) (u.length) (cap)), aI r, aI s, aP (L1 0).b 0, aU, aU, some (.slice none 0 0), aI 0, some (.int .i64 ((fi (Un.E u) u.length 0).1)), some (.int .i64 (Sb.frst [(fi (Un.E u) u.length 0).2, Sb.unl (Sb.inB (r) (1) (1000000)) 2, Sb.unl (Sb.inB (s) (0) (1000)) 2])), aU, aU, aU, some (.slice (some ⟨b, 0, none⟩) (u.length) (cap)), some (.int .i64 (((u.length : Nat) : Int))), some (.bool (decide ((((u.length : Nat) : Int)) > 16))), some (.tuple #[.int .i64 ((fi (Un.E u) u.length 0).1), .int .i64 ((fi (Un.E u) u.length 0).2)]), some (.slice (some ⟨b, 0, none⟩) (u.length) (cap)), some (.int .i64 (((u.length : Nat) : Int))), some (.func (.func 26) #[] #[.pointer (some ⟨(L1 0).b, 0, none⟩)]), some (.tuple #[.int .i64 ((fi (Un.E u) u.length 0).1), .int .i64 ((fi (Un.E u) u.length 0).2)]), some (.int .i64 ((fi (Un.E u) u.length 0).1)), some (.int .i64 ((fi (Un.E u) u.length 0).2)), some (.int .i64 ((fi (Un.E u) u.length 0).2)), aI r, some (.int .i64 (Sb.unl (Sb.inB (r) (1) (1000000)) 2)), aI s, some (.int .i64 (Sb.unl (Sb.inB (s) (0) (1000)) 2)), aS (L4 5).b 0 3 3, some (.int .i64 (Sb.frst [(fi (Un.E u) u.length 0).2, Sb.unl (Sb.inB (r) (1) (1000000)) 2, Sb.unl (Sb.inB (s) (0) (1000)) 2])), some (.int .i64 (Sb.frst [(fi (Un.E u) u.length 0).2, Sb.unl (Sb.inB (r) (1) (1000000)) 2, Sb.unl (Sb.inB (s) (0) (1000)) 2])), some (.bool ((Sb.frst [(fi (Un.E u) u.length 0).2, Sb.unl (Sb.inB (r) (1) (1000000)) 2, Sb.unl (Sb.inB (s) (0) (1000)) 2]) != (0))), aU, aU, aU, aU, aU, aU, aU, aU, aU, aU, aU, aU, aU, aU, aU, aU, aU, aU, aU, aU, aU, aU, aU], [.row (some ⟨b, 0, none⟩) (u.length) (cap) 1 (iv (u)) 3 false, .blk ((L1 0).b) [.slice (some ⟨b, 0, none⟩) (u.length) (cap)] 31 true, .blk ((L4 5).b) [.int .i64 ((fi (Un.E u) u.length 0).2), .int .i64 (Sb.unl (Sb.inB (r) (1) (1000000)) 2), .int .i64 (Sb.unl (Sb.inB (s) (0) (1000)) 2)] 25 true], []⟩)
    (fun L5 => [])
    fol (by kernel_rfl) (fun _ => by kernel_rfl) (fun L5 => trivial) (fun L5 => ?_)
  refine aw_false ((Sb.frst [(fi (Un.E u) u.length 0).2, Sb.unl (Sb.inB (r) (1) (1000000)) 2, Sb.unl (Sb.inB (s) (0) (1000)) 2]) != (0)) rfl hE ?_
  refine aw_skip ?_
  refine nrm_thn ?_
  refine aw_sr [⟨.pure, [], none, true⟩]
    (fun L6 => ⟨[some (.slice (some ⟨b, 0, none⟩) (u.length) (cap)), aI r, aI s, aP (L1 0).b 0, aU, aU, some (.slice none 0 0), aI 0, some (.int .i64 ((fi (Un.E u) u.length 0).1)), some (.int .i64 (Sb.frst [(fi (Un.E u) u.length 0).2, Sb.unl (Sb.inB (r) (1) (1000000)) 2, Sb.unl (Sb.inB (s) (0) (1000)) 2])), some (.slice none 0 0), aU, aU, some (.slice (some ⟨b, 0, none⟩) (u.length) (cap)), some (.int .i64 (((u.length : Nat) : Int))), some (.bool (decide ((((u.length : Nat) : Int)) > 16))), some (.tuple #[.int .i64 ((fi (Un.E u) u.length 0).1), .int .i64 ((fi (Un.E u) u.length 0).2)]), some (.slice (some ⟨b, 0, none⟩) (u.length) (cap)), some (.int .i64 (((u.length : Nat) : Int))), some (.func (.func 26) #[] #[.pointer (some ⟨(L1 0).b, 0, none⟩)]), some (.tuple #[.int .i64 ((fi (Un.E u) u.length 0).1), .int .i64 ((fi (Un.E u) u.length 0).2)]), some (.int .i64 ((fi (Un.E u) u.length 0).1)), some (.int .i64 ((fi (Un.E u) u.length 0).2)), some (.int .i64 ((fi (Un.E u) u.length 0).2)), aI r, some (.int .i64 (Sb.unl (Sb.inB (r) (1) (1000000)) 2)), aI s, some (.int .i64 (Sb.unl (Sb.inB (s) (0) (1000)) 2)), aS (L4 5).b 0 3 3, some (.int .i64 (Sb.frst [(fi (Un.E u) u.length 0).2, Sb.unl (Sb.inB (r) (1) (1000000)) 2, Sb.unl (Sb.inB (s) (0) (1000)) 2])), some (.int .i64 (Sb.frst [(fi (Un.E u) u.length 0).2, Sb.unl (Sb.inB (r) (1) (1000000)) 2, Sb.unl (Sb.inB (s) (0) (1000)) 2])), some (.bool ((Sb.frst [(fi (Un.E u) u.length 0).2, Sb.unl (Sb.inB (r) (1) (1000000)) 2, Sb.unl (Sb.inB (s) (0) (1000)) 2]) != (0))), aU, aU, aU, aU, aU, aU, aU, aU, aU, aU, aU, aU, aU, aU, aU, aU, aU, aU, aU, aU, aU, aU, aU], [.row (some ⟨b, 0, none⟩) (u.length) (cap) 1 (iv (u)) 3 false, .blk ((L1 0).b) [.slice (some ⟨b, 0, none⟩) (u.length) (cap)] 31 true, .blk ((L4 5).b) [.int .i64 ((fi (Un.E u) u.length 0).2), .int .i64 (Sb.unl (Sb.inB (r) (1) (1000000)) 2), .int .i64 (Sb.unl (Sb.inB (s) (0) (1000)) 2)] 25 true], []⟩)
    (fun L6 => [])
    fol (by kernel_rfl) (fun _ => by kernel_rfl) (fun L6 => trivial) (fun L6 => ?_)
  refine aw_seq ?_
  refine aw_sr [⟨(.read 1), [], none, true⟩, ⟨.pure, [0], none, true⟩, ⟨.pure, [], none, true⟩]
    (fun L7 => ⟨[some (.slice (some ⟨b, 0, none⟩) (u.length) (cap)), aI r, aI s, aP (L1 0).b 0, aU, aU, some (.slice none 0 0), aI 0, some (.int .i64 ((fi (Un.E u) u.length 0).1)), some (.int .i64 (Sb.frst [(fi (Un.E u) u.length 0).2, Sb.unl (Sb.inB (r) (1) (1000000)) 2, Sb.unl (Sb.inB (s) (0) (1000)) 2])), some (.slice none 0 0), aU, aU, some (.slice (some ⟨b, 0, none⟩) (u.length) (cap)), some (.int .i64 (((u.length : Nat) : Int))), some (.bool (decide ((((u.length : Nat) : Int)) > 16))), some (.tuple #[.int .i64 ((fi (Un.E u) u.length 0).1), .int .i64 ((fi (Un.E u) u.length 0).2)]), some (.slice (some ⟨b, 0, none⟩) (u.length) (cap)), some (.int .i64 (((u.length : Nat) : Int))), some (.func (.func 26) #[] #[.pointer (some ⟨(L1 0).b, 0, none⟩)]), some (.tuple #[.int .i64 ((fi (Un.E u) u.length 0).1), .int .i64 ((fi (Un.E u) u.length 0).2)]), some (.int .i64 ((fi (Un.E u) u.length 0).1)), some (.int .i64 ((fi (Un.E u) u.length 0).2)), some (.int .i64 ((fi (Un.E u) u.length 0).2)), aI r, some (.int .i64 (Sb.unl (Sb.inB (r) (1) (1000000)) 2)), aI s, some (.int .i64 (Sb.unl (Sb.inB (s) (0) (1000)) 2)), aS (L4 5).b 0 3 3, some (.int .i64 (Sb.frst [(fi (Un.E u) u.length 0).2, Sb.unl (Sb.inB (r) (1) (1000000)) 2, Sb.unl (Sb.inB (s) (0) (1000)) 2])), some (.int .i64 (Sb.frst [(fi (Un.E u) u.length 0).2, Sb.unl (Sb.inB (r) (1) (1000000)) 2, Sb.unl (Sb.inB (s) (0) (1000)) 2])), some (.bool ((Sb.frst [(fi (Un.E u) u.length 0).2, Sb.unl (Sb.inB (r) (1) (1000000)) 2, Sb.unl (Sb.inB (s) (0) (1000)) 2]) != (0))), aU, some (.slice (some ⟨b, 0, none⟩) (u.length) (cap)), some (.int .i64 (((u.length : Nat) : Int))), aI 0, aU, aU, aU, aU, aU, aU, aU, aU, aU, aU, aU, aU, aU, aU, aU, aU, aU, aU, aU], [.row (some ⟨b, 0, none⟩) (u.length) (cap) 1 (iv (u)) 3 false, .blk ((L1 0).b) [.slice (some ⟨b, 0, none⟩) (u.length) (cap)] 31 true, .blk ((L4 5).b) [.int .i64 ((fi (Un.E u) u.length 0).2), .int .i64 (Sb.unl (Sb.inB (r) (1) (1000000)) 2), .int .i64 (Sb.unl (Sb.inB (s) (0) (1000)) 2)] 25 true], []⟩)
    (fun L7 => [(L1 0).b = (L1 0).b])
    fol (by kernel_rfl) (fun _ => by kernel_rfl) (fun L7 => ⟨rfl, trivial⟩) (fun L7 => ?_)
  refine aw_block ?_
  refine aw_weak (weak_nil _ 1 3) ?_
  refine aw_loop (ι := {i : Ix // i.k ≤ u.length ∧ (True)}) (fun i => ⟨[none, aI r, aI s, none, none, none, none, none, none, none, some (.slice (i.1.a) ((Un.fl (Un.p u r s) i.1.k).length) (i.1.c)), none, none, none, none, none, none, none, none, none, none, none, none, none, none, none, none, none, none, none, none, none, none, some (.slice (some ⟨b, 0, none⟩) (u.length) (cap)), some (.int .i64 (((u.length : Nat) : Int))), some (.int .i64 (((i.1.k : Nat) : Int))), none, none, none, none, none, none, none, none, none, none, none, none, none, none, none, none, none, none, none], [.row (some ⟨b, 0, none⟩) (u.length) (cap) 1 (iv (u)) 3 false, .row (i.1.a) ((Un.fl (Un.p u r s) i.1.k).length) (i.1.c) 1 (iv (Un.fl (Un.p u r s) i.1.k)) 3 true], []⟩) (fun i => u.length - i.1.k) ⟨⟨0, none, 0⟩, Nat.zero_le _, trivial⟩ (weak_to [false, true, true, false, false, false, false, false, false, false, true, false, false, false, false, false, false, false, false, false, false, false, false, false, false, false, false, false, false, false, false, false, false, true, true, true, false, false, false, false, false, false, false, false, false, false, false, false, false, false, false, false, false, false, false] [0, 3] (by decide) (by kernel_rfl)) ?_
  rintro ⟨⟨k, a, c⟩, hkn, hk⟩
  show Aw _ _ _ _ ⟨[none, aI r, aI s, none, none, none, none, none, none, none, some (.slice (a) ((Un.fl (Un.p u r s) k).length) (c)), none, none, none, none, none, none, none, none, none, none, none, none, none, none, none, none, none, none, none, none, none, none, some (.slice (some ⟨b, 0, none⟩) (u.length) (cap)), some (.int .i64 (((u.length : Nat) : Int))), some (.int .i64 (↑k)), none, none, none, none, none, none, none, none, none, none, none, none, none, none, none, none, none, none, none], [.row (some ⟨b, 0, none⟩) (u.length) (cap) 1 (iv (u)) 3 false, .row (a) ((Un.fl (Un.p u r s) k).length) (c) 1 (iv (Un.fl (Un.p u r s) k)) 3 true], []⟩ _
  simp only at hk hkn
  refine aw_sr [⟨.pure, [], none, true⟩]
    (fun L8 => ⟨[none, aI r, aI s, none, none, none, none, none, none, none, some (.slice (a) ((Un.fl (Un.p u r s) k).length) (c)), none, none, none, none, none, none, none, none, none, none, none, none, none, none, none, none, none, none, none, none, none, none, some (.slice (some ⟨b, 0, none⟩) (u.length) (cap)), some (.int .i64 (((u.length : Nat) : Int))), some (.int .i64 (↑k)), some (.bool (decide (↑k < (((u.length : Nat) : Int))))), none, none, none, none, none, none, none, none, none, none, none, none, none, none, none, none, none, none], [.row (some ⟨b, 0, none⟩) (u.length) (cap) 1 (iv (u)) 3 false, .row (a) ((Un.fl (Un.p u r s) k).length) (c) 1 (iv (Un.fl (Un.p u r s) k)) 3 true], []⟩)
    (fun L8 => [])
    fol (by kernel_rfl) (fun _ => by kernel_rfl) (fun L8 => trivial) (fun L8 => ?_)
  refine aw_seq ?_
  refine aw_cond (decide (↑k < (((u.length : Nat) : Int)))) rfl (fun h9 => ?_) (fun h9 => ?_)
  ·
    have h9' := of_decide_eq_true h9
    refine aw_skip ?_
    refine nrm_thn ?_
    refine aw_seq ?_
    refine aw_block ?_
    refine aw_sr [⟨.pure, [], none, true⟩, ⟨.idx, [], some (.pointer (some ⟨b, k, none⟩)), true⟩, ⟨(.read 0), [1], some (.int .i64 ((u).getD k 0)), true⟩, ⟨.pure, [0, 1, 2], none, true⟩, ⟨.pure, [0, 1, 2, 3], none, true⟩]
      (fun L10 => ⟨[none, aI r, aI s, none, none, none, none, none, none, none, some (.slice (a) ((Un.fl (Un.p u r s) k).length) (c)), some (.int .i64 (↑k)), some (.int .i64 ((u).getD k 0)), none, none, none, none, none, none, none, none, none, none, none, none, none, none, none, none, none, none, none, none, some (.slice (some ⟨b, 0, none⟩) (u.length) (cap)), some (.int .i64 (((u.length : Nat) : Int))), some (.int .i64 (↑k)), some (.bool (decide (↑k < (((u.length : Nat) : Int))))), some (.int .i64 (↑k)), some (.pointer (some ⟨b, k, none⟩)), some (.int .i64 ((u).getD k 0)), none, none, none, none, none, none, none, none, none, none, none, none, none, none, none], [.row (some ⟨b, 0, none⟩) (u.length) (cap) 1 (iv (u)) 3 false, .row (a) ((Un.fl (Un.p u r s) k).length) (c) 1 (iv (Un.fl (Un.p u r s) k)) 3 true], []⟩)
      (fun L10 => [(.pointer (some ⟨b, 0 + Int.toNat (↑k) * 1, none⟩) : Value) = .pointer (some ⟨b, k, none⟩), (0 : Int) ≤ ↑k, (↑k) < ((u.length : Nat) : Int), (.int .i64 ((u).getD k 0) : Value) = .int .i64 ((u).getD k 0), b = b, (iv (u))[k]? = some (.int .i64 ((u).getD k 0))])
      fol (by kernel_rfl) (fun _ => by kernel_rfl) (fun L10 => ⟨(ptr_eq (by simp <;> omega)), (by omega), (by omega), rfl, rfl, (iv_get (by omega)), trivial⟩) (fun L10 => ?_)
    refine aw_sr [⟨.pure, [], none, true⟩, ⟨.pure, [], none, true⟩, ⟨.pure, [0, 1], none, true⟩, ⟨(.call [] (.int .i64 (Un.size (((u).getD k 0) - (r))))), [0, 1, 2], none, true⟩, ⟨.pure, [0, 1, 2, 3], none, true⟩, ⟨.pure, [], none, true⟩, ⟨.pure, [], none, true⟩, ⟨.pure, [5, 6], none, true⟩, ⟨.pure, [0, 1, 2, 3, 4, 5, 6, 7], none, true⟩]
      (fun L11 => ⟨[none, aI r, aI s, none, none, none, none, none, none, none, some (.slice (a) ((Un.fl (Un.p u r s) k).length) (c)), some (.int .i64 (↑k)), some (.int .i64 ((u).getD k 0)), none, none, none, none, none, none, none, none, none, none, none, none, none, none, none, none, none, none, none, none, some (.slice (some ⟨b, 0, none⟩) (u.length) (cap)), some (.int .i64 (((u.length : Nat) : Int))), some (.int .i64 (↑k)), some (.bool (decide (↑k < (((u.length : Nat) : Int))))), some (.int .i64 (↑k)), some (.pointer (some ⟨b, k, none⟩)), some (.int .i64 ((u).getD k 0)), some (.int .i64 ((u).getD k 0)), aI r, some (.int .i64 (IntKind.i64.wrap (((u).getD k 0) - (r)))), some (.int .i64 (Un.size (((u).getD k 0) - (r)))), some (.int .i64 (IntKind.i64.wrap ((1000) * (Un.size (((u).getD k 0) - (r)))))), aI s, aI r, some (.int .i64 (IntKind.i64.wrap ((s) * (r)))), some (.bool (decide ((IntKind.i64.wrap ((1000) * (Un.size (((u).getD k 0) - (r))))) > (IntKind.i64.wrap ((s) * (r)))))), none, none, none, none, none, none], [.row (some ⟨b, 0, none⟩) (u.length) (cap) 1 (iv (u)) 3 false, .row (a) ((Un.fl (Un.p u r s) k).length) (c) 1 (iv (Un.fl (Un.p u r s) k)) 3 true], []⟩)
      (fun L11 => [CallOb Try.prog 29 #[.int .i64 (IntKind.i64.wrap (((u).getD k 0) - (r)))] [] (.int .i64 (Un.size (((u).getD k 0) - (r))))])
      fol (by kernel_rfl) (fun _ => by kernel_rfl) (fun L11 => ⟨(Un.size_p _), trivial⟩) (fun L11 => ?_)
    refine aw_cond (decide ((IntKind.i64.wrap ((1000) * (Un.size (((u).getD k 0) - (r))))) > (IntKind.i64.wrap ((s) * (r))))) rfl (fun h12 => ?_) (fun h12 => ?_)
    ·
      have h12' := of_decide_eq_true h12
      refine aw_region [⟨.pure, [], none, true⟩, ⟨.pure, [], none, true⟩, ⟨.new, [1], none, true⟩, ⟨(.app 1 4), [0, 1, 2], none, true⟩, ⟨.pure, [0, 1, 2, 3], none, true⟩]
        (fun L13 => ⟨[none, aI r, aI s, none, none, none, none, none, none, none, some (.slice ((L13 3).a) ((Un.fl (Un.p u r s) k).length + 1) ((L13 3).n)), some (.int .i64 (↑k)), some (.int .i64 ((u).getD k 0)), none, none, none, none, none, none, none, none, none, none, none, none, none, none, none, none, none, none, none, none, some (.slice (some ⟨b, 0, none⟩) (u.length) (cap)), some (.int .i64 (((u.length : Nat) : Int))), some (.int .i64 (↑k)), some (.bool (decide (↑k < (((u.length : Nat) : Int))))), some (.int .i64 (↑k)), some (.pointer (some ⟨b, k, none⟩)), some (.int .i64 ((u).getD k 0)), some (.int .i64 ((u).getD k 0)), aI r, some (.int .i64 (IntKind.i64.wrap (((u).getD k 0) - (r)))), some (.int .i64 (Un.size (((u).getD k 0) - (r)))), some (.int .i64 (IntKind.i64.wrap ((1000) * (Un.size (((u).getD k 0) - (r)))))), aI s, aI r, some (.int .i64 (IntKind.i64.wrap ((s) * (r)))), some (.bool (decide ((IntKind.i64.wrap ((1000) * (Un.size (((u).getD k 0) - (r))))) > (IntKind.i64.wrap ((s) * (r)))))), some (.slice (a) ((Un.fl (Un.p u r s) k).length) (c)), some (.int .i64 (↑k)), aS (L13 2).b 0 1 1, some (.slice ((L13 3).a) ((Un.fl (Un.p u r s) k).length + 1) ((L13 3).n)), none, none], [.row (some ⟨b, 0, none⟩) (u.length) (cap) 1 (iv (u)) 3 false, .row ((L13 3).a) ((Un.fl (Un.p u r s) k).length + 1) ((L13 3).n) 1 ((iv (Un.fl (Un.p u r s) k)) ++ [.int .i64 (↑k)]) 3 true, .blk ((L13 2).b) [.int .i64 (↑k)] 3 true], []⟩)
        (fun L13 => [31 = 31, 3 = 3, (a : Option Addr) = a, (Un.fl (Un.p u r s) k).length = (Un.fl (Un.p u r s) k).length, c = c, (L13 2).b = (L13 2).b, 1 = 1, some 1 = some 1, 0 < 1, 0 + 1 * 1 ≤ 1, ∀ u ∈ ([.int .i64 (↑k)] : List Value), u.oneCell' = true, (Un.fl (Un.p u r s) k).length + 1 ≤ maxLen, ((Un.fl (Un.p u r s) k).length + 1) * 8 ≤ 140737488355328])
        fol (by kernel_rfl) (fun _ => by kernel_rfl) (fun L13 => ⟨rfl, rfl, rfl, rfl, rfl, rfl, rfl, rfl, (by decide), (by decide), (by simp [Value.oneCell']), (by unfold maxLen; have := Un.fl_len (Un.p u r s) k; omega), (by have := Un.fl_len (Un.p u r s) k; omega), trivial⟩) (fun L13 => ?_)
      refine nrm_inB ?_
      refine nrm_thn ?_
      refine aw_region [⟨.pure, [], some (.int .i64 (↑(k + 1))), true⟩, ⟨.pure, [0], none, true⟩]
        (fun L14 => ⟨[none, aI r, aI s, none, none, none, none, none, none, none, some (.slice ((L13 3).a) ((Un.fl (Un.p u r s) k).length + 1) ((L13 3).n)), some (.int .i64 (↑k)), some (.int .i64 ((u).getD k 0)), none, none, none, none, none, none, none, none, none, none, none, none, none, none, none, none, none, none, none, none, some (.slice (some ⟨b, 0, none⟩) (u.length) (cap)), some (.int .i64 (((u.length : Nat) : Int))), some (.int .i64 (↑(k + 1))), some (.bool (decide (↑k < (((u.length : Nat) : Int))))), some (.int .i64 (↑k)), some (.pointer (some ⟨b, k, none⟩)), some (.int .i64 ((u).getD k 0)), some (.int .i64 ((u).getD k 0)), aI r, some (.int .i64 (IntKind.i64.wrap (((u).getD k 0) - (r)))), some (.int .i64 (Un.size (((u).getD k 0) - (r)))), some (.int .i64 (IntKind.i64.wrap ((1000) * (Un.size (((u).getD k 0) - (r)))))), aI s, aI r, some (.int .i64 (IntKind.i64.wrap ((s) * (r)))), some (.bool (decide ((IntKind.i64.wrap ((1000) * (Un.size (((u).getD k 0) - (r))))) > (IntKind.i64.wrap ((s) * (r)))))), some (.slice (a) ((Un.fl (Un.p u r s) k).length) (c)), some (.int .i64 (↑k)), aS (L13 2).b 0 1 1, some (.slice ((L13 3).a) ((Un.fl (Un.p u r s) k).length + 1) ((L13 3).n)), some (.int .i64 (↑(k + 1))), none], [.row (some ⟨b, 0, none⟩) (u.length) (cap) 1 (iv (u)) 3 false, .row ((L13 3).a) ((Un.fl (Un.p u r s) k).length + 1) ((L13 3).n) 1 ((iv (Un.fl (Un.p u r s) k)) ++ [.int .i64 (↑k)]) 3 true, .blk ((L13 2).b) [.int .i64 (↑k)] 3 true], []⟩)
        (fun L14 => [(.int .i64 (IntKind.i64.wrap ((↑k) + (1))) : Value) = .int .i64 (↑(k + 1))])
        fol (by kernel_rfl) (fun _ => by kernel_rfl) (fun L14 => ⟨(Un.wrap_succ (by omega)), trivial⟩) (fun L14 => ?_)
      refine nrm_thn ?_
      refine ⟨⟨⟨k + 1, (L13 3).a, (L13 3).n⟩, by simp only; omega, by first | exact True.intro | (simp only; trivial)⟩, ?_, by simp only; omega⟩
      show Weak ⟨[none, aI r, aI s, none, none, none, none, none, none, none, some (.slice ((L13 3).a) ((Un.fl (Un.p u r s) k).length + 1) ((L13 3).n)), some (.int .i64 (↑k)), some (.int .i64 ((u).getD k 0)), none, none, none, none, none, none, none, none, none, none, none, none, none, none, none, none, none, none, none, none, some (.slice (some ⟨b, 0, none⟩) (u.length) (cap)), some (.int .i64 (((u.length : Nat) : Int))), some (.int .i64 (↑(k + 1))), some (.bool (decide (↑k < (((u.length : Nat) : Int))))), some (.int .i64 (↑k)), some (.pointer (some ⟨b, k, none⟩)), some (.int .i64 ((u).getD k 0)), some (.int .i64 ((u).getD k 0)), aI r, some (.int .i64 (IntKind.i64.wrap (((u).getD k 0) - (r)))), some (.int .i64 (Un.size (((u).getD k 0) - (r)))), some (.int .i64 (IntKind.i64.wrap ((1000) * (Un.size (((u).getD k 0) - (r)))))), aI s, aI r, some (.int .i64 (IntKind.i64.wrap ((s) * (r)))), some (.bool (decide ((IntKind.i64.wrap ((1000) * (Un.size (((u).getD k 0) - (r))))) > (IntKind.i64.wrap ((s) * (r)))))), some (.slice (a) ((Un.fl (Un.p u r s) k).length) (c)), some (.int .i64 (↑k)), aS (L13 2).b 0 1 1, some (.slice ((L13 3).a) ((Un.fl (Un.p u r s) k).length + 1) ((L13 3).n)), some (.int .i64 (↑(k + 1))), none], [.row (some ⟨b, 0, none⟩) (u.length) (cap) 1 (iv (u)) 3 false, .row ((L13 3).a) ((Un.fl (Un.p u r s) k).length + 1) ((L13 3).n) 1 ((iv (Un.fl (Un.p u r s) k)) ++ [.int .i64 (↑k)]) 3 true, .blk ((L13 2).b) [.int .i64 (↑k)] 3 true], []⟩ ⟨[none, aI r, aI s, none, none, none, none, none, none, none, some (.slice ((L13 3).a) ((Un.fl (Un.p u r s) ((k + 1))).length) ((L13 3).n)), none, none, none, none, none, none, none, none, none, none, none, none, none, none, none, none, none, none, none, none, none, none, some (.slice (some ⟨b, 0, none⟩) (u.length) (cap)), some (.int .i64 (((u.length : Nat) : Int))), some (.int .i64 ((((k + 1) : Nat) : Int))), none, none, none, none, none, none, none, none, none, none, none, none, none, none, none, none, none, none, none], [.row (some ⟨b, 0, none⟩) (u.length) (cap) 1 (iv (u)) 3 false, .row ((L13 3).a) ((Un.fl (Un.p u r s) ((k + 1))).length) ((L13 3).n) 1 (iv (Un.fl (Un.p u r s) ((k + 1)))) 3 true], []⟩
      rw [Un.fl_yes (p := Un.p u r s) h12, iv_snoc, len_snoc]
      exact weak_to [false, true, true, false, false, false, false, false, false, false, true, false, false, false, false, false, false, false, false, false, false, false, false, false, false, false, false, false, false, false, false, false, false, true, true, true, false, false, false, false, false, false, false, false, false, false, false, false, false, false, false, false, false, false, false] [0, 1] (by decide) (by kernel_rfl)
    ·
      have h12' := of_decide_eq_false h12
      refine aw_skip ?_
      refine nrm_inB ?_
      refine nrm_thn ?_
      refine aw_region [⟨.pure, [], some (.int .i64 (↑(k + 1))), true⟩, ⟨.pure, [0], none, true⟩]
        (fun L15 => ⟨[none, aI r, aI s, none, none, none, none, none, none, none, some (.slice (a) ((Un.fl (Un.p u r s) k).length) (c)), some (.int .i64 (↑k)), some (.int .i64 ((u).getD k 0)), none, none, none, none, none, none, none, none, none, none, none, none, none, none, none, none, none, none, none, none, some (.slice (some ⟨b, 0, none⟩) (u.length) (cap)), some (.int .i64 (((u.length : Nat) : Int))), some (.int .i64 (↑(k + 1))), some (.bool (decide (↑k < (((u.length : Nat) : Int))))), some (.int .i64 (↑k)), some (.pointer (some ⟨b, k, none⟩)), some (.int .i64 ((u).getD k 0)), some (.int .i64 ((u).getD k 0)), aI r, some (.int .i64 (IntKind.i64.wrap (((u).getD k 0) - (r)))), some (.int .i64 (Un.size (((u).getD k 0) - (r)))), some (.int .i64 (IntKind.i64.wrap ((1000) * (Un.size (((u).getD k 0) - (r)))))), aI s, aI r, some (.int .i64 (IntKind.i64.wrap ((s) * (r)))), some (.bool (decide ((IntKind.i64.wrap ((1000) * (Un.size (((u).getD k 0) - (r))))) > (IntKind.i64.wrap ((s) * (r)))))), none, none, none, none, some (.int .i64 (↑(k + 1))), none], [.row (some ⟨b, 0, none⟩) (u.length) (cap) 1 (iv (u)) 3 false, .row (a) ((Un.fl (Un.p u r s) k).length) (c) 1 (iv (Un.fl (Un.p u r s) k)) 3 true], []⟩)
        (fun L15 => [(.int .i64 (IntKind.i64.wrap ((↑k) + (1))) : Value) = .int .i64 (↑(k + 1))])
        fol (by kernel_rfl) (fun _ => by kernel_rfl) (fun L15 => ⟨(Un.wrap_succ (by omega)), trivial⟩) (fun L15 => ?_)
      refine nrm_thn ?_
      refine ⟨⟨⟨k + 1, a, c⟩, by simp only; omega, by first | exact True.intro | (simp only; trivial)⟩, ?_, by simp only; omega⟩
      show Weak ⟨[none, aI r, aI s, none, none, none, none, none, none, none, some (.slice (a) ((Un.fl (Un.p u r s) k).length) (c)), some (.int .i64 (↑k)), some (.int .i64 ((u).getD k 0)), none, none, none, none, none, none, none, none, none, none, none, none, none, none, none, none, none, none, none, none, some (.slice (some ⟨b, 0, none⟩) (u.length) (cap)), some (.int .i64 (((u.length : Nat) : Int))), some (.int .i64 (↑(k + 1))), some (.bool (decide (↑k < (((u.length : Nat) : Int))))), some (.int .i64 (↑k)), some (.pointer (some ⟨b, k, none⟩)), some (.int .i64 ((u).getD k 0)), some (.int .i64 ((u).getD k 0)), aI r, some (.int .i64 (IntKind.i64.wrap (((u).getD k 0) - (r)))), some (.int .i64 (Un.size (((u).getD k 0) - (r)))), some (.int .i64 (IntKind.i64.wrap ((1000) * (Un.size (((u).getD k 0) - (r)))))), aI s, aI r, some (.int .i64 (IntKind.i64.wrap ((s) * (r)))), some (.bool (decide ((IntKind.i64.wrap ((1000) * (Un.size (((u).getD k 0) - (r))))) > (IntKind.i64.wrap ((s) * (r)))))), none, none, none, none, some (.int .i64 (↑(k + 1))), none], [.row (some ⟨b, 0, none⟩) (u.length) (cap) 1 (iv (u)) 3 false, .row (a) ((Un.fl (Un.p u r s) k).length) (c) 1 (iv (Un.fl (Un.p u r s) k)) 3 true], []⟩ ⟨[none, aI r, aI s, none, none, none, none, none, none, none, some (.slice (a) ((Un.fl (Un.p u r s) ((k + 1))).length) (c)), none, none, none, none, none, none, none, none, none, none, none, none, none, none, none, none, none, none, none, none, none, none, some (.slice (some ⟨b, 0, none⟩) (u.length) (cap)), some (.int .i64 (((u.length : Nat) : Int))), some (.int .i64 ((((k + 1) : Nat) : Int))), none, none, none, none, none, none, none, none, none, none, none, none, none, none, none, none, none, none, none], [.row (some ⟨b, 0, none⟩) (u.length) (cap) 1 (iv (u)) 3 false, .row (a) ((Un.fl (Un.p u r s) ((k + 1))).length) (c) 1 (iv (Un.fl (Un.p u r s) ((k + 1)))) 3 true], []⟩
      rw [Un.fl_no (p := Un.p u r s) h12]
      exact weak_to [false, true, true, false, false, false, false, false, false, false, true, false, false, false, false, false, false, false, false, false, false, false, false, false, false, false, false, false, false, false, false, false, false, true, true, true, false, false, false, false, false, false, false, false, false, false, false, false, false, false, false, false, false, false, false] [0, 1] (by decide) (by kernel_rfl)
  ·
    have h9' := of_decide_eq_false h9
    refine aw_exit ?_
    refine ex_thn ?_
    refine ex_thn ?_
    refine ex_hit ?_
    refine nrm_thn ?_
    refine aw_sr [⟨.pure, [], none, true⟩, ⟨.pure, [0], none, true⟩, ⟨.pure, [0, 1], none, true⟩]
      (fun L16 => ⟨[none, aI r, aI s, none, none, none, some (.slice (a) ((Un.fl (Un.p u r s) k).length) (c)), aI 0, none, none, some (.slice (a) ((Un.fl (Un.p u r s) k).length) (c)), none, none, none, none, none, none, none, none, none, none, none, none, none, none, none, none, none, none, none, none, none, none, some (.slice (some ⟨b, 0, none⟩) (u.length) (cap)), some (.int .i64 (((u.length : Nat) : Int))), some (.int .i64 (↑k)), some (.bool (decide (↑k < (((u.length : Nat) : Int))))), none, none, none, none, none, none, none, none, none, none, none, none, none, none, none, none, none, some (.slice (a) ((Un.fl (Un.p u r s) k).length) (c))], [.row (some ⟨b, 0, none⟩) (u.length) (cap) 1 (iv (u)) 3 false, .row (a) ((Un.fl (Un.p u r s) k).length) (c) 1 (iv (Un.fl (Un.p u r s) k)) 3 true], []⟩)
      (fun L16 => [])
      fol (by kernel_rfl) (fun _ => by kernel_rfl) (fun L16 => trivial) (fun L16 => ?_)
    refine aw_ret ?_
    have hkk : k = u.length := by omega
    subst hkk
    exact fin_new none [0, 0] (.tuple #[.slice (a) ((Un.fl (Un.p u r s) u.length).length) (c), aN 0]) [] (⟨0, a, c⟩) (fun l => .tuple #[.slice (l.a) ((Un.fl (Un.p u r s) u.length).length) (l.n), aN 0]) (fun l => .row (l.a) ((Un.fl (Un.p u r s) u.length).length) (l.n) 1 (iv (Un.fl (Un.p u r s) u.length)) 3 true) 1 (.inr rfl) rfl (by kernel_rfl) trivial rfl rfl rfl

set_option maxRecDepth 100000 in
set_option maxHeartbeats 400000 in
theorem Un.ref1 (b o cap : Nat) (u : List Int) (r s : Int) (hl : decide ((((u.length : Nat) : Int)) > 16) = true) : CallOb Try.prog 10 #[.slice (some ⟨b, o, none⟩) (u.length) (cap), aN r, aN s] [.vue (b) (o) (iv (u))] (.tuple #[.slice none 0 0, aN 8]) := by
  intro w hw
  refine calls_aw [some (.slice (some ⟨b, o, none⟩) (u.length) (cap)), aI r, aI s, aU, aU, aU, aU, aU, aU, aU, aU, aU, aU, aU, aU, aU, aU, aU, aU, aU, aU, aU, aU, aU, aU, aU, aU, aU, aU, aU, aU, aU, aU, aU, aU, aU, aU, aU, aU, aU, aU, aU, aU, aU, aU, aU, aU, aU, aU, aU, aU, aU, aU, aU, aU, aU, aU] [.vue (b) (o) (iv (u))] Try.func10 rfl (by kernel_rfl) (esOk hw (by simp [Cel.mine])) ?_
  refine aw_sr [⟨.pure, [], none, true⟩, ⟨.pure, [0], none, true⟩]
    (fun L1 => ⟨[some (.slice (some ⟨b, o, none⟩) (u.length) (cap)), aI r, aI s, aU, aU, aU, some (.slice none 0 0), aI 0, aU, aU, aU, aU, aU, aU, aU, aU, aU, aU, aU, aU, aU, aU, aU, aU, aU, aU, aU, aU, aU, aU, aU, aU, aU, aU, aU, aU, aU, aU, aU, aU, aU, aU, aU, aU, aU, aU, aU, aU, aU, aU, aU, aU, aU, aU, aU, aU, aU], [.vue (b) (o) (iv (u))], []⟩)
    (fun L1 => [])
    fol (by kernel_rfl) (fun _ => by kernel_rfl) (fun L1 => trivial) (fun L1 => ?_)
  refine aw_seq ?_
  refine aw_sr [⟨.pure, [], none, true⟩, ⟨.pure, [0], none, true⟩, ⟨.pure, [0, 1], none, true⟩]
    (fun L2 => ⟨[some (.slice (some ⟨b, o, none⟩) (u.length) (cap)), aI r, aI s, aU, aU, aU, some (.slice none 0 0), aI 0, aU, aU, aU, some (.slice (some ⟨b, o, none⟩) (u.length) (cap)), some (.int .i64 (((u.length : Nat) : Int))), some (.bool (decide ((((u.length : Nat) : Int)) > 16))), aU, aU, aU, aU, aU, aU, aU, aU, aU, aU, aU, aU, aU, aU, aU, aU, aU, aU, aU, aU, aU, aU, aU, aU, aU, aU, aU, aU, aU, aU, aU, aU, aU, aU, aU, aU, aU, aU, aU, aU, aU, aU, aU], [.vue (b) (o) (iv (u))], []⟩)
    (fun L2 => [])
    fol (by kernel_rfl) (fun _ => by kernel_rfl) (fun L2 => trivial) (fun L2 => ?_)
  refine aw_true (decide ((((u.length : Nat) : Int)) > 16)) rfl hl ?_
  refine aw_sr [⟨.pure, [], none, true⟩, ⟨.pure, [0], none, true⟩]
    (fun L3 => ⟨[some (.slice (some ⟨b, o, none⟩) (u.length) (cap)), aI r, aI s, aU, aU, aU, some (.slice none 0 0), aI 8, aU, aU, aU, some (.slice (some ⟨b, o, none⟩) (u.length) (cap)), some (.int .i64 (((u.length : Nat) : Int))), some (.bool (decide ((((u.length : Nat) : Int)) > 16))), aU, aU, aU, aU, aU, aU, aU, aU, aU, aU, aU, aU, aU, aU, aU, aU, aU, aU, aU, aU, aU, aU, aU, aU, aU, aU, aU, aU, aU, aU, aU, aU, aU, aU, aU, aU, aU, aU, aU, aU, aU, aU, aU], [.vue (b) (o) (iv (u))], []⟩)
    (fun L3 => [])
    fol (by kernel_rfl) (fun _ => by kernel_rfl) (fun L3 => trivial) (fun L3 => ?_)
  refine aw_ret ?_
  refine ret_thn ?_
  refine fin_ret none [0, 0] (.tuple #[.slice none 0 0, aN 8]) [] (.inr rfl) rfl (by kernel_rfl) trivial (fun w' hb => ?_)
  exact ⟨rfl, hb⟩

theorem Un.all_step {u : List Int} {k : Nat} (hk : ∀ j, j < k → Sb.inB (u.getD j 0) 0 1000000 = true) (h : (!(Sb.inB (u.getD k 0) 0 1000000)) = false) : ∀ j, j < k + 1 → Sb.inB (u.getD j 0) 0 1000000 = true := by
  intro j hj
  rcases Nat.lt_or_eq_of_le (Nat.le_of_lt_succ hj) with h1 | rfl
  · exact hk j h1
  · simpa using h
set_option maxRecDepth 100000 in
set_option maxHeartbeats 400000 in
theorem Un.ref2 (b o cap : Nat) (u : List Int) (r s : Int) (hl : u.length ≤ 16) (hL : decide ((((u.length : Nat) : Int)) > 16) = false) (hbad : ∃ j, j < u.length ∧ Sb.inB (u.getD j 0) 0 1000000 = false) : CallOb Try.prog 10 #[.slice (some ⟨b, o, none⟩) (u.length) (cap), aN r, aN s] [.vue (b) (o) (iv (u))] (.tuple #[.slice none 0 0, aN 2]) := by
  intro w hw
  refine calls_aw [some (.slice (some ⟨b, o, none⟩) (u.length) (cap)), aI r, aI s, aU, aU, aU, aU, aU, aU, aU, aU, aU, aU, aU, aU, aU, aU, aU, aU, aU, aU, aU, aU, aU, aU, aU, aU, aU, aU, aU, aU, aU, aU, aU, aU, aU, aU, aU, aU, aU, aU, aU, aU, aU, aU, aU, aU, aU, aU, aU, aU, aU, aU, aU, aU, aU, aU] [.vue (b) (o) (iv (u))] Try.func10 rfl (by kernel_rfl) (esOk hw (by simp [Cel.mine])) ?_
  refine aw_sr [⟨.pure, [], none, true⟩, ⟨.pure, [0], none, true⟩]
    (fun L1 => ⟨[some (.slice (some ⟨b, o, none⟩) (u.length) (cap)), aI r, aI s, aU, aU, aU, some (.slice none 0 0), aI 0, aU, aU, aU, aU, aU, aU, aU, aU, aU, aU, aU, aU, aU, aU, aU, aU, aU, aU, aU, aU, aU, aU, aU, aU, aU, aU, aU, aU, aU, aU, aU, aU, aU, aU, aU, aU, aU, aU, aU, aU, aU, aU, aU, aU, aU, aU, aU, aU, aU], [.vue (b) (o) (iv (u))], []⟩)
    (fun L1 => [])
    fol (by kernel_rfl) (fun _ => by kernel_rfl) (fun L1 => trivial) (fun L1 => ?_)
  refine aw_seq ?_
  refine aw_sr [⟨.pure, [], none, true⟩, ⟨.pure, [0], none, true⟩, ⟨.pure, [0, 1], none, true⟩]
    (fun L2 => ⟨[some (.slice (some ⟨b, o, none⟩) (u.length) (cap)), aI r, aI s, aU, aU, aU, some (.slice none 0 0), aI 0, aU, aU, aU, some (.slice (some ⟨b, o, none⟩) (u.length) (cap)), some (.int .i64 (((u.length : Nat) : Int))), some (.bool (decide ((((u.length : Nat) : Int)) > 16))), aU, aU, aU, aU, aU, aU, aU, aU, aU, aU, aU, aU, aU, aU, aU, aU, aU, aU, aU, aU, aU, aU, aU, aU, aU, aU, aU, aU, aU, aU, aU, aU, aU, aU, aU, aU, aU, aU, aU, aU, aU, aU, aU], [.vue (b) (o) (iv (u))], []⟩)
    (fun L2 => [])
    fol (by kernel_rfl) (fun _ => by kernel_rfl) (fun L2 => trivial) (fun L2 => ?_)
  refine aw_false (decide ((((u.length : Nat) : Int)) > 16)) rfl hL ?_
  refine aw_skip ?_
  refine nrm_thn ?_
  refine aw_seq ?_
  refine aw_sr [⟨.pure, [], none, true⟩]
    (fun L3 => ⟨[some (.slice (some ⟨b, o, none⟩) (u.length) (cap)), aI r, aI s, aU, aU, aU, some (.slice none 0 0), aI 0, aI 0, aU, aU, some (.slice (some ⟨b, o, none⟩) (u.length) (cap)), some (.int .i64 (((u.length : Nat) : Int))), some (.bool (decide ((((u.length : Nat) : Int)) > 16))), aU, aU, aU, aU, aU, aU, aU, aU, aU, aU, aU, aU, aU, aU, aU, aU, aU, aU, aU, aU, aU, aU, aU, aU, aU, aU, aU, aU, aU, aU, aU, aU, aU, aU, aU, aU, aU, aU, aU, aU, aU, aU, aU], [.vue (b) (o) (iv (u))], []⟩)
    (fun L3 => [])
    fol (by kernel_rfl) (fun _ => by kernel_rfl) (fun L3 => trivial) (fun L3 => ?_)
  refine aw_block ?_
  refine aw_loop (ι := {i : Ix // i.k ≤ u.length ∧ (∀ j, j < i.k → Sb.inB (u.getD j 0) 0 1000000 = true)}) (fun i => ⟨[some (.slice (some ⟨b, o, none⟩) (u.length) (cap)), aI r, aI s, none, none, none, none, none, some (.int .i64 (((i.1.k : Nat) : Int))), none, none, none, none, none, none, none, none, none, none, none, none, none, none, none, none, none, none, none, none, none, none, none, none, none, none, none, none, none, none, none, none, none, none, none, none, none, none, none, none, none, none, none, none, none, none, none, none], [.vue (b) (o) (iv (u))], []⟩) (fun i => u.length - i.1.k) ⟨⟨0, none, 0⟩, Nat.zero_le _, (fun j hj => absurd hj (Nat.not_lt_zero _))⟩ (weak_to [true, true, true, false, false, false, false, false, true, false, false, false, false, false, false, false, false, false, false, false, false, false, false, false, false, false, false, false, false, false, false, false, false, false, false, false, false, false, false, false, false, false, false, false, false, false, false, false, false, false, false, false, false, false, false, false, false] [0] (by decide) (by kernel_rfl)) ?_
  rintro ⟨⟨k, a, c⟩, hkn, hk⟩
  show Aw _ _ _ _ ⟨[some (.slice (some ⟨b, o, none⟩) (u.length) (cap)), aI r, aI s, none, none, none, none, none, some (.int .i64 (↑k)), none, none, none, none, none, none, none, none, none, none, none, none, none, none, none, none, none, none, none, none, none, none, none, none, none, none, none, none, none, none, none, none, none, none, none, none, none, none, none, none, none, none, none, none, none, none, none, none], [.vue (b) (o) (iv (u))], []⟩ _
  simp only at hk hkn
  refine aw_seq ?_
  refine aw_sr [⟨.pure, [], none, true⟩, ⟨.pure, [], none, true⟩, ⟨.pure, [1], none, true⟩, ⟨.pure, [0, 1, 2], none, true⟩]
    (fun L4 => ⟨[some (.slice (some ⟨b, o, none⟩) (u.length) (cap)), aI r, aI s, none, none, none, none, none, some (.int .i64 (↑k)), none, none, none, none, none, some (.int .i64 (↑k)), some (.slice (some ⟨b, o, none⟩) (u.length) (cap)), some (.int .i64 (((u.length : Nat) : Int))), some (.bool (decide (↑k < (((u.length : Nat) : Int))))), none, none, none, none, none, none, none, none, none, none, none, none, none, none, none, none, none, none, none, none, none, none, none, none, none, none, none, none, none, none, none, none, none, none, none, none, none, none, none], [.vue (b) (o) (iv (u))], []⟩)
    (fun L4 => [])
    fol (by kernel_rfl) (fun _ => by kernel_rfl) (fun L4 => trivial) (fun L4 => ?_)
  refine aw_cond (decide (↑k < (((u.length : Nat) : Int)))) rfl (fun h5 => ?_) (fun h5 => ?_)
  ·
    have h5' := of_decide_eq_true h5
    refine aw_skip ?_
    refine nrm_thn ?_
    refine aw_seq ?_
    refine aw_block ?_
    refine aw_sr [⟨.pure, [], none, true⟩, ⟨.pure, [], none, true⟩, ⟨.idx, [0, 1], some (.pointer (some ⟨b, o + k, none⟩)), true⟩, ⟨(.read 0), [0, 1, 2], some (.int .i64 ((u).getD k 0)), true⟩, ⟨(.call [] (.bool (Sb.inB ((u).getD k 0) (0) (1000000)))), [0, 1, 2, 3], none, true⟩, ⟨.pure, [0, 1, 2, 3, 4], none, true⟩]
      (fun L6 => ⟨[some (.slice (some ⟨b, o, none⟩) (u.length) (cap)), aI r, aI s, none, none, none, none, none, some (.int .i64 (↑k)), none, none, none, none, none, some (.int .i64 (↑k)), some (.slice (some ⟨b, o, none⟩) (u.length) (cap)), some (.int .i64 (((u.length : Nat) : Int))), some (.bool (decide (↑k < (((u.length : Nat) : Int))))), none, none, some (.slice (some ⟨b, o, none⟩) (u.length) (cap)), some (.int .i64 (↑k)), some (.pointer (some ⟨b, o + k, none⟩)), some (.int .i64 ((u).getD k 0)), some (.bool (Sb.inB ((u).getD k 0) (0) (1000000))), some (.bool (!(Sb.inB ((u).getD k 0) (0) (1000000)))), none, none, none, none, none, none, none, none, none, none, none, none, none, none, none, none, none, none, none, none, none, none, none, none, none, none, none, none, none, none, none], [.vue (b) (o) (iv (u))], []⟩)
      (fun L6 => [(.pointer (some ⟨b, o + Int.toNat (↑k) * 1, none⟩) : Value) = .pointer (some ⟨b, o + k, none⟩), (0 : Int) ≤ ↑k, (↑k) < ((u.length : Nat) : Int), (.int .i64 ((u).getD k 0) : Value) = .int .i64 ((u).getD k 0), b = b, ∃ j, o + k = o + j ∧ (iv (u))[j]? = some (.int .i64 ((u).getD k 0)), CallOb Try.prog 30 #[.int .i64 ((u).getD k 0), aN 0, aN 1000000] [] (.bool (Sb.inB ((u).getD k 0) (0) (1000000)))])
      fol (by kernel_rfl) (fun _ => by kernel_rfl) (fun L6 => ⟨(ptr_eq (by simp <;> omega)), (by omega), (by omega), rfl, rfl, ⟨k, rfl, iv_get (by omega)⟩, (Sb.withinR _ _ _), trivial⟩) (fun L6 => ?_)
    refine aw_cond (!(Sb.inB ((u).getD k 0) (0) (1000000))) rfl (fun h7 => ?_) (fun h7 => ?_)
    ·
      refine aw_sr [⟨.pure, [], none, true⟩, ⟨.pure, [0], none, true⟩]
        (fun L8 => ⟨[some (.slice (some ⟨b, o, none⟩) (u.length) (cap)), aI r, aI s, none, none, none, some (.slice none 0 0), aI 2, some (.int .i64 (↑k)), none, none, none, none, none, some (.int .i64 (↑k)), some (.slice (some ⟨b, o, none⟩) (u.length) (cap)), some (.int .i64 (((u.length : Nat) : Int))), some (.bool (decide (↑k < (((u.length : Nat) : Int))))), none, none, some (.slice (some ⟨b, o, none⟩) (u.length) (cap)), some (.int .i64 (↑k)), some (.pointer (some ⟨b, o + k, none⟩)), some (.int .i64 ((u).getD k 0)), some (.bool (Sb.inB ((u).getD k 0) (0) (1000000))), some (.bool (!(Sb.inB ((u).getD k 0) (0) (1000000)))), none, none, none, none, none, none, none, none, none, none, none, none, none, none, none, none, none, none, none, none, none, none, none, none, none, none, none, none, none, none, none], [.vue (b) (o) (iv (u))], []⟩)
        (fun L8 => [])
        fol (by kernel_rfl) (fun _ => by kernel_rfl) (fun L8 => trivial) (fun L8 => ?_)
      refine aw_ret ?_
      refine ret_inB ?_
      refine ret_thn ?_
      refine ret_thn ?_
      refine ret_inB ?_
      refine ret_thn ?_
      refine fin_ret none [0, 0] (.tuple #[.slice none 0 0, aN 2]) [] (.inr rfl) rfl (by kernel_rfl) trivial (fun w' hb => ?_)
      exact ⟨rfl, hb⟩
    ·
      refine aw_skip ?_
      refine nrm_inB ?_
      refine nrm_thn ?_
      refine aw_region [⟨.pure, [], none, true⟩, ⟨.pure, [0], some (.int .i64 (↑(k + 1))), true⟩, ⟨.pure, [0, 1], none, true⟩]
        (fun L9 => ⟨[some (.slice (some ⟨b, o, none⟩) (u.length) (cap)), aI r, aI s, none, none, none, none, none, some (.int .i64 (↑(k + 1))), none, none, none, none, none, some (.int .i64 (↑k)), some (.slice (some ⟨b, o, none⟩) (u.length) (cap)), some (.int .i64 (((u.length : Nat) : Int))), some (.bool (decide (↑k < (((u.length : Nat) : Int))))), some (.int .i64 (↑k)), some (.int .i64 (↑(k + 1))), some (.slice (some ⟨b, o, none⟩) (u.length) (cap)), some (.int .i64 (↑k)), some (.pointer (some ⟨b, o + k, none⟩)), some (.int .i64 ((u).getD k 0)), some (.bool (Sb.inB ((u).getD k 0) (0) (1000000))), some (.bool (!(Sb.inB ((u).getD k 0) (0) (1000000)))), none, none, none, none, none, none, none, none, none, none, none, none, none, none, none, none, none, none, none, none, none, none, none, none, none, none, none, none, none, none, none], [.vue (b) (o) (iv (u))], []⟩)
        (fun L9 => [(.int .i64 (IntKind.i64.wrap ((↑k) + (1))) : Value) = .int .i64 (↑(k + 1))])
        fol (by kernel_rfl) (fun _ => by kernel_rfl) (fun L9 => ⟨(Un.wrap_succ (by omega)), trivial⟩) (fun L9 => ?_)
      refine nrm_thn ?_
      refine ⟨⟨⟨k + 1, none, 0⟩, by simp only; omega, by first | exact True.intro | (simp only; exact Un.all_step hk h7)⟩, ?_, by simp only; omega⟩
      show Weak ⟨[some (.slice (some ⟨b, o, none⟩) (u.length) (cap)), aI r, aI s, none, none, none, none, none, some (.int .i64 (↑(k + 1))), none, none, none, none, none, some (.int .i64 (↑k)), some (.slice (some ⟨b, o, none⟩) (u.length) (cap)), some (.int .i64 (((u.length : Nat) : Int))), some (.bool (decide (↑k < (((u.length : Nat) : Int))))), some (.int .i64 (↑k)), some (.int .i64 (↑(k + 1))), some (.slice (some ⟨b, o, none⟩) (u.length) (cap)), some (.int .i64 (↑k)), some (.pointer (some ⟨b, o + k, none⟩)), some (.int .i64 ((u).getD k 0)), some (.bool (Sb.inB ((u).getD k 0) (0) (1000000))), some (.bool (!(Sb.inB ((u).getD k 0) (0) (1000000)))), none, none, none, none, none, none, none, none, none, none, none, none, none, none, none, none, none, none, none, none, none, none, none, none, none, none, none, none, none, none, none], [.vue (b) (o) (iv (u))], []⟩ ⟨[some (.slice (some ⟨b, o, none⟩) (u.length) (cap)), aI r, aI s, none, none, none, none, none, some (.int .i64 ((((k + 1) : Nat) : Int))), none, none, none, none, none, none, none, none, none, none, none, none, none, none, none, none, none, none, none, none, none, none, none, none, none, none, none, none, none, none, none, none, none, none, none, none, none, none, none, none, none, none, none, none, none, none, none, none], [.vue (b) (o) (iv (u))], []⟩
      exact weak_to [true, true, true, false, false, false, false, false, true, false, false, false, false, false, false, false, false, false, false, false, false, false, false, false, false, false, false, false, false, false, false, false, false, false, false, false, false, false, false, false, false, false, false, false, false, false, false, false, false, false, false, false, false, false, false, false, false] [0] (by decide) (by kernel_rfl)
  ·
    have h5' := of_decide_eq_false h5
    exact absurd (hk _ (show hbad.choose < k by have := hbad.choose_spec.1; omega)) (by rw [hbad.choose_spec.2]; decide)

set_option maxRecDepth 100000 in
set_option maxHeartbeats 400000 in
theorem Un.ref3 (b o cap : Nat) (u : List Int) (r s : Int) (hl : u.length ≤ 16) (hL : decide ((((u.length : Nat) : Int)) > 16) = false) (hall : ∀ j, j < u.length → Sb.inB (u.getD j 0) 0 1000000 = true) (hr : ((Sb.unl (Sb.inB (r) (1) (1000000)) 2) != (0)) = true) : CallOb Try.prog 10 #[.slice (some ⟨b, o, none⟩) (u.length) (cap), aN r, aN s] [.vue (b) (o) (iv (u))] (.tuple #[.slice none 0 0, aN 2]) := by
  intro w hw
  refine calls_aw [some (.slice (some ⟨b, o, none⟩) (u.length) (cap)), aI r, aI s, aU, aU, aU, aU, aU, aU, aU, aU, aU, aU, aU, aU, aU, aU, aU, aU, aU, aU, aU, aU, aU, aU, aU, aU, aU, aU, aU, aU, aU, aU, aU, aU, aU, aU, aU, aU, aU, aU, aU, aU, aU, aU, aU, aU, aU, aU, aU, aU, aU, aU, aU, aU, aU, aU] [.vue (b) (o) (iv (u))] Try.func10 rfl (by kernel_rfl) (esOk hw (by simp [Cel.mine])) ?_
  refine aw_sr [⟨.pure, [], none, true⟩, ⟨.pure, [0], none, true⟩]
    (fun L1 => ⟨[some (.slice (some ⟨b, o, none⟩) (u.length) (cap)), aI r, aI s, aU, aU, aU, some (.slice none 0 0), aI 0, aU, aU, aU, aU, aU, aU, aU, aU, aU, aU, aU, aU, aU, aU, aU, aU, aU, aU, aU, aU, aU, aU, aU, aU, aU, aU, aU, aU, aU, aU, aU, aU, aU, aU, aU, aU, aU, aU, aU, aU, aU, aU, aU, aU, aU, aU, aU, aU, aU], [.vue (b) (o) (iv (u))], []⟩)
    (fun L1 => [])
    fol (by kernel_rfl) (fun _ => by kernel_rfl) (fun L1 => trivial) (fun L1 => ?_)
  refine aw_seq ?_
  refine aw_sr [⟨.pure, [], none, true⟩, ⟨.pure, [0], none, true⟩, ⟨.pure, [0, 1], none, true⟩]
    (fun L2 => ⟨[some (.slice (some ⟨b, o, none⟩) (u.length) (cap)), aI r, aI s, aU, aU, aU, some (.slice none 0 0), aI 0, aU, aU, aU, some (.slice (some ⟨b, o, none⟩) (u.length) (cap)), some (.int .i64 (((u.length : Nat) : Int))), some (.bool (decide ((((u.length : Nat) : Int)) > 16))), aU, aU, aU, aU, aU, aU, aU, aU, aU, aU, aU, aU, aU, aU, aU, aU, aU, aU, aU, aU, aU, aU, aU, aU, aU, aU, aU, aU, aU, aU, aU, aU, aU, aU, aU, aU, aU, aU, aU, aU, aU, aU, aU], [.vue (b) (o) (iv (u))], []⟩)
    (fun L2 => [])
    fol (by kernel_rfl) (fun _ => by kernel_rfl) (fun L2 => trivial) (fun L2 => ?_)
  refine aw_false (decide ((((u.length : Nat) : Int)) > 16)) rfl hL ?_
  refine aw_skip ?_
  refine nrm_thn ?_
  refine aw_seq ?_
  refine aw_sr [⟨.pure, [], none, true⟩]
    (fun L3 => ⟨[some (.slice (some ⟨b, o, none⟩) (u.length) (cap)), aI r, aI s, aU, aU, aU, some (.slice none 0 0), aI 0, aI 0, aU, aU, some (.slice (some ⟨b, o, none⟩) (u.length) (cap)), some (.int .i64 (((u.length : Nat) : Int))), some (.bool (decide ((((u.length : Nat) : Int)) > 16))), aU, aU, aU, aU, aU, aU, aU, aU, aU, aU, aU, aU, aU, aU, aU, aU, aU, aU, aU, aU, aU, aU, aU, aU, aU, aU, aU, aU, aU, aU, aU, aU, aU, aU, aU, aU, aU, aU, aU, aU, aU, aU, aU], [.vue (b) (o) (iv (u))], []⟩)
    (fun L3 => [])
    fol (by kernel_rfl) (fun _ => by kernel_rfl) (fun L3 => trivial) (fun L3 => ?_)
  refine aw_block ?_
  refine aw_loop (ι := {i : Ix // i.k ≤ u.length ∧ (True)}) (fun i => ⟨[some (.slice (some ⟨b, o, none⟩) (u.length) (cap)), aI r, aI s, none, none, none, none, none, some (.int .i64 (((i.1.k : Nat) : Int))), none, none, none, none, none, none, none, none, none, none, none, none, none, none, none, none, none, none, none, none, none, none, none, none, none, none, none, none, none, none, none, none, none, none, none, none, none, none, none, none, none, none, none, none, none, none, none, none], [.vue (b) (o) (iv (u))], []⟩) (fun i => u.length - i.1.k) ⟨⟨0, none, 0⟩, Nat.zero_le _, trivial⟩ (weak_to [true, true, true, false, false, false, false, false, true, false, false, false, false, false, false, false, false, false, false, false, false, false, false, false, false, false, false, false, false, false, false, false, false, false, false, false, false, false, false, false, false, false, false, false, false, false, false, false, false, false, false, false, false, false, false, false, false] [0] (by decide) (by kernel_rfl)) ?_
  rintro ⟨⟨k, a, c⟩, hkn, hk⟩
  show Aw _ _ _ _ ⟨[some (.slice (some ⟨b, o, none⟩) (u.length) (cap)), aI r, aI s, none, none, none, none, none, some (.int .i64 (↑k)), none, none, none, none, none, none, none, none, none, none, none, none, none, none, none, none, none, none, none, none, none, none, none, none, none, none, none, none, none, none, none, none, none, none, none, none, none, none, none, none, none, none, none, none, none, none, none, none], [.vue (b) (o) (iv (u))], []⟩ _
  simp only at hk hkn
  refine aw_seq ?_
  refine aw_sr [⟨.pure, [], none, true⟩, ⟨.pure, [], none, true⟩, ⟨.pure, [1], none, true⟩, ⟨.pure, [0, 1, 2], none, true⟩]
    (fun L4 => ⟨[some (.slice (some ⟨b, o, none⟩) (u.length) (cap)), aI r, aI s, none, none, none, none, none, some (.int .i64 (↑k)), none, none, none, none, none, some (.int .i64 (↑k)), some (.slice (some ⟨b, o, none⟩) (u.length) (cap)), some (.int .i64 (((u.length : Nat) : Int))), some (.bool (decide (↑k < (((u.length : Nat) : Int))))), none, none, none, none, none, none, none, none, none, none, none, none, none, none, none, none, none, none, none, none, none, none, none, none, none, none, none, none, none, none, none, none, none, none, none, none, none, none, none], [.vue (b) (o) (iv (u))], []⟩)
    (fun L4 => [])
    fol (by kernel_rfl) (fun _ => by kernel_rfl) (fun L4 => trivial) (fun L4 => ?_)
  refine aw_cond (decide (↑k < (((u.length : Nat) : Int)))) rfl (fun h5 => ?_) (fun h5 => ?_)
  ·
    have h5' := of_decide_eq_true h5
    refine aw_skip ?_
    refine nrm_thn ?_
    refine aw_seq ?_
    refine aw_block ?_
    refine aw_sr [⟨.pure, [], none, true⟩, ⟨.pure, [], none, true⟩, ⟨.idx, [0, 1], some (.pointer (some ⟨b, o + k, none⟩)), true⟩, ⟨(.read 0), [0, 1, 2], some (.int .i64 ((u).getD k 0)), true⟩, ⟨(.call [] (.bool (Sb.inB ((u).getD k 0) (0) (1000000)))), [0, 1, 2, 3], none, true⟩, ⟨.pure, [0, 1, 2, 3, 4], none, true⟩]
      (fun L6 => ⟨[some (.slice (some ⟨b, o, none⟩) (u.length) (cap)), aI r, aI s, none, none, none, none, none, some (.int .i64 (↑k)), none, none, none, none, none, some (.int .i64 (↑k)), some (.slice (some ⟨b, o, none⟩) (u.length) (cap)), some (.int .i64 (((u.length : Nat) : Int))), some (.bool (decide (↑k < (((u.length : Nat) : Int))))), none, none, some (.slice (some ⟨b, o, none⟩) (u.length) (cap)), some (.int .i64 (↑k)), some (.pointer (some ⟨b, o + k, none⟩)), some (.int .i64 ((u).getD k 0)), some (.bool (Sb.inB ((u).getD k 0) (0) (1000000))), some (.bool (!(Sb.inB ((u).getD k 0) (0) (1000000)))), none, none, none, none, none, none, none, none, none, none, none, none, none, none, none, none, none, none, none, none, none, none, none, none, none, none, none, none, none, none, none], [.vue (b) (o) (iv (u))], []⟩)
      (fun L6 => [(.pointer (some ⟨b, o + Int.toNat (↑k) * 1, none⟩) : Value) = .pointer (some ⟨b, o + k, none⟩), (0 : Int) ≤ ↑k, (↑k) < ((u.length : Nat) : Int), (.int .i64 ((u).getD k 0) : Value) = .int .i64 ((u).getD k 0), b = b, ∃ j, o + k = o + j ∧ (iv (u))[j]? = some (.int .i64 ((u).getD k 0)), CallOb Try.prog 30 #[.int .i64 ((u).getD k 0), aN 0, aN 1000000] [] (.bool (Sb.inB ((u).getD k 0) (0) (1000000)))])
      fol (by kernel_rfl) (fun _ => by kernel_rfl) (fun L6 => ⟨(ptr_eq (by simp <;> omega)), (by omega), (by omega), rfl, rfl, ⟨k, rfl, iv_get (by omega)⟩, (Sb.withinR _ _ _), trivial⟩) (fun L6 => ?_)
    refine aw_false (!(Sb.inB ((u).getD k 0) (0) (1000000))) rfl (by rw [(hall k (by omega))]; rfl) ?_
    refine aw_skip ?_
    refine nrm_inB ?_
    refine nrm_thn ?_
    refine aw_region [⟨.pure, [], none, true⟩, ⟨.pure, [0], some (.int .i64 (↑(k + 1))), true⟩, ⟨.pure, [0, 1], none, true⟩]
      (fun L7 => ⟨[some (.slice (some ⟨b, o, none⟩) (u.length) (cap)), aI r, aI s, none, none, none, none, none, some (.int .i64 (↑(k + 1))), none, none, none, none, none, some (.int .i64 (↑k)), some (.slice (some ⟨b, o, none⟩) (u.length) (cap)), some (.int .i64 (((u.length : Nat) : Int))), some (.bool (decide (↑k < (((u.length : Nat) : Int))))), some (.int .i64 (↑k)), some (.int .i64 (↑(k + 1))), some (.slice (some ⟨b, o, none⟩) (u.length) (cap)), some (.int .i64 (↑k)), some (.pointer (some ⟨b, o + k, none⟩)), some (.int .i64 ((u).getD k 0)), some (.bool (Sb.inB ((u).getD k 0) (0) (1000000))), some (.bool (!(Sb.inB ((u).getD k 0) (0) (1000000)))), none, none, none, none, none, none, none, none, none, none, none, none, none, none, none, none, none, none, none, none, none, none, none, none, none, none, none, none, none, none, none], [.vue (b) (o) (iv (u))], []⟩)
      (fun L7 => [(.int .i64 (IntKind.i64.wrap ((↑k) + (1))) : Value) = .int .i64 (↑(k + 1))])
      fol (by kernel_rfl) (fun _ => by kernel_rfl) (fun L7 => ⟨(Un.wrap_succ (by omega)), trivial⟩) (fun L7 => ?_)
    refine nrm_thn ?_
    refine ⟨⟨⟨k + 1, none, 0⟩, by simp only; omega, by first | exact True.intro | (simp only; trivial)⟩, ?_, by simp only; omega⟩
    show Weak ⟨[some (.slice (some ⟨b, o, none⟩) (u.length) (cap)), aI r, aI s, none, none, none, none, none, some (.int .i64 (↑(k + 1))), none, none, none, none, none, some (.int .i64 (↑k)), some (.slice (some ⟨b, o, none⟩) (u.length) (cap)), some (.int .i64 (((u.length : Nat) : Int))), some (.bool (decide (↑k < (((u.length : Nat) : Int))))), some (.int .i64 (↑k)), some (.int .i64 (↑(k + 1))), some (.slice (some ⟨b, o, none⟩) (u.length) (cap)), some (.int .i64 (↑k)), some (.pointer (some ⟨b, o + k, none⟩)), some (.int .i64 ((u).getD k 0)), some (.bool (Sb.inB ((u).getD k 0) (0) (1000000))), some (.bool (!(Sb.inB ((u).getD k 0) (0) (1000000)))), none, none, none, none, none, none, none, none, none, none, none, none, none, none, none, none, none, none, none, none, none, none, none, none, none, none, none, none, none, none, none], [.vue (b) (o) (iv (u))], []⟩ ⟨[some (.slice (some ⟨b, o, none⟩) (u.length) (cap)), aI r, aI s, none, none, none, none, none, some (.int .i64 ((((k + 1) : Nat) : Int))), none, none, none, none, none, none, none, none, none, none, none, none, none, none, none, none, none, none, none, none, none, none, none, none, none, none, none, none, none, none, none, none, none, none, none, none, none, none, none, none, none, none, none, none, none, none, none, none], [.vue (b) (o) (iv (u))], []⟩
    exact weak_to [true, true, true, false, false, false, false, false, true, false, false, false, false, false, false, false, false, false, false, false, false, false, false, false, false, false, false, false, false, false, false, false, false, false, false, false, false, false, false, false, false, false, false, false, false, false, false, false, false, false, false, false, false, false, false, false, false] [0] (by decide) (by kernel_rfl)
  ·
    have h5' := of_decide_eq_false h5
    refine aw_exit ?_
    refine ex_thn ?_
    refine ex_thn ?_
    refine ex_hit ?_
    refine nrm_thn ?_
    refine aw_seq ?_
    refine aw_sr [⟨.pure, [], none, true⟩, ⟨(.call [] (.int .i64 (Sb.unl (Sb.inB (r) (1) (1000000)) 2))), [0], none, true⟩, ⟨.pure, [0, 1], none, true⟩, ⟨.pure, [0, 1, 2], none, true⟩, ⟨.pure, [0, 1, 2, 3], none, false⟩, ⟨.pure, [0, 1, 2, 3, 4], none, false⟩, ⟨.pure, [0, 1, 2, 3, 4, 5], none, false⟩, ⟨.pure, [0, 1, 2, 3, 4, 5, 6], aT, true⟩]
      (fun L8 => ⟨[some (.slice (some ⟨b, o, none⟩) (u.length) (cap)), aI r, aI s, none, none, none, none, none, some (.int .i64 (↑k)), none, none, none, none, none, some (.int .i64 (↑k)), some (.slice (some ⟨b, o, none⟩) (u.length) (cap)), some (.int .i64 (((u.length : Nat) : Int))), some (.bool (decide (↑k < (((u.length : Nat) : Int))))), none, none, none, none, none, none, none, none, aI r, some (.int .i64 (Sb.unl (Sb.inB (r) (1) (1000000)) 2)), some (.bool ((Sb.unl (Sb.inB (r) (1) (1000000)) 2) != (0))), some (.bool ((Sb.unl (Sb.inB (r) (1) (1000000)) 2) != (0))), aU, aU, aU, aT, none, none, none, none, none, none, none, none, none, none, none, none, none, none, none, none, none, none, none, none, none, none, none], [.vue (b) (o) (iv (u))], []⟩)
      (fun L8 => [CallOb Try.prog 31 #[aN r] [] (.int .i64 (Sb.unl (Sb.inB (r) (1) (1000000)) 2)), ((Sb.unl (Sb.inB (r) (1) (1000000)) 2) != (0)) = true, ((Sb.unl (Sb.inB (r) (1) (1000000)) 2) != (0)) = true, ((Sb.unl (Sb.inB (r) (1) (1000000)) 2) != (0)) = true, (if ((Sb.unl (Sb.inB (r) (1) (1000000)) 2) != (0)) = true then (.bool (true) : Value) else undef) = .bool (true)])
      fol (by kernel_rfl) (fun _ => by kernel_rfl) (fun L8 => ⟨(Un.echo_r _), hr, hr, hr, (by rw [hr]; rfl), trivial⟩) (fun L8 => ?_)
    refine aw_true (true) rfl rfl ?_
    refine aw_sr [⟨.pure, [], none, true⟩, ⟨.pure, [0], none, true⟩]
      (fun L9 => ⟨[some (.slice (some ⟨b, o, none⟩) (u.length) (cap)), aI r, aI s, none, none, none, some (.slice none 0 0), aI 2, some (.int .i64 (↑k)), none, none, none, none, none, some (.int .i64 (↑k)), some (.slice (some ⟨b, o, none⟩) (u.length) (cap)), some (.int .i64 (((u.length : Nat) : Int))), some (.bool (decide (↑k < (((u.length : Nat) : Int))))), none, none, none, none, none, none, none, none, aI r, some (.int .i64 (Sb.unl (Sb.inB (r) (1) (1000000)) 2)), some (.bool ((Sb.unl (Sb.inB (r) (1) (1000000)) 2) != (0))), some (.bool ((Sb.unl (Sb.inB (r) (1) (1000000)) 2) != (0))), aU, aU, aU, aT, none, none, none, none, none, none, none, none, none, none, none, none, none, none, none, none, none, none, none, none, none, none, none], [.vue (b) (o) (iv (u))], []⟩)
      (fun L9 => [])
      fol (by kernel_rfl) (fun _ => by kernel_rfl) (fun L9 => trivial) (fun L9 => ?_)
    refine aw_ret ?_
    refine ret_thn ?_
    refine fin_ret none [0, 0] (.tuple #[.slice none 0 0, aN 2]) [] (.inr rfl) rfl (by kernel_rfl) trivial (fun w' hb => ?_)
    exact ⟨rfl, hb⟩

set_option maxRecDepth 100000 in
set_option maxHeartbeats 400000 in
theorem Un.ref4 (b o cap : Nat) (u : List Int) (r s : Int) (hl : u.length ≤ 16) (hL : decide ((((u.length : Nat) : Int)) > 16) = false) (hall : ∀ j, j < u.length → Sb.inB (u.getD j 0) 0 1000000 = true) (hr : ((Sb.unl (Sb.inB (r) (1) (1000000)) 2) != (0)) = false) (hs : Sb.inB (s) (0) (1000) = false) : CallOb Try.prog 10 #[.slice (some ⟨b, o, none⟩) (u.length) (cap), aN r, aN s] [.vue (b) (o) (iv (u))] (.tuple #[.slice none 0 0, aN 2]) := by
  intro w hw
  refine calls_aw [some (.slice (some ⟨b, o, none⟩) (u.length) (cap)), aI r, aI s, aU, aU, aU, aU, aU, aU, aU, aU, aU, aU, aU, aU, aU, aU, aU, aU, aU, aU, aU, aU, aU, aU, aU, aU, aU, aU, aU, aU, aU, aU, aU, aU, aU, aU, aU, aU, aU, aU, aU, aU, aU, aU, aU, aU, aU, aU, aU, aU, aU, aU, aU, aU, aU, aU] [.vue (b) (o) (iv (u))] Try.func10 rfl (by kernel_rfl) (esOk hw (by simp [Cel.mine])) ?_
  refine aw_sr [⟨.pure, [], none, true⟩, ⟨.pure, [0], none, true⟩]
    (fun L1 => ⟨[some (.slice (some ⟨b, o, none⟩) (u.length) (cap)), aI r, aI s, aU, aU, aU, some (.slice none 0 0), aI 0, aU, aU, aU, aU, aU, aU, aU, aU, aU, aU, aU, aU, aU, aU, aU, aU, aU, aU, aU, aU, aU, aU, aU, aU, aU, aU, aU, aU, aU, aU, aU, aU, aU, aU, aU, aU, aU, aU, aU, aU, aU, aU, aU, aU, aU, aU, aU, aU, aU], [.vue (b) (o) (iv (u))], []⟩)
    (fun L1 => [])
    fol (by kernel_rfl) (fun _ => by kernel_rfl) (fun L1 => trivial) (fun L1 => ?_)
  refine aw_seq ?_
  refine aw_sr [⟨.pure, [], none, true⟩, ⟨.pure, [0], none, true⟩, ⟨.pure, [0, 1], none, true⟩]
    (fun L2 => ⟨[some (.slice (some ⟨b, o, none⟩) (u.length) (cap)), aI r, aI s, aU, aU, aU, some (.slice none 0 0), aI 0, aU, aU, aU, some (.slice (some ⟨b, o, none⟩) (u.length) (cap)), some (.int .i64 (((u.length : Nat) : Int))), some (.bool (decide ((((u.length : Nat) : Int)) > 16))), aU, aU, aU, aU, aU, aU, aU, aU, aU, aU, aU, aU, aU, aU, aU, aU, aU, aU, aU, aU, aU, aU, aU, aU, aU, aU, aU, aU, aU, aU, aU, aU, aU, aU, aU, aU, aU, aU, aU, aU, aU, aU, aU], [.vue (b) (o) (iv (u))], []⟩)
    (fun L2 => [])
    fol (by kernel_rfl) (fun _ => by kernel_rfl) (fun L2 => trivial) (fun L2 => ?_)
  refine aw_false (decide ((((u.length : Nat) : Int)) > 16)) rfl hL ?_
  refine aw_skip ?_
  refine nrm_thn ?_
  refine aw_seq ?_
  refine aw_sr [⟨.pure, [], none, true⟩]
    (fun L3 => ⟨[some (.slice (some ⟨b, o, none⟩) (u.length) (cap)), aI r, aI s, aU, aU, aU, some (.slice none 0 0), aI 0, aI 0, aU, aU, some (.slice (some ⟨b, o, none⟩) (u.length) (cap)), some (.int .i64 (((u.length : Nat) : Int))), some (.bool (decide ((((u.length : Nat) : Int)) > 16))), aU, aU, aU, aU, aU, aU, aU, aU, aU, aU, aU, aU, aU, aU, aU, aU, aU, aU, aU, aU, aU, aU, aU, aU, aU, aU, aU, aU, aU, aU, aU, aU, aU, aU, aU, aU, aU, aU, aU, aU, aU, aU, aU], [.vue (b) (o) (iv (u))], []⟩)
    (fun L3 => [])
    fol (by kernel_rfl) (fun _ => by kernel_rfl) (fun L3 => trivial) (fun L3 => ?_)
  refine aw_block ?_
  refine aw_loop (ι := {i : Ix // i.k ≤ u.length ∧ (True)}) (fun i => ⟨[some (.slice (some ⟨b, o, none⟩) (u.length) (cap)), aI r, aI s, none, none, none, none, none, some (.int .i64 (((i.1.k : Nat) : Int))), none, none, none, none, none, none, none, none, none, none, none, none, none, none, none, none, none, none, none, none, none, none, none, none, none, none, none, none, none, none, none, none, none, none, none, none, none, none, none, none, none, none, none, none, none, none, none, none], [.vue (b) (o) (iv (u))], []⟩) (fun i => u.length - i.1.k) ⟨⟨0, none, 0⟩, Nat.zero_le _, trivial⟩ (weak_to [true, true, true, false, false, false, false, false, true, false, false, false, false, false, false, false, false, false, false, false, false, false, false, false, false, false, false, false, false, false, false, false, false, false, false, false, false, false, false, false, false, false, false, false, false, false, false, false, false, false, false, false, false, false, false, false, false] [0] (by decide) (by kernel_rfl)) ?_
  rintro ⟨⟨k, a, c⟩, hkn, hk⟩
  show Aw _ _ _ _ ⟨[some (.slice (some ⟨b, o, none⟩) (u.length) (cap)), aI r, aI s, none, none, none, none, none, some (.int .i64 (↑k)), none, none, none, none, none, none, none, none, none, none, none, none, none, none, none, none, none, none, none, none, none, none, none, none, none, none, none, none, none, none, none, none, none, none, none, none, none, none, none, none, none, none, none, none, none, none, none, none], [.vue (b) (o) (iv (u))], []⟩ _
  simp only at hk hkn
  refine aw_seq ?_
  refine aw_sr [⟨.pure, [], none, true⟩, ⟨.pure, [], none, true⟩, ⟨.pure, [1], none, true⟩, ⟨.pure, [0, 1, 2], none, true⟩]
    (fun L4 => ⟨[some (.slice (some ⟨b, o, none⟩) (u.length) (cap)), aI r, aI s, none, none, none, none, none, some (.int .i64 (↑k)), none, none, none, none, none, some (.int .i64 (↑k)), some (.slice (some ⟨b, o, none⟩) (u.length) (cap)), some (.int .i64 (((u.length : Nat) : Int))), some (.bool (decide (↑k < (((u.length : Nat) : Int))))), none, none, none, none, none, none, none, none, none, none, none, none, none, none, none, none, none, none, none, none, none, none, none, none, none, none, none, none, none, none, none, none, none, none, none, none, none, none, none], [.vue (b) (o) (iv (u))], []⟩)
    (fun L4 => [])
    fol (by kernel_rfl) (fun _ => by kernel_rfl) (fun L4 => trivial) (fun L4 => ?_)
  refine aw_cond (decide (↑k < (((u.length : Nat) : Int)))) rfl (fun h5 => ?_) (fun h5 => ?_)
  ·
    have h5' := of_decide_eq_true h5
    refine aw_skip ?_
    refine nrm_thn ?_
    refine aw_seq ?_
    refine aw_block ?_
    refine aw_sr [⟨.pure, [], none, true⟩, ⟨.pure, [], none, true⟩, ⟨.idx, [0, 1], some (.pointer (some ⟨b, o + k, none⟩)), true⟩, ⟨(.read 0), [0, 1, 2], some (.int .i64 ((u).getD k 0)), true⟩, ⟨(.call [] (.bool (Sb.inB ((u).getD k 0) (0) (1000000)))), [0, 1, 2, 3], none, true⟩, ⟨.pure, [0, 1, 2, 3, 4], none, true⟩]
      (fun L6 => ⟨[some (.slice (some ⟨b, o, none⟩) (u.length) (cap)), aI r, aI s, none, none, none, none, none, some (.int .i64 (↑k)), none, none, none, none, none, some (.int .i64 (↑k)), some (.slice (some ⟨b, o, none⟩) (u.length) (cap)), some (.int .i64 (((u.length : Nat) : Int))), some (.bool (decide (↑k < (((u.length : Nat) : Int))))), none, none, some (.slice (some ⟨b, o, none⟩) (u.length) (cap)), some (.int .i64 (↑k)), some (.pointer (some ⟨b, o + k, none⟩)), some (.int .i64 ((u).getD k 0)), some (.bool (Sb.inB ((u).getD k 0) (0) (1000000))), some (.bool (!(Sb.inB ((u).getD k 0) (0) (1000000)))), none, none, none, none, none, none, none, none, none, none, none, none, none, none, none, none, none, none, none, none, none, none, none, none, none, none, none, none, none, none, none], [.vue (b) (o) (iv (u))], []⟩)
      (fun L6 => [(.pointer (some ⟨b, o + Int.toNat (↑k) * 1, none⟩) : Value) = .pointer (some ⟨b, o + k, none⟩), (0 : Int) ≤ ↑k, (↑k) < ((u.length : Nat) : Int), (.int .i64 ((u).getD k 0) : Value) = .int .i64 ((u).getD k 0), b = b, ∃ j, o + k = o + j ∧ (iv (u))[j]? = some (.int .i64 ((u).getD k 0)), CallOb Try.prog 30 #[.int .i64 ((u).getD k 0), aN 0, aN 1000000] [] (.bool (Sb.inB ((u).getD k 0) (0) (1000000)))])
      fol (by kernel_rfl) (fun _ => by kernel_rfl) (fun L6 => ⟨(ptr_eq (by simp <;> omega)), (by omega), (by omega), rfl, rfl, ⟨k, rfl, iv_get (by omega)⟩, (Sb.withinR _ _ _), trivial⟩) (fun L6 => ?_)
    refine aw_false (!(Sb.inB ((u).getD k 0) (0) (1000000))) rfl (by rw [(hall k (by omega))]; rfl) ?_
    refine aw_skip ?_
    refine nrm_inB ?_
    refine nrm_thn ?_
    refine aw_region [⟨.pure, [], none, true⟩, ⟨.pure, [0], some (.int .i64 (↑(k + 1))), true⟩, ⟨.pure, [0, 1], none, true⟩]
      (fun L7 => ⟨[some (.slice (some ⟨b, o, none⟩) (u.length) (cap)), aI r, aI s, none, none, none, none, none, some (.int .i64 (↑(k + 1))), none, none, none, none, none, some (.int .i64 (↑k)), some (.slice (some ⟨b, o, none⟩) (u.length) (cap)), some (.int .i64 (((u.length : Nat) : Int))), some (.bool (decide (↑k < (((u.length : Nat) : Int))))), some (.int .i64 (↑k)), some (.int .i64 (↑(k + 1))), some (.slice (some ⟨b, o, none⟩) (u.length) (cap)), some (.int .i64 (↑k)), some (.pointer (some ⟨b, o + k, none⟩)), some (.int .i64 ((u).getD k 0)), some (.bool (Sb.inB ((u).getD k 0) (0) (1000000))), some (.bool (!(Sb.inB ((u).getD k 0) (0) (1000000)))), none, none, none, none, none, none, none, none, none, none, none, none, none, none, none, none, none, none, none, none, none, none, none, none, none, none, none, none, none, none, none], [.vue (b) (o) (iv (u))], []⟩)
      (fun L7 => [(.int .i64 (IntKind.i64.wrap ((↑k) + (1))) : Value) = .int .i64 (↑(k + 1))])
      fol (by kernel_rfl) (fun _ => by kernel_rfl) (fun L7 => ⟨(Un.wrap_succ (by omega)), trivial⟩) (fun L7 => ?_)
    refine nrm_thn ?_
    refine ⟨⟨⟨k + 1, none, 0⟩, by simp only; omega, by first | exact True.intro | (simp only; trivial)⟩, ?_, by simp only; omega⟩
    show Weak ⟨[some (.slice (some ⟨b, o, none⟩) (u.length) (cap)), aI r, aI s, none, none, none, none, none, some (.int .i64 (↑(k + 1))), none, none, none, none, none, some (.int .i64 (↑k)), some (.slice (some ⟨b, o, none⟩) (u.length) (cap)), some (.int .i64 (((u.length : Nat) : Int))), some (.bool (decide (↑k < (((u.length : Nat) : Int))))), some (.int .i64 (↑k)), some (.int .i64 (↑(k + 1))), some (.slice (some ⟨b, o, none⟩) (u.length) (cap)), some (.int .i64 (↑k)), some (.pointer (some ⟨b, o + k, none⟩)), some (.int .i64 ((u).getD k 0)), some (.bool (Sb.inB ((u).getD k 0) (0) (1000000))), some (.bool (!(Sb.inB ((u).getD k 0) (0) (1000000)))), none, none, none, none, none, none, none, none, none, none, none, none, none, none, none, none, none, none, none, none, none, none, none, none, none, none, none, none, none, none, none], [.vue (b) (o) (iv (u))], []⟩ ⟨[some (.slice (some ⟨b, o, none⟩) (u.length) (cap)), aI r, aI s, none, none, none, none, none, some (.int .i64 ((((k + 1) : Nat) : Int))), none, none, none, none, none, none, none, none, none, none, none, none, none, none, none, none, none, none, none, none, none, none, none, none, none, none, none, none, none, none, none, none, none, none, none, none, none, none, none, none, none, none, none, none, none, none, none, none], [.vue (b) (o) (iv (u))], []⟩
    exact weak_to [true, true, true, false, false, false, false, false, true, false, false, false, false, false, false, false, false, false, false, false, false, false, false, false, false, false, false, false, false, false, false, false, false, false, false, false, false, false, false, false, false, false, false, false, false, false, false, false, false, false, false, false, false, false, false, false, false] [0] (by decide) (by kernel_rfl)
  ·
    have h5' := of_decide_eq_false h5
    refine aw_exit ?_
    refine ex_thn ?_
    refine ex_thn ?_
    refine ex_hit ?_
    refine nrm_thn ?_
    refine aw_seq ?_
    refine aw_sr [⟨.pure, [], none, true⟩, ⟨(.call [] (.int .i64 (Sb.unl (Sb.inB (r) (1) (1000000)) 2))), [0], none, true⟩, ⟨.pure, [0, 1], none, true⟩, ⟨.pure, [0, 1, 2], none, true⟩, ⟨.pure, [0, 1, 2, 3], none, true⟩, ⟨(.call [] (.bool (Sb.inB (s) (0) (1000)))), [0, 1, 2, 3, 4], none, true⟩, ⟨.pure, [0, 1, 2, 3, 4, 5], none, true⟩, ⟨.pure, [0, 1, 2, 3, 4, 5, 6], some (.bool (!(Sb.inB (s) (0) (1000)))), true⟩]
      (fun L8 => ⟨[some (.slice (some ⟨b, o, none⟩) (u.length) (cap)), aI r, aI s, none, none, none, none, none, some (.int .i64 (↑k)), none, none, none, none, none, some (.int .i64 (↑k)), some (.slice (some ⟨b, o, none⟩) (u.length) (cap)), some (.int .i64 (((u.length : Nat) : Int))), some (.bool (decide (↑k < (((u.length : Nat) : Int))))), none, none, none, none, none, none, none, none, aI r, some (.int .i64 (Sb.unl (Sb.inB (r) (1) (1000000)) 2)), some (.bool ((Sb.unl (Sb.inB (r) (1) (1000000)) 2) != (0))), some (.bool ((Sb.unl (Sb.inB (r) (1) (1000000)) 2) != (0))), aI s, some (.bool (Sb.inB (s) (0) (1000))), some (.bool (!(Sb.inB (s) (0) (1000)))), some (.bool (!(Sb.inB (s) (0) (1000)))), none, none, none, none, none, none, none, none, none, none, none, none, none, none, none, none, none, none, none, none, none, none, none], [.vue (b) (o) (iv (u))], []⟩)
      (fun L8 => [CallOb Try.prog 31 #[aN r] [] (.int .i64 (Sb.unl (Sb.inB (r) (1) (1000000)) 2)), ((Sb.unl (Sb.inB (r) (1) (1000000)) 2) != (0)) = false, ((Sb.unl (Sb.inB (r) (1) (1000000)) 2) != (0)) = false, CallOb Try.prog 30 #[aN s, aN 0, aN 1000] [] (.bool (Sb.inB (s) (0) (1000))), ((Sb.unl (Sb.inB (r) (1) (1000000)) 2) != (0)) = false, (if ((Sb.unl (Sb.inB (r) (1) (1000000)) 2) != (0)) = true then (.bool (true) : Value) else .bool (!(Sb.inB (s) (0) (1000)))) = .bool (!(Sb.inB (s) (0) (1000)))])
      fol (by kernel_rfl) (fun _ => by kernel_rfl) (fun L8 => ⟨(Un.echo_r _), hr, hr, (Sb.withinR _ _ _), hr, (by rw [hr]; rfl), trivial⟩) (fun L8 => ?_)
    refine aw_true (!(Sb.inB (s) (0) (1000))) rfl (by rw [hs]; rfl) ?_
    refine aw_sr [⟨.pure, [], none, true⟩, ⟨.pure, [0], none, true⟩]
      (fun L9 => ⟨[some (.slice (some ⟨b, o, none⟩) (u.length) (cap)), aI r, aI s, none, none, none, some (.slice none 0 0), aI 2, some (.int .i64 (↑k)), none, none, none, none, none, some (.int .i64 (↑k)), some (.slice (some ⟨b, o, none⟩) (u.length) (cap)), some (.int .i64 (((u.length : Nat) : Int))), some (.bool (decide (↑k < (((u.length : Nat) : Int))))), none, none, none, none, none, none, none, none, aI r, some (.int .i64 (Sb.unl (Sb.inB (r) (1) (1000000)) 2)), some (.bool ((Sb.unl (Sb.inB (r) (1) (1000000)) 2) != (0))), some (.bool ((Sb.unl (Sb.inB (r) (1) (1000000)) 2) != (0))), aI s, some (.bool (Sb.inB (s) (0) (1000))), some (.bool (!(Sb.inB (s) (0) (1000)))), some (.bool (!(Sb.inB (s) (0) (1000)))), none, none, none, none, none, none, none, none, none, none, none, none, none, none, none, none, none, none, none, none, none, none, none], [.vue (b) (o) (iv (u))], []⟩)
      (fun L9 => [])
      fol (by kernel_rfl) (fun _ => by kernel_rfl) (fun L9 => trivial) (fun L9 => ?_)
    refine aw_ret ?_
    refine ret_thn ?_
    refine fin_ret none [0, 0] (.tuple #[.slice none 0 0, aN 2]) [] (.inr rfl) rfl (by kernel_rfl) trivial (fun w' hb => ?_)
    exact ⟨rfl, hb⟩

set_option maxRecDepth 100000 in
set_option maxHeartbeats 400000 in
theorem Un.ref5 (b o cap : Nat) (u : List Int) (r s : Int) (hl : u.length ≤ 16) (hL : decide ((((u.length : Nat) : Int)) > 16) = false) (hall : ∀ j, j < u.length → Sb.inB (u.getD j 0) 0 1000000 = true) (hr : ((Sb.unl (Sb.inB (r) (1) (1000000)) 2) != (0)) = false) (hs : Sb.inB (s) (0) (1000) = true) : CallN Try.prog 10 #[.slice (some ⟨b, o, none⟩) (u.length) (cap), aN r, aN s] [.vue (b) (o) (iv (u))] (fun l => .tuple #[.slice (l.a) ((Un.fl (Un.p u r s) u.length).length) (l.n), aN 0]) (fun l => .row (l.a) ((Un.fl (Un.p u r s) u.length).length) (l.n) 1 (iv (Un.fl (Un.p u r s) u.length)) 3 true) := by
  intro w hw
  refine calls_aw [some (.slice (some ⟨b, o, none⟩) (u.length) (cap)), aI r, aI s, aU, aU, aU, aU, aU, aU, aU, aU, aU, aU, aU, aU, aU, aU, aU, aU, aU, aU, aU, aU, aU, aU, aU, aU, aU, aU, aU, aU, aU, aU, aU, aU, aU, aU, aU, aU, aU, aU, aU, aU, aU, aU, aU, aU, aU, aU, aU, aU, aU, aU, aU, aU, aU, aU] [.vue (b) (o) (iv (u))] Try.func10 rfl (by kernel_rfl) (esOk hw (by simp [Cel.mine])) ?_
  refine aw_sr [⟨.pure, [], none, true⟩, ⟨.pure, [0], none, true⟩]
    (fun L1 => ⟨[some (.slice (some ⟨b, o, none⟩) (u.length) (cap)), aI r, aI s, aU, aU, aU, some (.slice none 0 0), aI 0, aU, aU, aU, aU, aU, aU, aU, aU, aU, aU, aU, aU, aU, aU, aU, aU, aU, aU, aU, aU, aU, aU, aU, aU, aU, aU, aU, aU, aU, aU, aU, aU, aU, aU, aU, aU, aU, aU, aU, aU, aU, aU, aU, aU, aU, aU, aU, aU, aU], [.vue (b) (o) (iv (u))], []⟩)
    (fun L1 => [])
    fol (by kernel_rfl) (fun _ => by kernel_rfl) (fun L1 => trivial) (fun L1 => ?_)
  refine aw_seq ?_
  refine aw_sr [⟨.pure, [], none, true⟩, ⟨.pure, [0], none, true⟩, ⟨.pure, [0, 1], none, true⟩]
    (fun L2 => ⟨[some (.slice (some ⟨b, o, none⟩) (u.length) (cap)), aI r, aI s, aU, aU, aU, some (.slice none 0 0), aI 0, aU, aU, aU, some (.slice (some ⟨b, o, none⟩) (u.length) (cap)), some (.int .i64 (((u.length : Nat) : Int))), some (.bool (decide ((((u.length : Nat) : Int)) > 16))), aU, aU, aU, aU, aU, aU, aU, aU, aU, aU, aU, aU, aU, aU, aU, aU, aU, aU, aU, aU, aU, aU, aU, aU, aU, aU, aU, aU, aU, aU, aU, aU, aU, aU, aU, aU, aU, aU, aU, aU, aU, aU, aU], [.vue (b) (o) (iv (u))], []⟩)
    (fun L2 => [])
    fol (by kernel_rfl) (fun _ => by kernel_rfl) (fun L2 => trivial) (fun L2 => ?_)
  refine aw_false (decide ((((u.length : Nat) : Int)) > 16)) rfl hL ?_
  refine aw_skip ?_
  refine nrm_thn ?_
  refine aw_seq ?_
  refine aw_sr [⟨.pure, [], none, true⟩]
    (fun L3 => ⟨[some (.slice (some ⟨b, o, none⟩) (u.length) (cap)), aI r, aI s, aU, aU, aU, some (.slice none 0 0), aI 0, aI 0, aU, aU, some (.slice (some ⟨b, o, none⟩) (u.length) (cap)), some (.int .i64 (((u.length : Nat) : Int))), some (.bool (decide ((((u.length : Nat) : Int)) > 16))), aU, aU, aU, aU, aU, aU, aU, aU, aU, aU, aU, aU, aU, aU, aU, aU, aU, aU, aU, aU, aU, aU, aU, aU, aU, aU, aU, aU, aU, aU, aU, aU, aU, aU, aU, aU, aU, aU, aU, aU, aU, aU, aU], [.vue (b) (o) (iv (u))], []⟩)
    (fun L3 => [])
    fol (by kernel_rfl) (fun _ => by kernel_rfl) (fun L3 => trivial) (fun L3 => ?_)
  refine aw_block ?_
  refine aw_loop (ι := {i : Ix // i.k ≤ u.length ∧ (True)}) (fun i => ⟨[some (.slice (some ⟨b, o, none⟩) (u.length) (cap)), aI r, aI s, none, none, none, none, none, some (.int .i64 (((i.1.k : Nat) : Int))), none, none, none, none, none, none, none, none, none, none, none, none, none, none, none, none, none, none, none, none, none, none, none, none, none, none, none, none, none, none, none, none, none, none, none, none, none, none, none, none, none, none, none, none, none, none, none, none], [.vue (b) (o) (iv (u))], []⟩) (fun i => u.length - i.1.k) ⟨⟨0, none, 0⟩, Nat.zero_le _, trivial⟩ (weak_to [true, true, true, false, false, false, false, false, true, false, false, false, false, false, false, false, false, false, false, false, false, false, false, false, false, false, false, false, false, false, false, false, false, false, false, false, false, false, false, false, false, false, false, false, false, false, false, false, false, false, false, false, false, false, false, false, false] [0] (by decide) (by kernel_rfl)) ?_
  rintro ⟨⟨k, a, c⟩, hkn, hk⟩
  show Aw _ _ _ _ ⟨[some (.slice (some ⟨b, o, none⟩) (u.length) (cap)), aI r, aI s, none, none, none, none, none, some (.int .i64 (↑k)), none, none, none, none, none, none, none, none, none, none, none, none, none, none, none, none, none, none, none, none, none, none, none, none, none, none, none, none, none, none, none, none, none, none, none, none, none, none, none, none, none, none, none, none, none, none, none, none], [.vue (b) (o) (iv (u))], []⟩ _
  simp only at hk hkn
  refine aw_seq ?_
  refine aw_sr [⟨.pure, [], none, true⟩, ⟨.pure, [], none, true⟩, ⟨.pure, [1], none, true⟩, ⟨.pure, [0, 1, 2], none, true⟩]
    (fun L4 => ⟨[some (.slice (some ⟨b, o, none⟩) (u.length) (cap)), aI r, aI s, none, none, none, none, none, some (.int .i64 (↑k)), none, none, none, none, none, some (.int .i64 (↑k)), some (.slice (some ⟨b, o, none⟩) (u.length) (cap)), some (.int .i64 (((u.length : Nat) : Int))), some (.bool (decide (↑k < (((u.length : Nat) : Int))))), none, none, none, none, none, none, none, none, none, none, none, none, none, none, none, none, none, none, none, none, none, none, none, none, none, none, none, none, none, none, none, none, none, none, none, none, none, none, none], [.vue (b) (o) (iv (u))], []⟩)
    (fun L4 => [])
    fol (by kernel_rfl) (fun _ => by kernel_rfl) (fun L4 => trivial) (fun L4 => ?_)
  refine aw_cond (decide (↑k < (((u.length : Nat) : Int)))) rfl (fun h5 => ?_) (fun h5 => ?_)
  ·
    have h5' := of_decide_eq_true h5
    refine aw_skip ?_
    refine nrm_thn ?_
    refine aw_seq ?_
    refine aw_block ?_
    refine aw_sr [⟨.pure, [], none, true⟩, ⟨.pure, [], none, true⟩, ⟨.idx, [0, 1], some (.pointer (some ⟨b, o + k, none⟩)), true⟩, ⟨(.read 0), [0, 1, 2], some (.int .i64 ((u).getD k 0)), true⟩, ⟨(.call [] (.bool (Sb.inB ((u).getD k 0) (0) (1000000)))), [0, 1, 2, 3], none, true⟩, ⟨.pure, [0, 1, 2, 3, 4], none, true⟩]
      (fun L6 => ⟨[some (.slice (some ⟨b, o, none⟩) (u.length) (cap)), aI r, aI s, none, none, none, none, none, some (.int .i64 (↑k)), none, none, none, none, none, some (.int .i64 (↑k)), some (.slice (some ⟨b, o, none⟩) (u.length) (cap)), some (.int .i64 (((u.length : Nat) : Int))), some (.bool (decide (↑k < (((u.length : Nat) : Int))))), none, none, some (.slice (some ⟨b, o, none⟩) (u.length) (cap)), some (.int .i64 (↑k)), some (.pointer (some ⟨b, o + k, none⟩)), some (.int .i64 ((u).getD k 0)), some (.bool (Sb.inB ((u).getD k 0) (0) (1000000))), some (.bool (!(Sb.inB ((u).getD k 0) (0) (1000000)))), none, none, none, none, none, none, none, none, none, none, none, none, none, none, none, none, none, none, none, none, none, none, none, none, none, none, none, none, none, none, none], [.vue (b) (o) (iv (u))], []⟩)
      (fun L6 => [(.pointer (some ⟨b, o + Int.toNat (↑k) * 1, none⟩) : Value) = .pointer (some ⟨b, o + k, none⟩), (0 : Int) ≤ ↑k, (↑k) < ((u.length : Nat) : Int), (.int .i64 ((u).getD k 0) : Value) = .int .i64 ((u).getD k 0), b = b, ∃ j, o + k = o + j ∧ (iv (u))[j]? = some (.int .i64 ((u).getD k 0)), CallOb Try.prog 30 #[.int .i64 ((u).getD k 0), aN 0, aN 1000000] [] (.bool (Sb.inB ((u).getD k 0) (0) (1000000)))])
      fol (by kernel_rfl) (fun _ => by kernel_rfl) (fun L6 => ⟨(ptr_eq (by simp <;> omega)), (by omega), (by omega), rfl, rfl, ⟨k, rfl, iv_get (by omega)⟩, (Sb.withinR _ _ _), trivial⟩) (fun L6 => ?_)
    refine aw_false (!(Sb.inB ((u).getD k 0) (0) (1000000))) rfl (by rw [(hall k (by omega))]; rfl) ?_
    refine aw_skip ?_
    refine nrm_inB ?_
    refine nrm_thn ?_
    refine aw_region [⟨.pure, [], none, true⟩, ⟨.pure, [0], some (.int .i64 (↑(k + 1))), true⟩, ⟨.pure, [0, 1], none, true⟩]
      (fun L7 => ⟨[some (.slice (some ⟨b, o, none⟩) (u.length) (cap)), aI r, aI s, none, none, none, none, none, some (.int .i64 (↑(k + 1))), none, none, none, none, none, some (.int .i64 (↑k)), some (.slice (some ⟨b, o, none⟩) (u.length) (cap)), some (.int .i64 (((u.length : Nat) : Int))), some (.bool (decide (↑k < (((u.length : Nat) : Int))))), some (.int .i64 (↑k)), some (.int .i64 (↑(k + 1))), some (.slice (some ⟨b, o, none⟩) (u.length) (cap)), some (.int .i64 (↑k)), some (.pointer (some ⟨b, o + k, none⟩)), some (.int .i64 ((u).getD k 0)), some (.bool (Sb.inB ((u).getD k 0) (0) (1000000))), some (.bool (!(Sb.inB ((u).getD k 0) (0) (1000000)))), none, none, none, none, none, none, none, none, none, none, none, none, none, none, none, none, none, none, none, none, none, none, none, none, none, none, none, none, none, none, none], [.vue (b) (o) (iv (u))], []⟩)
      (fun L7 => [(.int .i64 (IntKind.i64.wrap ((↑k) + (1))) : Value) = .int .i64 (↑(k + 1))])
      fol (by kernel_rfl) (fun _ => by kernel_rfl) (fun L7 => ⟨(Un.wrap_succ (by omega)), trivial⟩) (fun L7 => ?_)
    refine nrm_thn ?_
    refine ⟨⟨⟨k + 1, none, 0⟩, by simp only; omega, by first | exact True.intro | (simp only; trivial)⟩, ?_, by simp only; omega⟩
    show Weak ⟨[some (.slice (some ⟨b, o, none⟩) (u.length) (cap)), aI r, aI s, none, none, none, none, none, some (.int .i64 (↑(k + 1))), none, none, none, none, none, some (.int .i64 (↑k)), some (.slice (some ⟨b, o, none⟩) (u.length) (cap)), some (.int .i64 (((u.length : Nat) : Int))), some (.bool (decide (↑k < (((u.length : Nat) : Int))))), some (.int .i64 (↑k)), some (.int .i64 (↑(k + 1))), some (.slice (some ⟨b, o, none⟩) (u.length) (cap)), some (.int .i64 (↑k)), some (.pointer (some ⟨b, o + k, none⟩)), some (.int .i64 ((u).getD k 0)), some (.bool (Sb.inB ((u).getD k 0) (0) (1000000))), some (.bool (!(Sb.inB ((u).getD k 0) (0) (1000000)))), none, none, none, none, none, none, none, none, none, none, none, none, none, none, none, none, none, none, none, none, none, none, none, none, none, none, none, none, none, none, none], [.vue (b) (o) (iv (u))], []⟩ ⟨[some (.slice (some ⟨b, o, none⟩) (u.length) (cap)), aI r, aI s, none, none, none, none, none, some (.int .i64 ((((k + 1) : Nat) : Int))), none, none, none, none, none, none, none, none, none, none, none, none, none, none, none, none, none, none, none, none, none, none, none, none, none, none, none, none, none, none, none, none, none, none, none, none, none, none, none, none, none, none, none, none, none, none, none, none], [.vue (b) (o) (iv (u))], []⟩
    exact weak_to [true, true, true, false, false, false, false, false, true, false, false, false, false, false, false, false, false, false, false, false, false, false, false, false, false, false, false, false, false, false, false, false, false, false, false, false, false, false, false, false, false, false, false, false, false, false, false, false, false, false, false, false, false, false, false, false, false] [0] (by decide) (by kernel_rfl)
  ·
    have h5' := of_decide_eq_false h5
    refine aw_exit ?_
    refine ex_thn ?_
    refine ex_thn ?_
    refine ex_hit ?_
    refine nrm_thn ?_
    refine aw_seq ?_
    refine aw_sr [⟨.pure, [], none, true⟩, ⟨(.call [] (.int .i64 (Sb.unl (Sb.inB (r) (1) (1000000)) 2))), [0], none, true⟩, ⟨.pure, [0, 1], none, true⟩, ⟨.pure, [0, 1, 2], none, true⟩, ⟨.pure, [0, 1, 2, 3], none, true⟩, ⟨(.call [] (.bool (Sb.inB (s) (0) (1000)))), [0, 1, 2, 3, 4], none, true⟩, ⟨.pure, [0, 1, 2, 3, 4, 5], none, true⟩, ⟨.pure, [0, 1, 2, 3, 4, 5, 6], some (.bool (!(Sb.inB (s) (0) (1000)))), true⟩]
      (fun L8 => ⟨[some (.slice (some ⟨b, o, none⟩) (u.length) (cap)), aI r, aI s, none, none, none, none, none, some (.int .i64 (↑k)), none, none, none, none, none, some (.int .i64 (↑k)), some (.slice (some ⟨b, o, none⟩) (u.length) (cap)), some (.int .i64 (((u.length : Nat) : Int))), some (.bool (decide (↑k < (((u.length : Nat) : Int))))), none, none, none, none, none, none, none, none, aI r, some (.int .i64 (Sb.unl (Sb.inB (r) (1) (1000000)) 2)), some (.bool ((Sb.unl (Sb.inB (r) (1) (1000000)) 2) != (0))), some (.bool ((Sb.unl (Sb.inB (r) (1) (1000000)) 2) != (0))), aI s, some (.bool (Sb.inB (s) (0) (1000))), some (.bool (!(Sb.inB (s) (0) (1000)))), some (.bool (!(Sb.inB (s) (0) (1000)))), none, none, none, none, none, none, none, none, none, none, none, none, none, none, none, none, none, none, none, none, none, none, none], [.vue (b) (o) (iv (u))], []⟩)
      (fun L8 => [CallOb Try.prog 31 #[aN r] [] (.int .i64 (Sb.unl (Sb.inB (r) (1) (1000000)) 2)), ((Sb.unl (Sb.inB (r) (1) (1000000)) 2) != (0)) = false, ((Sb.unl (Sb.inB (r) (1) (1000000)) 2) != (0)) = false, CallOb Try.prog 30 #[aN s, aN 0, aN 1000] [] (.bool (Sb.inB (s) (0) (1000))), ((Sb.unl (Sb.inB (r) (1) (1000000)) 2) != (0)) = false, (if ((Sb.unl (Sb.inB (r) (1) (1000000)) 2) != (0)) = true then (.bool (true) : Value) else .bool (!(Sb.inB (s) (0) (1000)))) = .bool (!(Sb.inB (s) (0) (1000)))])
      fol (by kernel_rfl) (fun _ => by kernel_rfl) (fun L8 => ⟨(Un.echo_r _), hr, hr, (Sb.withinR _ _ _), hr, (by rw [hr]; rfl), trivial⟩) (fun L8 => ?_)
    refine aw_false (!(Sb.inB (s) (0) (1000))) rfl (by rw [hs]; rfl) ?_
    refine aw_skip ?_
    refine nrm_thn ?_
    refine aw_sr [⟨.pure, [], none, true⟩]
      (fun L9 => ⟨[some (.slice (some ⟨b, o, none⟩) (u.length) (cap)), aI r, aI s, none, none, none, none, none, some (.int .i64 (↑k)), some (.slice none 0 0), none, none, none, none, some (.int .i64 (↑k)), some (.slice (some ⟨b, o, none⟩) (u.length) (cap)), some (.int .i64 (((u.length : Nat) : Int))), some (.bool (decide (↑k < (((u.length : Nat) : Int))))), none, none, none, none, none, none, none, none, aI r, some (.int .i64 (Sb.unl (Sb.inB (r) (1) (1000000)) 2)), some (.bool ((Sb.unl (Sb.inB (r) (1) (1000000)) 2) != (0))), some (.bool ((Sb.unl (Sb.inB (r) (1) (1000000)) 2) != (0))), aI s, some (.bool (Sb.inB (s) (0) (1000))), some (.bool (!(Sb.inB (s) (0) (1000)))), some (.bool (!(Sb.inB (s) (0) (1000)))), none, none, none, none, none, none, none, none, none, none, none, none, none, none, none, none, none, none, none, none, none, none, none], [.vue (b) (o) (iv (u))], []⟩)
      (fun L9 => [])
      fol (by kernel_rfl) (fun _ => by kernel_rfl) (fun L9 => trivial) (fun L9 => ?_)
    refine aw_seq ?_
    refine aw_sr [⟨.pure, [], none, true⟩]
      (fun L10 => ⟨[some (.slice (some ⟨b, o, none⟩) (u.length) (cap)), aI r, aI s, none, none, none, none, none, some (.int .i64 (↑k)), some (.slice none 0 0), aI 0, none, none, none, some (.int .i64 (↑k)), some (.slice (some ⟨b, o, none⟩) (u.length) (cap)), some (.int .i64 (((u.length : Nat) : Int))), some (.bool (decide (↑k < (((u.length : Nat) : Int))))), none, none, none, none, none, none, none, none, aI r, some (.int .i64 (Sb.unl (Sb.inB (r) (1) (1000000)) 2)), some (.bool ((Sb.unl (Sb.inB (r) (1) (1000000)) 2) != (0))), some (.bool ((Sb.unl (Sb.inB (r) (1) (1000000)) 2) != (0))), aI s, some (.bool (Sb.inB (s) (0) (1000))), some (.bool (!(Sb.inB (s) (0) (1000)))), some (.bool (!(Sb.inB (s) (0) (1000)))), none, none, none, none, none, none, none, none, none, none, none, none, none, none, none, none, none, none, none, none, none, none, none], [.vue (b) (o) (iv (u))], []⟩)
      (fun L10 => [])
      fol (by kernel_rfl) (fun _ => by kernel_rfl) (fun L10 => trivial) (fun L10 => ?_)
    refine aw_block ?_
    refine aw_weak (weak_nil _ 1 3) ?_
    refine aw_loop (ι := {i : Ix // i.k ≤ u.length ∧ (True)}) (fun i => ⟨[some (.slice (some ⟨b, o, none⟩) (u.length) (cap)), aI r, aI s, none, none, none, none, none, none, some (.slice (i.1.a) ((Un.fl (Un.p u r s) i.1.k).length) (i.1.c)), some (.int .i64 (((i.1.k : Nat) : Int))), none, none, none, none, none, none, none, none, none, none, none, none, none, none, none, none, none, none, none, none, none, none, none, none, none, none, none, none, none, none, none, none, none, none, none, none, none, none, none, none, none, none, none, none, none, none], [.vue (b) (o) (iv (u)), .row (i.1.a) ((Un.fl (Un.p u r s) i.1.k).length) (i.1.c) 1 (iv (Un.fl (Un.p u r s) i.1.k)) 3 true], []⟩) (fun i => u.length - i.1.k) ⟨⟨0, none, 0⟩, Nat.zero_le _, trivial⟩ (weak_to [true, true, true, false, false, false, false, false, false, true, true, false, false, false, false, false, false, false, false, false, false, false, false, false, false, false, false, false, false, false, false, false, false, false, false, false, false, false, false, false, false, false, false, false, false, false, false, false, false, false, false, false, false, false, false, false, false] [0, 1] (by decide) (by kernel_rfl)) ?_
    rintro ⟨⟨k, a, c⟩, hkn, hk⟩
    show Aw _ _ _ _ ⟨[some (.slice (some ⟨b, o, none⟩) (u.length) (cap)), aI r, aI s, none, none, none, none, none, none, some (.slice (a) ((Un.fl (Un.p u r s) k).length) (c)), some (.int .i64 (↑k)), none, none, none, none, none, none, none, none, none, none, none, none, none, none, none, none, none, none, none, none, none, none, none, none, none, none, none, none, none, none, none, none, none, none, none, none, none, none, none, none, none, none, none, none, none, none], [.vue (b) (o) (iv (u)), .row (a) ((Un.fl (Un.p u r s) k).length) (c) 1 (iv (Un.fl (Un.p u r s) k)) 3 true], []⟩ _
    simp only at hk hkn
    refine aw_seq ?_
    refine aw_sr [⟨.pure, [], none, true⟩, ⟨.pure, [], none, true⟩, ⟨.pure, [1], none, true⟩, ⟨.pure, [0, 1, 2], none, true⟩]
      (fun L11 => ⟨[some (.slice (some ⟨b, o, none⟩) (u.length) (cap)), aI r, aI s, none, none, none, none, none, none, some (.slice (a) ((Un.fl (Un.p u r s) k).length) (c)), some (.int .i64 (↑k)), none, none, none, none, none, none, none, none, none, none, none, none, none, none, none, none, none, none, none, none, none, none, none, some (.int .i64 (↑k)), some (.slice (some ⟨b, o, none⟩) (u.length) (cap)), some (.int .i64 (((u.length : Nat) : Int))), some (.bool (decide (↑k < (((u.length : Nat) : Int))))), none, none, none, none, none, none, none, none, none, none, none, none, none, none, none, none, none, none, none], [.vue (b) (o) (iv (u)), .row (a) ((Un.fl (Un.p u r s) k).length) (c) 1 (iv (Un.fl (Un.p u r s) k)) 3 true], []⟩)
      (fun L11 => [])
      fol (by kernel_rfl) (fun _ => by kernel_rfl) (fun L11 => trivial) (fun L11 => ?_)
    refine aw_cond (decide (↑k < (((u.length : Nat) : Int)))) rfl (fun h12 => ?_) (fun h12 => ?_)
    ·
      have h12' := of_decide_eq_true h12
      refine aw_skip ?_
      refine nrm_thn ?_
      refine aw_seq ?_
      refine aw_block ?_
      refine aw_sr [⟨.pure, [], none, true⟩, ⟨.pure, [], none, true⟩, ⟨.idx, [0, 1], some (.pointer (some ⟨b, o + k, none⟩)), true⟩, ⟨(.read 0), [0, 1, 2], some (.int .i64 ((u).getD k 0)), true⟩, ⟨.pure, [], none, true⟩, ⟨.pure, [0, 1, 2, 3, 4], none, true⟩, ⟨(.call [] (.int .i64 (Un.size (((u).getD k 0) - (r))))), [0, 1, 2, 3, 4, 5], none, true⟩, ⟨.pure, [0, 1, 2, 3, 4, 5, 6], none, true⟩, ⟨.pure, [], none, true⟩, ⟨.pure, [], none, true⟩, ⟨.pure, [8, 9], none, true⟩, ⟨.pure, [0, 1, 2, 3, 4, 5, 6, 7, 8, 9, 10], none, true⟩]
        (fun L13 => ⟨[some (.slice (some ⟨b, o, none⟩) (u.length) (cap)), aI r, aI s, none, none, none, none, none, none, some (.slice (a) ((Un.fl (Un.p u r s) k).length) (c)), some (.int .i64 (↑k)), none, none, none, none, none, none, none, none, none, none, none, none, none, none, none, none, none, none, none, none, none, none, none, some (.int .i64 (↑k)), some (.slice (some ⟨b, o, none⟩) (u.length) (cap)), some (.int .i64 (((u.length : Nat) : Int))), some (.bool (decide (↑k < (((u.length : Nat) : Int))))), none, none, some (.slice (some ⟨b, o, none⟩) (u.length) (cap)), some (.int .i64 (↑k)), some (.pointer (some ⟨b, o + k, none⟩)), some (.int .i64 ((u).getD k 0)), aI r, some (.int .i64 (IntKind.i64.wrap (((u).getD k 0) - (r)))), some (.int .i64 (Un.size (((u).getD k 0) - (r)))), some (.int .i64 (IntKind.i64.wrap ((1000) * (Un.size (((u).getD k 0) - (r)))))), aI s, aI r, some (.int .i64 (IntKind.i64.wrap ((s) * (r)))), some (.bool (decide ((IntKind.i64.wrap ((1000) * (Un.size (((u).getD k 0) - (r))))) > (IntKind.i64.wrap ((s) * (r)))))), none, none, none, none, none], [.vue (b) (o) (iv (u)), .row (a) ((Un.fl (Un.p u r s) k).length) (c) 1 (iv (Un.fl (Un.p u r s) k)) 3 true], []⟩)
        (fun L13 => [(.pointer (some ⟨b, o + Int.toNat (↑k) * 1, none⟩) : Value) = .pointer (some ⟨b, o + k, none⟩), (0 : Int) ≤ ↑k, (↑k) < ((u.length : Nat) : Int), (.int .i64 ((u).getD k 0) : Value) = .int .i64 ((u).getD k 0), b = b, ∃ j, o + k = o + j ∧ (iv (u))[j]? = some (.int .i64 ((u).getD k 0)), CallOb Try.prog 32 #[.int .i64 (IntKind.i64.wrap (((u).getD k 0) - (r)))] [] (.int .i64 (Un.size (((u).getD k 0) - (r))))])
        fol (by kernel_rfl) (fun _ => by kernel_rfl) (fun L13 => ⟨(ptr_eq (by simp <;> omega)), (by omega), (by omega), rfl, rfl, ⟨k, rfl, iv_get (by omega)⟩, (Un.size_r _), trivial⟩) (fun L13 => ?_)
      refine aw_cond (decide ((IntKind.i64.wrap ((1000) * (Un.size (((u).getD k 0) - (r))))) > (IntKind.i64.wrap ((s) * (r))))) rfl (fun h14 => ?_) (fun h14 => ?_)
      ·
        have h14' := of_decide_eq_true h14
        refine aw_region [⟨.pure, [], none, true⟩, ⟨.pure, [], none, true⟩, ⟨.new, [1], none, true⟩, ⟨(.app 1 4), [0, 1, 2], none, true⟩, ⟨.pure, [0, 1, 2, 3], none, true⟩]
          (fun L15 => ⟨[some (.slice (some ⟨b, o, none⟩) (u.length) (cap)), aI r, aI s, none, none, none, none, none, none, some (.slice ((L15 3).a) ((Un.fl (Un.p u r s) k).length + 1) ((L15 3).n)), some (.int .i64 (↑k)), none, none, none, none, none, none, none, none, none, none, none, none, none, none, none, none, none, none, none, none, none, none, none, some (.int .i64 (↑k)), some (.slice (some ⟨b, o, none⟩) (u.length) (cap)), some (.int .i64 (((u.length : Nat) : Int))), some (.bool (decide (↑k < (((u.length : Nat) : Int))))), none, none, some (.slice (some ⟨b, o, none⟩) (u.length) (cap)), some (.int .i64 (↑k)), some (.pointer (some ⟨b, o + k, none⟩)), some (.int .i64 ((u).getD k 0)), aI r, some (.int .i64 (IntKind.i64.wrap (((u).getD k 0) - (r)))), some (.int .i64 (Un.size (((u).getD k 0) - (r)))), some (.int .i64 (IntKind.i64.wrap ((1000) * (Un.size (((u).getD k 0) - (r)))))), aI s, aI r, some (.int .i64 (IntKind.i64.wrap ((s) * (r)))), some (.bool (decide ((IntKind.i64.wrap ((1000) * (Un.size (((u).getD k 0) - (r))))) > (IntKind.i64.wrap ((s) * (r)))))), some (.slice (a) ((Un.fl (Un.p u r s) k).length) (c)), some (.int .i64 (↑k)), aS (L15 2).b 0 1 1, some (.slice ((L15 3).a) ((Un.fl (Un.p u r s) k).length + 1) ((L15 3).n)), none], [.vue (b) (o) (iv (u)), .row ((L15 3).a) ((Un.fl (Un.p u r s) k).length + 1) ((L15 3).n) 1 ((iv (Un.fl (Un.p u r s) k)) ++ [.int .i64 (↑k)]) 3 true, .blk ((L15 2).b) [.int .i64 (↑k)] 3 true], []⟩)
          (fun L15 => [31 = 31, 3 = 3, (a : Option Addr) = a, (Un.fl (Un.p u r s) k).length = (Un.fl (Un.p u r s) k).length, c = c, (L15 2).b = (L15 2).b, 1 = 1, some 1 = some 1, 0 < 1, 0 + 1 * 1 ≤ 1, ∀ u ∈ ([.int .i64 (↑k)] : List Value), u.oneCell' = true, (Un.fl (Un.p u r s) k).length + 1 ≤ maxLen, ((Un.fl (Un.p u r s) k).length + 1) * 8 ≤ 140737488355328])
          fol (by kernel_rfl) (fun _ => by kernel_rfl) (fun L15 => ⟨rfl, rfl, rfl, rfl, rfl, rfl, rfl, rfl, (by decide), (by decide), (by simp [Value.oneCell']), (by unfold maxLen; have := Un.fl_len (Un.p u r s) k; omega), (by have := Un.fl_len (Un.p u r s) k; omega), trivial⟩) (fun L15 => ?_)
        refine nrm_inB ?_
        refine nrm_thn ?_
        refine aw_region [⟨.pure, [], none, true⟩, ⟨.pure, [0], some (.int .i64 (↑(k + 1))), true⟩, ⟨.pure, [0, 1], none, true⟩]
          (fun L16 => ⟨[some (.slice (some ⟨b, o, none⟩) (u.length) (cap)), aI r, aI s, none, none, none, none, none, none, some (.slice ((L15 3).a) ((Un.fl (Un.p u r s) k).length + 1) ((L15 3).n)), some (.int .i64 (↑(k + 1))), none, none, none, none, none, none, none, none, none, none, none, none, none, none, none, none, none, none, none, none, none, none, none, some (.int .i64 (↑k)), some (.slice (some ⟨b, o, none⟩) (u.length) (cap)), some (.int .i64 (((u.length : Nat) : Int))), some (.bool (decide (↑k < (((u.length : Nat) : Int))))), some (.int .i64 (↑k)), some (.int .i64 (↑(k + 1))), some (.slice (some ⟨b, o, none⟩) (u.length) (cap)), some (.int .i64 (↑k)), some (.pointer (some ⟨b, o + k, none⟩)), some (.int .i64 ((u).getD k 0)), aI r, some (.int .i64 (IntKind.i64.wrap (((u).getD k 0) - (r)))), some (.int .i64 (Un.size (((u).getD k 0) - (r)))), some (.int .i64 (IntKind.i64.wrap ((1000) * (Un.size (((u).getD k 0) - (r)))))), aI s, aI r, some (.int .i64 (IntKind.i64.wrap ((s) * (r)))), some (.bool (decide ((IntKind.i64.wrap ((1000) * (Un.size (((u).getD k 0) - (r))))) > (IntKind.i64.wrap ((s) * (r)))))), some (.slice (a) ((Un.fl (Un.p u r s) k).length) (c)), some (.int .i64 (↑k)), aS (L15 2).b 0 1 1, some (.slice ((L15 3).a) ((Un.fl (Un.p u r s) k).length + 1) ((L15 3).n)), none], [.vue (b) (o) (iv (u)), .row ((L15 3).a) ((Un.fl (Un.p u r s) k).length + 1) ((L15 3).n) 1 ((iv (Un.fl (Un.p u r s) k)) ++ [.int .i64 (↑k)]) 3 true, .blk ((L15 2).b) [.int .i64 (↑k)] 3 true], []⟩)
          (fun L16 => [(.int .i64 (IntKind.i64.wrap ((↑k) + (1))) : Value) = .int .i64 (↑(k + 1))])
          fol (by kernel_rfl) (fun _ => by kernel_rfl) (fun L16 => ⟨(Un.wrap_succ (by omega)), trivial⟩) (fun L16 => ?_)
        refine nrm_thn ?_
        refine ⟨⟨⟨k + 1, (L15 3).a, (L15 3).n⟩, by simp only; omega, by first | exact True.intro | (simp only; trivial)⟩, ?_, by simp only; omega⟩
        show Weak ⟨[some (.slice (some ⟨b, o, none⟩) (u.length) (cap)), aI r, aI s, none, none, none, none, none, none, some (.slice ((L15 3).a) ((Un.fl (Un.p u r s) k).length + 1) ((L15 3).n)), some (.int .i64 (↑(k + 1))), none, none, none, none, none, none, none, none, none, none, none, none, none, none, none, none, none, none, none, none, none, none, none, some (.int .i64 (↑k)), some (.slice (some ⟨b, o, none⟩) (u.length) (cap)), some (.int .i64 (((u.length : Nat) : Int))), some (.bool (decide (↑k < (((u.length : Nat) : Int))))), some (.int .i64 (↑k)), some (.int .i64 (↑(k + 1))), some (.slice (some ⟨b, o, none⟩) (u.length) (cap)), some (.int .i64 (↑k)), some (.pointer (some ⟨b, o + k, none⟩)), some (.int .i64 ((u).getD k 0)), aI r, some (.int .i64 (IntKind.i64.wrap (((u).getD k 0) - (r)))), some (.int .i64 (Un.size (((u).getD k 0) - (r)))), some (.int .i64 (IntKind.i64.wrap ((1000) * (Un.size (((u).getD k 0) - (r)))))), aI s, aI r, some (.int .i64 (IntKind.i64.wrap ((s) * (r)))), some (.bool (decide ((IntKind.i64.wrap ((1000) * (Un.size (((u).getD k 0) - (r))))) > (IntKind.i64.wrap ((s) * (r)))))), some (.slice (a) ((Un.fl (Un.p u r s) k).length) (c)), some (.int .i64 (↑k)), aS (L15 2).b 0 1 1, some (.slice ((L15 3).a) ((Un.fl (Un.p u r s) k).length + 1) ((L15 3).n)), none], [.vue (b) (o) (iv (u)), .row ((L15 3).a) ((Un.fl (Un.p u r s) k).length + 1) ((L15 3).n) 1 ((iv (Un.fl (Un.p u r s) k)) ++ [.int .i64 (↑k)]) 3 true, .blk ((L15 2).b) [.int .i64 (↑k)] 3 true], []⟩ ⟨[some (.slice (some ⟨b, o, none⟩) (u.length) (cap)), aI r, aI s, none, none, none, none, none, none, some (.slice ((L15 3).a) ((Un.fl (Un.p u r s) ((k + 1))).length) ((L15 3).n)), some (.int .i64 ((((k + 1) : Nat) : Int))), none, none, none, none, none, none, none, none, none, none, none, none, none, none, none, none, none, none, none, none, none, none, none, none, none, none, none, none, none, none, none, none, none, none, none, none, none, none, none, none, none, none, none, none, none, none], [.vue (b) (o) (iv (u)), .row ((L15 3).a) ((Un.fl (Un.p u r s) ((k + 1))).length) ((L15 3).n) 1 (iv (Un.fl (Un.p u r s) ((k + 1)))) 3 true], []⟩
        rw [Un.fl_yes (p := Un.p u r s) h14, iv_snoc, len_snoc]
        exact weak_to [true, true, true, false, false, false, false, false, false, true, true, false, false, false, false, false, false, false, false, false, false, false, false, false, false, false, false, false, false, false, false, false, false, false, false, false, false, false, false, false, false, false, false, false, false, false, false, false, false, false, false, false, false, false, false, false, false] [0, 1] (by decide) (by kernel_rfl)
      ·
        have h14' := of_decide_eq_false h14
        refine aw_skip ?_
        refine nrm_inB ?_
        refine nrm_thn ?_
        refine aw_region [⟨.pure, [], none, true⟩, ⟨.pure, [0], some (.int .i64 (↑(k + 1))), true⟩, ⟨.pure, [0, 1], none, true⟩]
          (fun L17 => ⟨[some (.slice (some ⟨b, o, none⟩) (u.length) (cap)), aI r, aI s, none, none, none, none, none, none, some (.slice (a) ((Un.fl (Un.p u r s) k).length) (c)), some (.int .i64 (↑(k + 1))), none, none, none, none, none, none, none, none, none, none, none, none, none, none, none, none, none, none, none, none, none, none, none, some (.int .i64 (↑k)), some (.slice (some ⟨b, o, none⟩) (u.length) (cap)), some (.int .i64 (((u.length : Nat) : Int))), some (.bool (decide (↑k < (((u.length : Nat) : Int))))), some (.int .i64 (↑k)), some (.int .i64 (↑(k + 1))), some (.slice (some ⟨b, o, none⟩) (u.length) (cap)), some (.int .i64 (↑k)), some (.pointer (some ⟨b, o + k, none⟩)), some (.int .i64 ((u).getD k 0)), aI r, some (.int .i64 (IntKind.i64.wrap (((u).getD k 0) - (r)))), some (.int .i64 (Un.size (((u).getD k 0) - (r)))), some (.int .i64 (IntKind.i64.wrap ((1000) * (Un.size (((u).getD k 0) - (r)))))), aI s, aI r, some (.int .i64 (IntKind.i64.wrap ((s) * (r)))), some (.bool (decide ((IntKind.i64.wrap ((1000) * (Un.size (((u).getD k 0) - (r))))) > (IntKind.i64.wrap ((s) * (r)))))), none, none, none, none, none], [.vue (b) (o) (iv (u)), .row (a) ((Un.fl (Un.p u r s) k).length) (c) 1 (iv (Un.fl (Un.p u r s) k)) 3 true], []⟩)
          (fun L17 => [(.int .i64 (IntKind.i64.wrap ((↑k) + (1))) : Value) = .int .i64 (↑(k + 1))])
          fol (by kernel_rfl) (fun _ => by kernel_rfl) (fun L17 => ⟨(Un.wrap_succ (by omega)), trivial⟩) (fun L17 => ?_)
        refine nrm_thn ?_
        refine ⟨⟨⟨k + 1, a, c⟩, by simp only; omega, by first | exact True.intro | (simp only; trivial)⟩, ?_, by simp only; omega⟩
        show Weak ⟨[some (.slice (some ⟨b, o, none⟩) (u.length) (cap)), aI r, aI s, none, none, none, none, none, none, some (.slice (a) ((Un.fl (Un.p u r s) k).length) (c)), some (.int .i64 (↑(k + 1))), none, none, none, none, none, none, none, none, none, none, none, none, none, none, none, none, none, none, none, none, none, none, none, some (.int .i64 (↑k)), some (.slice (some ⟨b, o, none⟩) (u.length) (cap)), some (.int .i64 (((u.length : Nat) : Int))), some (.bool (decide (↑k < (((u.length : Nat) : Int))))), some (.int .i64 (↑k)), some (.int .i64 (↑(k + 1))), some (.slice (some ⟨b, o, none⟩) (u.length) (cap)), some (.int .i64 (↑k)), some (.pointer (some ⟨b, o + k, none⟩)), some (.int .i64 ((u).getD k 0)), aI r, some (.int .i64 (IntKind.i64.wrap (((u).getD k 0) - (r)))), some (.int .i64 (Un.size (((u).getD k 0) - (r)))), some (.int .i64 (IntKind.i64.wrap ((1000) * (Un.size (((u).getD k 0) - (r)))))), aI s, aI r, some (.int .i64 (IntKind.i64.wrap ((s) * (r)))), some (.bool (decide ((IntKind.i64.wrap ((1000) * (Un.size (((u).getD k 0) - (r))))) > (IntKind.i64.wrap ((s) * (r)))))), none, none, none, none, none], [.vue (b) (o) (iv (u)), .row (a) ((Un.fl (Un.p u r s) k).length) (c) 1 (iv (Un.fl (Un.p u r s) k)) 3 true], []⟩ ⟨[some (.slice (some ⟨b, o, none⟩) (u.length) (cap)), aI r, aI s, none, none, none, none, none, none, some (.slice (a) ((Un.fl (Un.p u r s) ((k + 1))).length) (c)), some (.int .i64 ((((k + 1) : Nat) : Int))), none, none, none, none, none, none, none, none, none, none, none, none, none, none, none, none, none, none, none, none, none, none, none, none, none, none, none, none, none, none, none, none, none, none, none, none, none, none, none, none, none, none, none, none, none, none], [.vue (b) (o) (iv (u)), .row (a) ((Un.fl (Un.p u r s) ((k + 1))).length) (c) 1 (iv (Un.fl (Un.p u r s) ((k + 1)))) 3 true], []⟩
        rw [Un.fl_no (p := Un.p u r s) h14]
        exact weak_to [true, true, true, false, false, false, false, false, false, true, true, false, false, false, false, false, false, false, false, false, false, false, false, false, false, false, false, false, false, false, false, false, false, false, false, false, false, false, false, false, false, false, false, false, false, false, false, false, false, false, false, false, false, false, false, false, false] [0, 1] (by decide) (by kernel_rfl)
    ·
      have h12' := of_decide_eq_false h12
      refine aw_exit ?_
      refine ex_thn ?_
      refine ex_thn ?_
      refine ex_hit ?_
      refine nrm_thn ?_
      refine aw_sr [⟨.pure, [], none, true⟩, ⟨.pure, [0], none, true⟩, ⟨.pure, [0, 1], none, true⟩]
        (fun L18 => ⟨[some (.slice (some ⟨b, o, none⟩) (u.length) (cap)), aI r, aI s, none, none, none, some (.slice (a) ((Un.fl (Un.p u r s) k).length) (c)), aI 0, none, some (.slice (a) ((Un.fl (Un.p u r s) k).length) (c)), some (.int .i64 (↑k)), none, none, none, none, none, none, none, none, none, none, none, none, none, none, none, none, none, none, none, none, none, none, none, some (.int .i64 (↑k)), some (.slice (some ⟨b, o, none⟩) (u.length) (cap)), some (.int .i64 (((u.length : Nat) : Int))), some (.bool (decide (↑k < (((u.length : Nat) : Int))))), none, none, none, none, none, none, none, none, none, none, none, none, none, none, none, none, none, none, some (.slice (a) ((Un.fl (Un.p u r s) k).length) (c))], [.vue (b) (o) (iv (u)), .row (a) ((Un.fl (Un.p u r s) k).length) (c) 1 (iv (Un.fl (Un.p u r s) k)) 3 true], []⟩)
        (fun L18 => [])
        fol (by kernel_rfl) (fun _ => by kernel_rfl) (fun L18 => trivial) (fun L18 => ?_)
      refine aw_ret ?_
      have hkk : k = u.length := by omega
      subst hkk
      exact fin_new none [0, 0] (.tuple #[.slice (a) ((Un.fl (Un.p u r s) u.length).length) (c), aN 0]) [] (⟨0, a, c⟩) (fun l => .tuple #[.slice (l.a) ((Un.fl (Un.p u r s) u.length).length) (l.n), aN 0]) (fun l => .row (l.a) ((Un.fl (Un.p u r s) u.length).length) (l.n) 1 (iv (Un.fl (Un.p u r s) u.length)) 3 true) 1 (.inr rfl) rfl (by kernel_rfl) trivial rfl rfl rfl

set_option maxRecDepth 100000 in
set_option maxHeartbeats 400000 in
theorem Un.ints1 (g1 cg1 g2 cg2 : Nat) (f : List Int) (hl : f.length ≤ 1000000) : CallOb Try.prog 11 #[.slice (some ⟨g1, 0, none⟩) (f.length) (cg1), .slice (some ⟨g2, 0, none⟩) (f.length) (cg2)] [.row (some ⟨g1, 0, none⟩) (f.length) (cg1) 1 (iv (f)) 3 false, .row (some ⟨g2, 0, none⟩) (f.length) (cg2) 1 (iv (f)) 3 false] (.bool (true)) := by
  intro w hw
  refine calls_aw [some (.slice (some ⟨g1, 0, none⟩) (f.length) (cg1)), some (.slice (some ⟨g2, 0, none⟩) (f.length) (cg2)), aU, aU, aU, aU, aU, aU, aU, aU, aU, aU, aU, aU, aU, aU, aU, aU, aU, aU, aU, aU, aU, aU, aU, aU] [.row (some ⟨g1, 0, none⟩) (f.length) (cg1) 1 (iv (f)) 3 false, .row (some ⟨g2, 0, none⟩) (f.length) (cg2) 1 (iv (f)) 3 false] Try.func11 rfl (by kernel_rfl) (esOk hw (by simp [Cel.mine])) ?_
  refine aw_sr [⟨.pure, [], none, true⟩]
    (fun L1 => ⟨[some (.slice (some ⟨g1, 0, none⟩) (f.length) (cg1)), some (.slice (some ⟨g2, 0, none⟩) (f.length) (cg2)), aU, aU, aF, aU, aU, aU, aU, aU, aU, aU, aU, aU, aU, aU, aU, aU, aU, aU, aU, aU, aU, aU, aU, aU], [.row (some ⟨g1, 0, none⟩) (f.length) (cg1) 1 (iv (f)) 3 false, .row (some ⟨g2, 0, none⟩) (f.length) (cg2) 1 (iv (f)) 3 false], []⟩)
    (fun L1 => [])
    fol (by kernel_rfl) (fun _ => by kernel_rfl) (fun L1 => trivial) (fun L1 => ?_)
  refine aw_seq ?_
  refine aw_sr [⟨.pure, [], none, true⟩, ⟨.pure, [0], none, true⟩, ⟨.pure, [], none, true⟩, ⟨.pure, [2], none, true⟩, ⟨.pure, [0, 1, 2, 3], none, true⟩]
    (fun L2 => ⟨[some (.slice (some ⟨g1, 0, none⟩) (f.length) (cg1)), some (.slice (some ⟨g2, 0, none⟩) (f.length) (cg2)), aU, aU, aF, aU, some (.slice (some ⟨g1, 0, none⟩) (f.length) (cg1)), some (.int .i64 (((f.length : Nat) : Int))), some (.slice (some ⟨g2, 0, none⟩) (f.length) (cg2)), some (.int .i64 (((f.length : Nat) : Int))), some (.bool ((((f.length : Nat) : Int)) != (((f.length : Nat) : Int)))), aU, aU, aU, aU, aU, aU, aU, aU, aU, aU, aU, aU, aU, aU, aU], [.row (some ⟨g1, 0, none⟩) (f.length) (cg1) 1 (iv (f)) 3 false, .row (some ⟨g2, 0, none⟩) (f.length) (cg2) 1 (iv (f)) 3 false], []⟩)
    (fun L2 => [])
    fol (by kernel_rfl) (fun _ => by kernel_rfl) (fun L2 => trivial) (fun L2 => ?_)
  refine aw_false ((((f.length : Nat) : Int)) != (((f.length : Nat) : Int))) rfl (bne_self_eq_false _) ?_
  refine aw_skip ?_
  refine nrm_thn ?_
  refine aw_seq ?_
  refine aw_sr [⟨.pure, [], none, true⟩]
    (fun L3 => ⟨[some (.slice (some ⟨g1, 0, none⟩) (f.length) (cg1)), some (.slice (some ⟨g2, 0, none⟩) (f.length) (cg2)), aU, aU, aF, aI 0, some (.slice (some ⟨g1, 0, none⟩) (f.length) (cg1)), some (.int .i64 (((f.length : Nat) : Int))), some (.slice (some ⟨g2, 0, none⟩) (f.length) (cg2)), some (.int .i64 (((f.length : Nat) : Int))), some (.bool ((((f.length : Nat) : Int)) != (((f.length : Nat) : Int)))), aU, aU, aU, aU, aU, aU, aU, aU, aU, aU, aU, aU, aU, aU, aU], [.row (some ⟨g1, 0, none⟩) (f.length) (cg1) 1 (iv (f)) 3 false, .row (some ⟨g2, 0, none⟩) (f.length) (cg2) 1 (iv (f)) 3 false], []⟩)
    (fun L3 => [])
    fol (by kernel_rfl) (fun _ => by kernel_rfl) (fun L3 => trivial) (fun L3 => ?_)
  refine aw_block ?_
  refine aw_loop (ι := {i : Ix // i.k ≤ f.length ∧ (True)}) (fun i => ⟨[some (.slice (some ⟨g1, 0, none⟩) (f.length) (cg1)), some (.slice (some ⟨g2, 0, none⟩) (f.length) (cg2)), none, none, none, some (.int .i64 (((i.1.k : Nat) : Int))), none, none, none, none, none, none, none, none, none, none, none, none, none, none, none, none, none, none, none, none], [.row (some ⟨g1, 0, none⟩) (f.length) (cg1) 1 (iv (f)) 3 false, .row (some ⟨g2, 0, none⟩) (f.length) (cg2) 1 (iv (f)) 3 false], []⟩) (fun i => f.length - i.1.k) ⟨⟨0, none, 0⟩, Nat.zero_le _, trivial⟩ (weak_to [true, true, false, false, false, true, false, false, false, false, false, false, false, false, false, false, false, false, false, false, false, false, false, false, false, false] [0, 1] (by decide) (by kernel_rfl)) ?_
  rintro ⟨⟨k, a, c⟩, hkn, hk⟩
  show Aw _ _ _ _ ⟨[some (.slice (some ⟨g1, 0, none⟩) (f.length) (cg1)), some (.slice (some ⟨g2, 0, none⟩) (f.length) (cg2)), none, none, none, some (.int .i64 (↑k)), none, none, none, none, none, none, none, none, none, none, none, none, none, none, none, none, none, none, none, none], [.row (some ⟨g1, 0, none⟩) (f.length) (cg1) 1 (iv (f)) 3 false, .row (some ⟨g2, 0, none⟩) (f.length) (cg2) 1 (iv (f)) 3 false], []⟩ _
  simp only at hk hkn
  refine aw_seq ?_
  refine aw_sr [⟨.pure, [], none, true⟩, ⟨.pure, [], none, true⟩, ⟨.pure, [1], none, true⟩, ⟨.pure, [0, 1, 2], none, true⟩]
    (fun L4 => ⟨[some (.slice (some ⟨g1, 0, none⟩) (f.length) (cg1)), some (.slice (some ⟨g2, 0, none⟩) (f.length) (cg2)), none, none, none, some (.int .i64 (↑k)), none, none, none, none, none, some (.int .i64 (↑k)), some (.slice (some ⟨g1, 0, none⟩) (f.length) (cg1)), some (.int .i64 (((f.length : Nat) : Int))), some (.bool (decide (↑k < (((f.length : Nat) : Int))))), none, none, none, none, none, none, none, none, none, none, none], [.row (some ⟨g1, 0, none⟩) (f.length) (cg1) 1 (iv (f)) 3 false, .row (some ⟨g2, 0, none⟩) (f.length) (cg2) 1 (iv (f)) 3 false], []⟩)
    (fun L4 => [])
    fol (by kernel_rfl) (fun _ => by kernel_rfl) (fun L4 => trivial) (fun L4 => ?_)
  refine aw_cond (decide (↑k < (((f.length : Nat) : Int)))) rfl (fun h5 => ?_) (fun h5 => ?_)
  ·
    have h5' := of_decide_eq_true h5
    refine aw_skip ?_
    refine nrm_thn ?_
    refine aw_seq ?_
    refine aw_block ?_
    refine aw_sr [⟨.pure, [], none, true⟩, ⟨.pure, [], none, true⟩, ⟨.idx, [0, 1], some (.pointer (some ⟨g1, k, none⟩)), true⟩, ⟨(.read 0), [0, 1, 2], some (.int .i64 ((f).getD k 0)), true⟩, ⟨.pure, [], none, true⟩, ⟨.pure, [], none, true⟩, ⟨.idx, [4, 5], some (.pointer (some ⟨g2, k, none⟩)), true⟩, ⟨(.read 1), [4, 5, 6], some (.int .i64 ((f).getD k 0)), true⟩, ⟨.pure, [0, 1, 2, 3, 4, 5, 6, 7], none, true⟩]
      (fun L6 => ⟨[some (.slice (some ⟨g1, 0, none⟩) (f.length) (cg1)), some (.slice (some ⟨g2, 0, none⟩) (f.length) (cg2)), none, none, none, some (.int .i64 (↑k)), none, none, none, none, none, some (.int .i64 (↑k)), some (.slice (some ⟨g1, 0, none⟩) (f.length) (cg1)), some (.int .i64 (((f.length : Nat) : Int))), some (.bool (decide (↑k < (((f.length : Nat) : Int))))), none, none, some (.slice (some ⟨g1, 0, none⟩) (f.length) (cg1)), some (.int .i64 (↑k)), some (.pointer (some ⟨g1, k, none⟩)), some (.int .i64 ((f).getD k 0)), some (.slice (some ⟨g2, 0, none⟩) (f.length) (cg2)), some (.int .i64 (↑k)), some (.pointer (some ⟨g2, k, none⟩)), some (.int .i64 ((f).getD k 0)), some (.bool (((f).getD k 0) != ((f).getD k 0)))], [.row (some ⟨g1, 0, none⟩) (f.length) (cg1) 1 (iv (f)) 3 false, .row (some ⟨g2, 0, none⟩) (f.length) (cg2) 1 (iv (f)) 3 false], []⟩)
      (fun L6 => [(.pointer (some ⟨g1, 0 + Int.toNat (↑k) * 1, none⟩) : Value) = .pointer (some ⟨g1, k, none⟩), (0 : Int) ≤ ↑k, (↑k) < ((f.length : Nat) : Int), (.int .i64 ((f).getD k 0) : Value) = .int .i64 ((f).getD k 0), g1 = g1, (iv (f))[k]? = some (.int .i64 ((f).getD k 0)), (.pointer (some ⟨g2, 0 + Int.toNat (↑k) * 1, none⟩) : Value) = .pointer (some ⟨g2, k, none⟩), (0 : Int) ≤ ↑k, (↑k) < ((f.length : Nat) : Int), (.int .i64 ((f).getD k 0) : Value) = .int .i64 ((f).getD k 0), g2 = g2, (iv (f))[k]? = some (.int .i64 ((f).getD k 0))])
      fol (by kernel_rfl) (fun _ => by kernel_rfl) (fun L6 => ⟨(ptr_eq (by simp <;> omega)), (by omega), (by omega), rfl, rfl, (iv_get (by omega)), (ptr_eq (by simp <;> omega)), (by omega), (by omega), rfl, rfl, (iv_get (by omega)), trivial⟩) (fun L6 => ?_)
    refine aw_false (((f).getD k 0) != ((f).getD k 0)) rfl (bne_self_eq_false _) ?_
    refine aw_skip ?_
    refine nrm_inB ?_
    refine nrm_thn ?_
    refine aw_region [⟨.pure, [], none, true⟩, ⟨.pure, [0], some (.int .i64 (↑(k + 1))), true⟩, ⟨.pure, [0, 1], none, true⟩]
      (fun L7 => ⟨[some (.slice (some ⟨g1, 0, none⟩) (f.length) (cg1)), some (.slice (some ⟨g2, 0, none⟩) (f.length) (cg2)), none, none, none, some (.int .i64 (↑(k + 1))), none, none, none, none, none, some (.int .i64 (↑k)), some (.slice (some ⟨g1, 0, none⟩) (f.length) (cg1)), some (.int .i64 (((f.length : Nat) : Int))), some (.bool (decide (↑k < (((f.length : Nat) : Int))))), some (.int .i64 (↑k)), some (.int .i64 (↑(k + 1))), some (.slice (some ⟨g1, 0, none⟩) (f.length) (cg1)), some (.int .i64 (↑k)), some (.pointer (some ⟨g1, k, none⟩)), some (.int .i64 ((f).getD k 0)), some (.slice (some ⟨g2, 0, none⟩) (f.length) (cg2)), some (.int .i64 (↑k)), some (.pointer (some ⟨g2, k, none⟩)), some (.int .i64 ((f).getD k 0)), some (.bool (((f).getD k 0) != ((f).getD k 0)))], [.row (some ⟨g1, 0, none⟩) (f.length) (cg1) 1 (iv (f)) 3 false, .row (some ⟨g2, 0, none⟩) (f.length) (cg2) 1 (iv (f)) 3 false], []⟩)
      (fun L7 => [(.int .i64 (IntKind.i64.wrap ((↑k) + (1))) : Value) = .int .i64 (↑(k + 1))])
      fol (by kernel_rfl) (fun _ => by kernel_rfl) (fun L7 => ⟨(Un.wrap_succ (by omega)), trivial⟩) (fun L7 => ?_)
    refine nrm_thn ?_
    refine ⟨⟨⟨k + 1, none, 0⟩, by simp only; omega, by first | exact True.intro | (simp only; trivial)⟩, ?_, by simp only; omega⟩
    show Weak ⟨[some (.slice (some ⟨g1, 0, none⟩) (f.length) (cg1)), some (.slice (some ⟨g2, 0, none⟩) (f.length) (cg2)), none, none, none, some (.int .i64 (↑(k + 1))), none, none, none, none, none, some (.int .i64 (↑k)), some (.slice (some ⟨g1, 0, none⟩) (f.length) (cg1)), some (.int .i64 (((f.length : Nat) : Int))), some (.bool (decide (↑k < (((f.length : Nat) : Int))))), some (.int .i64 (↑k)), some (.int .i64 (↑(k + 1))), some (.slice (some ⟨g1, 0, none⟩) (f.length) (cg1)), some (.int .i64 (↑k)), some (.pointer (some ⟨g1, k, none⟩)), some (.int .i64 ((f).getD k 0)), some (.slice (some ⟨g2, 0, none⟩) (f.length) (cg2)), some (.int .i64 (↑k)), some (.pointer (some ⟨g2, k, none⟩)), some (.int .i64 ((f).getD k 0)), some (.bool (((f).getD k 0) != ((f).getD k 0)))], [.row (some ⟨g1, 0, none⟩) (f.length) (cg1) 1 (iv (f)) 3 false, .row (some ⟨g2, 0, none⟩) (f.length) (cg2) 1 (iv (f)) 3 false], []⟩ ⟨[some (.slice (some ⟨g1, 0, none⟩) (f.length) (cg1)), some (.slice (some ⟨g2, 0, none⟩) (f.length) (cg2)), none, none, none, some (.int .i64 ((((k + 1) : Nat) : Int))), none, none, none, none, none, none, none, none, none, none, none, none, none, none, none, none, none, none, none, none], [.row (some ⟨g1, 0, none⟩) (f.length) (cg1) 1 (iv (f)) 3 false, .row (some ⟨g2, 0, none⟩) (f.length) (cg2) 1 (iv (f)) 3 false], []⟩
    exact weak_to [true, true, false, false, false, true, false, false, false, false, false, false, false, false, false, false, false, false, false, false, false, false, false, false, false, false] [0, 1] (by decide) (by kernel_rfl)
  ·
    have h5' := of_decide_eq_false h5
    refine aw_exit ?_
    refine ex_thn ?_
    refine ex_thn ?_
    refine ex_hit ?_
    refine nrm_thn ?_
    refine aw_sr [⟨.pure, [], none, true⟩]
      (fun L8 => ⟨[some (.slice (some ⟨g1, 0, none⟩) (f.length) (cg1)), some (.slice (some ⟨g2, 0, none⟩) (f.length) (cg2)), none, none, aT, some (.int .i64 (↑k)), none, none, none, none, none, some (.int .i64 (↑k)), some (.slice (some ⟨g1, 0, none⟩) (f.length) (cg1)), some (.int .i64 (((f.length : Nat) : Int))), some (.bool (decide (↑k < (((f.length : Nat) : Int))))), none, none, none, none, none, none, none, none, none, none, none], [.row (some ⟨g1, 0, none⟩) (f.length) (cg1) 1 (iv (f)) 3 false, .row (some ⟨g2, 0, none⟩) (f.length) (cg2) 1 (iv (f)) 3 false], []⟩)
      (fun L8 => [])
      fol (by kernel_rfl) (fun _ => by kernel_rfl) (fun L8 => trivial) (fun L8 => ?_)
    refine aw_ret ?_
    refine fin_ret none [0] (.bool (true)) [] (.inr rfl) rfl (by kernel_rfl) trivial (fun w' hb => ?_)
    exact ⟨rfl, hb⟩

set_option maxRecDepth 100000 in
set_option maxHeartbeats 400000 in
theorem Un.ints0 (a1 a2 : Option Addr) (c1 c2 : Nat) : CallOb Try.prog 11 #[.slice (a1) (0) (c1), .slice (a2) (0) (c2)] [] (.bool (true)) := by
  intro w hw
  refine calls_aw [some (.slice (a1) (0) (c1)), some (.slice (a2) (0) (c2)), aU, aU, aU, aU, aU, aU, aU, aU, aU, aU, aU, aU, aU, aU, aU, aU, aU, aU, aU, aU, aU, aU, aU, aU] [] Try.func11 rfl (by kernel_rfl) (fun e x h => by cases h) ?_
  refine aw_sr [⟨.pure, [], none, true⟩]
    (fun L1 => ⟨[some (.slice (a1) (0) (c1)), some (.slice (a2) (0) (c2)), aU, aU, aF, aU, aU, aU, aU, aU, aU, aU, aU, aU, aU, aU, aU, aU, aU, aU, aU, aU, aU, aU, aU, aU], [], []⟩)
    (fun L1 => [])
    fol (by kernel_rfl) (fun _ => by kernel_rfl) (fun L1 => trivial) (fun L1 => ?_)
  refine aw_seq ?_
  refine aw_sr [⟨.pure, [], none, true⟩, ⟨.pure, [0], none, true⟩, ⟨.pure, [], none, true⟩, ⟨.pure, [2], none, true⟩, ⟨.pure, [0, 1, 2, 3], none, true⟩]
    (fun L2 => ⟨[some (.slice (a1) (0) (c1)), some (.slice (a2) (0) (c2)), aU, aU, aF, aU, some (.slice (a1) (0) (c1)), aI 0, some (.slice (a2) (0) (c2)), aI 0, aF, aU, aU, aU, aU, aU, aU, aU, aU, aU, aU, aU, aU, aU, aU, aU], [], []⟩)
    (fun L2 => [])
    fol (by kernel_rfl) (fun _ => by kernel_rfl) (fun L2 => trivial) (fun L2 => ?_)
  refine aw_false (false) rfl rfl ?_
  refine aw_skip ?_
  refine nrm_thn ?_
  refine aw_seq ?_
  refine aw_sr [⟨.pure, [], none, true⟩]
    (fun L3 => ⟨[some (.slice (a1) (0) (c1)), some (.slice (a2) (0) (c2)), aU, aU, aF, aI 0, some (.slice (a1) (0) (c1)), aI 0, some (.slice (a2) (0) (c2)), aI 0, aF, aU, aU, aU, aU, aU, aU, aU, aU, aU, aU, aU, aU, aU, aU, aU], [], []⟩)
    (fun L3 => [])
    fol (by kernel_rfl) (fun _ => by kernel_rfl) (fun L3 => trivial) (fun L3 => ?_)
  refine aw_block ?_
  refine aw_rounds 1 ?_
  refine aw_round ?_
  refine aw_seq ?_
  refine aw_sr [⟨.pure, [], none, true⟩, ⟨.pure, [], none, true⟩, ⟨.pure, [1], none, true⟩, ⟨.pure, [0, 1, 2], none, true⟩]
    (fun L4 => ⟨[some (.slice (a1) (0) (c1)), some (.slice (a2) (0) (c2)), aU, aU, aF, aI 0, some (.slice (a1) (0) (c1)), aI 0, some (.slice (a2) (0) (c2)), aI 0, aF, aI 0, some (.slice (a1) (0) (c1)), aI 0, aF, aU, aU, aU, aU, aU, aU, aU, aU, aU, aU, aU], [], []⟩)
    (fun L4 => [])
    fol (by kernel_rfl) (fun _ => by kernel_rfl) (fun L4 => trivial) (fun L4 => ?_)
  refine aw_false (false) rfl rfl ?_
  refine aw_exit ?_
  refine ex_thn ?_
  refine ex_thn ?_
  refine ex_hit ?_
  refine nrm_thn ?_
  refine aw_sr [⟨.pure, [], none, true⟩]
    (fun L5 => ⟨[some (.slice (a1) (0) (c1)), some (.slice (a2) (0) (c2)), aU, aU, aT, aI 0, some (.slice (a1) (0) (c1)), aI 0, some (.slice (a2) (0) (c2)), aI 0, aF, aI 0, some (.slice (a1) (0) (c1)), aI 0, aF, aU, aU, aU, aU, aU, aU, aU, aU, aU, aU, aU], [], []⟩)
    (fun L5 => [])
    fol (by kernel_rfl) (fun _ => by kernel_rfl) (fun L5 => trivial) (fun L5 => ?_)
  refine aw_ret ?_
  refine fin_ret none [0] (.bool (true)) [] (.inr rfl) rfl (by kernel_rfl) trivial (fun w' hb => ?_)
  exact ⟨rfl, hb⟩

theorem Un.ints {f : List Int} (hl : f.length ≤ 1000000) (a1 a2 : Option Addr) (c1 c2 : Nat) : CallOb Try.prog 11 #[.slice a1 f.length c1, .slice a2 f.length c2] [.row a1 f.length c1 1 (iv f) 3 true, .row a2 f.length c2 1 (iv f) 3 true] (.bool true) := by
  rcases Nat.eq_zero_or_pos f.length with h0 | h0
  · intro W hw
    have := Un.ints0 a1 a2 c1 c2 W (fun e he => by cases he)
    rw [h0]; exact this
  · intro W hw
    obtain ⟨g1, rfl⟩ := row_at (hw (.row a1 f.length c1 1 (iv f) 3 true) (by simp)) h0
    obtain ⟨g2, rfl⟩ := row_at (hw (.row a2 f.length c2 1 (iv f) 3 true) (by simp)) h0
    refine callOb_frz (es := [.row (some ⟨g1, 0, none⟩) f.length c1 1 (iv f) 3 true, .row (some ⟨g2, 0, none⟩) f.length c2 1 (iv f) 3 true]) (Un.ints1 g1 c1 g2 c2 f hl) W hw
set_option maxRecDepth 100000 in
set_option maxHeartbeats 400000 in
theorem Un.copy1 (b o cap : Nat) (u : List Int) (h0 : 0 < u.length) (hl : u.length ≤ 1000000) : CallN Try.prog 9 #[.slice (some ⟨b, o, none⟩) (u.length) (cap)] [.vue (b) (o) (iv (u))] (fun l => .slice (l.a) (0 + u.length) (l.n)) (fun l => .row (l.a) (0 + u.length) (l.n) 1 ([] ++ (iv (u)).take (u.length * 1)) 3 true) := by
  intro w hw
  refine calls_aw [some (.slice (some ⟨b, o, none⟩) (u.length) (cap)), aU, aU, aU, aU, aU] [.vue (b) (o) (iv (u))] Try.func9 rfl (by kernel_rfl) (esOk hw (by simp [Cel.mine])) ?_
  refine aw_sr [⟨.pure, [], none, true⟩]
    (fun L1 => ⟨[some (.slice (some ⟨b, o, none⟩) (u.length) (cap)), aU, some (.slice none 0 0), aU, aU, aU], [.vue (b) (o) (iv (u))], []⟩)
    (fun L1 => [])
    fol (by kernel_rfl) (fun _ => by kernel_rfl) (fun L1 => trivial) (fun L1 => ?_)
  refine aw_sr [⟨.new, [], none, true⟩, ⟨.pure, [], none, true⟩, ⟨(.app 1 0), [0, 1], none, true⟩, ⟨.pure, [0, 1, 2], none, true⟩]
    (fun L2 => ⟨[some (.slice (some ⟨b, o, none⟩) (u.length) (cap)), aU, some (.slice ((L2 2).a) (0 + u.length) ((L2 2).n)), aS (L2 0).b 0 0 0, some (.slice (some ⟨b, o, none⟩) (u.length) (cap)), some (.slice ((L2 2).a) (0 + u.length) ((L2 2).n))], [.vue (b) (o) (iv (u)), .row ((L2 2).a) (0 + u.length) ((L2 2).n) 1 ([] ++ ((iv (u))).take (u.length * 1)) 3 true], []⟩)
    (fun L2 => [31 = 31, 3 = 3, (some ⟨(L2 0).b, 0, none⟩ : Option Addr) = some ⟨(L2 0).b, 0, none⟩, 0 = 0, 0 = 0, b = b, 1 = 1, some 1 = some 1, 0 < 1, o = o ∧ u.length * 1 ≤ ((iv (u))).length, ∀ z ∈ ((iv (u))).take (u.length * 1), z.oneCell' = true, 0 + u.length ≤ maxLen, (0 + u.length) * 8 ≤ 140737488355328])
    fol (by kernel_rfl) (fun _ => by kernel_rfl) (fun L2 => ⟨rfl, rfl, rfl, rfl, rfl, rfl, rfl, rfl, (by decide), ⟨rfl, by rw [iv_len]; omega⟩, (fun z hz => iv_one _ z (List.mem_of_mem_take hz)), (by unfold maxLen; omega), (by omega), trivial⟩) (fun L2 => ?_)
  refine aw_ret ?_
  exact fin_new none [0] (.slice ((L2 2).a) (0 + u.length) ((L2 2).n)) [] (⟨0, (L2 2).a, (L2 2).n⟩) (fun l => .slice (l.a) (0 + u.length) (l.n)) (fun l => .row (l.a) (0 + u.length) (l.n) 1 ([] ++ ((iv (u))).take (u.length * 1)) 3 true) 1 (.inr rfl) rfl (by kernel_rfl) trivial rfl rfl rfl

theorem Un.copy (b o cap : Nat) (u : List Int) (h0 : 0 < u.length) (hl : u.length ≤ 1000000) : CallN Try.prog 9 #[.slice (some ⟨b, o, none⟩) u.length cap] [.vue b o (iv u)] (fun l => .slice l.a u.length l.n) (fun l => .row l.a u.length l.n 1 (iv u) 3 true) := by
  have h := Un.copy1 b o cap u h0 hl
  rw [List.take_of_length_le (by rw [iv_len]; omega)] at h
  simp only [Nat.zero_add, List.nil_append] at h
  exact h
set_option maxRecDepth 100000 in
set_option maxHeartbeats 400000 in
theorem Un.copy0n (c : Nat) : CallN Try.prog 9 #[.slice (none) (0) (c)] [] (fun l => .slice (some ⟨l.b, 0, none⟩) (0) (0)) (fun l => .blk (l.b) [] 3 true) := by
  intro w hw
  refine calls_aw [some (.slice (none) (0) (c)), aU, aU, aU, aU, aU] [] Try.func9 rfl (by kernel_rfl) (fun e x h => by cases h) ?_
  refine aw_sr [⟨.pure, [], none, true⟩]
    (fun L1 => ⟨[some (.slice (none) (0) (c)), aU, some (.slice none 0 0), aU, aU, aU], [], []⟩)
    (fun L1 => [])
    fol (by kernel_rfl) (fun _ => by kernel_rfl) (fun L1 => trivial) (fun L1 => ?_)
  refine aw_sr [⟨.new, [], none, true⟩, ⟨.pure, [], none, true⟩, ⟨.pure, [0, 1], none, true⟩, ⟨.pure, [0, 1, 2], none, true⟩]
    (fun L2 => ⟨[some (.slice (none) (0) (c)), aU, aS (L2 0).b 0 0 0, aS (L2 0).b 0 0 0, some (.slice (none) (0) (c)), aS (L2 0).b 0 0 0], [.blk ((L2 0).b) [] 3 true], []⟩)
    (fun L2 => [])
    fol (by kernel_rfl) (fun _ => by kernel_rfl) (fun L2 => trivial) (fun L2 => ?_)
  refine aw_ret ?_
  exact fin_new none [0] (.slice (some ⟨(L2 0).b, 0, none⟩) (0) (0)) [] (⟨(L2 0).b, none, 0⟩) (fun l => .slice (some ⟨l.b, 0, none⟩) (0) (0)) (fun l => .blk (l.b) [] 3 true) 0 (.inr rfl) rfl (by kernel_rfl) trivial rfl rfl rfl

set_option maxRecDepth 100000 in
set_option maxHeartbeats 400000 in
theorem Un.copy0s (p : Addr) (c : Nat) : CallN Try.prog 9 #[.slice ((some p)) (0) (c)] [] (fun l => .slice (some ⟨l.b, 0, none⟩) (0) (0)) (fun l => .blk (l.b) [] 3 true) := by
  intro w hw
  refine calls_aw [some (.slice ((some p)) (0) (c)), aU, aU, aU, aU, aU] [] Try.func9 rfl (by kernel_rfl) (fun e x h => by cases h) ?_
  refine aw_sr [⟨.pure, [], none, true⟩]
    (fun L1 => ⟨[some (.slice ((some p)) (0) (c)), aU, some (.slice none 0 0), aU, aU, aU], [], []⟩)
    (fun L1 => [])
    fol (by kernel_rfl) (fun _ => by kernel_rfl) (fun L1 => trivial) (fun L1 => ?_)
  refine aw_sr [⟨.new, [], none, true⟩, ⟨.pure, [], none, true⟩, ⟨.pure, [0, 1], none, true⟩, ⟨.pure, [0, 1, 2], none, true⟩]
    (fun L2 => ⟨[some (.slice ((some p)) (0) (c)), aU, aS (L2 0).b 0 0 0, aS (L2 0).b 0 0 0, some (.slice ((some p)) (0) (c)), aS (L2 0).b 0 0 0], [.blk ((L2 0).b) [] 3 true], []⟩)
    (fun L2 => [])
    fol (by kernel_rfl) (fun _ => by kernel_rfl) (fun L2 => trivial) (fun L2 => ?_)
  refine aw_ret ?_
  exact fin_new none [0] (.slice (some ⟨(L2 0).b, 0, none⟩) (0) (0)) [] (⟨(L2 0).b, none, 0⟩) (fun l => .slice (some ⟨l.b, 0, none⟩) (0) (0)) (fun l => .blk (l.b) [] 3 true) 0 (.inr rfl) rfl (by kernel_rfl) trivial rfl rfl rfl

theorem Un.copy0 (q : Option Addr) (c : Nat) : CallN Try.prog 9 #[.slice (q) (0) (c)] [] (fun l => .slice (some ⟨l.b, 0, none⟩) (0) (0)) (fun l => .blk (l.b) [] 3 true) := by
  cases q with
  | none => exact Un.copy0n c
  | some p => exact Un.copy0s p c
set_option maxRecDepth 100000 in
set_option maxHeartbeats 400000 in
theorem Un.firstIn0 (g : Nat) : CallOb Try.prog 25 #[aN 0, .func (.func 26) #[] #[.pointer (some ⟨g, 0, none⟩)]] [] (.tuple #[aN 0, aN 0]) := by
  intro w hw
  refine calls_aw [aI 0, some (.func (.func 26) #[] #[.pointer (some ⟨g, 0, none⟩)]), aU, aU, aU, aU, aU, aU, aU, aU, aU, aU, aU, aU, aU, aU, aU, aU, aU, aU] [] Try.func25 rfl (by kernel_rfl) (fun e x h => by cases h) ?_
  refine aw_sr [⟨.pure, [], none, true⟩, ⟨.pure, [0], none, true⟩]
    (fun L1 => ⟨[aI 0, some (.func (.func 26) #[] #[.pointer (some ⟨g, 0, none⟩)]), aU, aU, aI 0, aI 0, aU, aU, aU, aU, aU, aU, aU, aU, aU, aU, aU, aU, aU, aU], [], []⟩)
    (fun L1 => [])
    fol (by kernel_rfl) (fun _ => by kernel_rfl) (fun L1 => trivial) (fun L1 => ?_)
  refine aw_seq ?_
  refine aw_sr [⟨.pure, [], none, true⟩, ⟨.pure, [], none, true⟩]
    (fun L2 => ⟨[aI 0, some (.func (.func 26) #[] #[.pointer (some ⟨g, 0, none⟩)]), aU, aU, aI 0, aI 0, aU, aU, aI 0, aI 0, aU, aU, aU, aU, aU, aU, aU, aU, aU, aU], [], []⟩)
    (fun L2 => [])
    fol (by kernel_rfl) (fun _ => by kernel_rfl) (fun L2 => trivial) (fun L2 => ?_)
  refine aw_block ?_
  refine aw_rounds 1 ?_
  refine aw_round ?_
  refine aw_sr [⟨.pure, [], none, true⟩]
    (fun L3 => ⟨[aI 0, some (.func (.func 26) #[] #[.pointer (some ⟨g, 0, none⟩)]), aU, aU, aI 0, aI 0, aU, aU, aI 0, aI 0, aF, aU, aU, aU, aU, aU, aU, aU, aU, aU], [], []⟩)
    (fun L3 => [])
    fol (by kernel_rfl) (fun _ => by kernel_rfl) (fun L3 => trivial) (fun L3 => ?_)
  refine aw_seq ?_
  refine aw_false (false) rfl rfl ?_
  refine aw_exit ?_
  refine ex_thn ?_
  refine ex_thn ?_
  refine ex_hit ?_
  refine nrm_thn ?_
  refine aw_sr [⟨.pure, [], none, true⟩, ⟨.pure, [0], none, true⟩]
    (fun L4 => ⟨[aI 0, some (.func (.func 26) #[] #[.pointer (some ⟨g, 0, none⟩)]), aU, aU, aI 0, aI 0, aU, aU, aI 0, aI 0, aF, aU, aU, aU, aU, aU, aU, aU, aU, aU], [], []⟩)
    (fun L4 => [])
    fol (by kernel_rfl) (fun _ => by kernel_rfl) (fun L4 => trivial) (fun L4 => ?_)
  refine aw_ret ?_
  refine fin_ret none [0, 0] (.tuple #[aN 0, aN 0]) [] (.inr rfl) rfl (by kernel_rfl) trivial (fun w' hb => ?_)
  exact ⟨rfl, hb⟩

set_option maxRecDepth 100000 in
set_option maxHeartbeats 400000 in
theorem Un.uneven6 (q : Option Addr) (c : Nat) (r s : Int) (hE : (Sb.frst [0, Sb.unl (Sb.inB (r) (1) (1000000)) 2, Sb.unl (Sb.inB (s) (0) (1000)) 2] != 0) = true) : CallOb Try.prog 8 #[.slice (q) (0) (c), aN r, aN s] [] (.tuple #[.slice none 0 0, .int .i64 (Sb.frst [0, Sb.unl (Sb.inB (r) (1) (1000000)) 2, Sb.unl (Sb.inB (s) (0) (1000)) 2])]) := by
  intro w hw
  refine calls_aw [some (.slice (q) (0) (c)), aI r, aI s, aU, aU, aU, aU, aU, aU, aU, aU, aU, aU, aU, aU, aU, aU, aU, aU, aU, aU, aU, aU, aU, aU, aU, aU, aU, aU, aU, aU, aU, aU, aU, aU, aU, aU, aU, aU, aU, aU, aU, aU, aU, aU, aU, aU, aU, aU, aU, aU, aU, aU, aU, aU] [] Try.func8 rfl (by kernel_rfl) (fun e x h => by cases h) ?_
  refine aw_sr [⟨.new, [], none, true⟩, ⟨.pure, [], none, true⟩, ⟨.pure, [1], none, true⟩]
    (fun L1 => ⟨[some (.slice (q) (0) (c)), aI r, aI s, aP (L1 0).b 0, aU, aU, some (.slice none 0 0), aI 0, aU, aU, aU, aU, aU, aU, aU, aU, aU, aU, aU, aU, aU, aU, aU, aU, aU, aU, aU, aU, aU, aU, aU, aU, aU, aU, aU, aU, aU, aU, aU, aU, aU, aU, aU, aU, aU, aU, aU, aU, aU, aU, aU, aU, aU, aU, aU], [.blk ((L1 0).b) [.slice (q) (0) (c)] 31 true], []⟩)
    (fun L1 => [])
    fol (by kernel_rfl) (fun _ => by kernel_rfl) (fun L1 => trivial) (fun L1 => ?_)
  refine aw_seq ?_
  refine aw_sr [⟨(.read 0), [], none, true⟩, ⟨.pure, [0], none, true⟩, ⟨.pure, [0, 1], none, true⟩]
    (fun L2 => ⟨[some (.slice (q) (0) (c)), aI r, aI s, aP (L1 0).b 0, aU, aU, some (.slice none 0 0), aI 0, aU, aU, aU, aU, aU, some (.slice (q) (0) (c)), aI 0, aF, aU, aU, aU, aU, aU, aU, aU, aU, aU, aU, aU, aU, aU, aU, aU, aU, aU, aU, aU, aU, aU, aU, aU, aU, aU, aU, aU, aU, aU, aU, aU, aU, aU, aU, aU, aU, aU, aU, aU], [.blk ((L1 0).b) [.slice (q) (0) (c)] 31 true], []⟩)
    (fun L2 => [(L1 0).b = (L1 0).b])
    fol (by kernel_rfl) (fun _ => by kernel_rfl) (fun L2 => ⟨rfl, trivial⟩) (fun L2 => ?_)
  refine aw_false (false) rfl rfl ?_
  refine aw_skip ?_
  refine nrm_thn ?_
  refine aw_sr [⟨(.read 0), [], none, true⟩, ⟨.pure, [0], none, true⟩, ⟨.pure, [], none, true⟩, ⟨(.call [] (.tuple #[aN 0, aN 0])), [0, 1, 2], none, true⟩, ⟨.pure, [0, 1, 2, 3], none, true⟩, ⟨.pure, [0, 1, 2, 3, 4], none, true⟩, ⟨.pure, [0, 1, 2, 3, 4], none, true⟩, ⟨.pure, [0, 1, 2, 3, 4, 5], none, true⟩, ⟨.pure, [0, 1, 2, 3, 4, 5, 6, 7], none, true⟩]
    (fun L3 => ⟨[some (.slice (q) (0) (c)), aI r, aI s, aP (L1 0).b 0, aU, aU, some (.slice none 0 0), aI 0, aI 0, aI 0, aU, aU, aU, some (.slice (q) (0) (c)), aI 0, aF, some (.tuple #[aN 0, aN 0]), some (.slice (q) (0) (c)), aI 0, some (.func (.func 26) #[] #[.pointer (some ⟨(L1 0).b, 0, none⟩)]), some (.tuple #[aN 0, aN 0]), aI 0, aI 0, aU, aU, aU, aU, aU, aU, aU, aU, aU, aU, aU, aU, aU, aU, aU, aU, aU, aU, aU, aU, aU, aU, aU, aU, aU, aU, aU, aU, aU, aU, aU, aU], [.blk ((L1 0).b) [.slice (q) (0) (c)] 31 true], []⟩)
    (fun L3 => [(L1 0).b = (L1 0).b, CallOb Try.prog 25 #[aN 0, .func (.func 26) #[] #[.pointer (some ⟨(L1 0).b, 0, none⟩)]] [] (.tuple #[aN 0, aN 0])])
    fol (by kernel_rfl) (fun _ => by kernel_rfl) (fun L3 => ⟨rfl, ((Un.firstIn0 _)), trivial⟩) (fun L3 => ?_)
  refine aw_seq ?_
  refine aw_sr [⟨.pure, [], none, true⟩, ⟨.pure, [], none, true⟩, ⟨(.call [] (.int .i64 (Sb.unl (Sb.inB (r) (1) (1000000)) 2))), [1], none, true⟩, ⟨.pure, [], none, true⟩, ⟨(.call [] (.int .i64 (Sb.unl (Sb.inB (s) (0) (1000)) 2))), [1, 2, 3], none, true⟩, ⟨.new, [0, 1, 2, 3, 4], none, true⟩, ⟨(.call [6] (.int .i64 (Sb.frst [0, Sb.unl (Sb.inB (r) (1) (1000000)) 2, Sb.unl (Sb.inB (s) (0) (1000)) 2]))), [0, 1, 2, 3, 4, 5], none, true⟩, ⟨.pure, [0, 1, 2, 3, 4, 5, 6], none, true⟩]
    (fun L4 => ⟨[some (.slice (q) (0) (c)), aI r, aI s, aP (L1 0).b 0, aU, aU, some (.slice none 0 0), aI 0, aI 0, some (.int .i64 (Sb.frst [0, Sb.unl (Sb.inB (r) (1) (1000000)) 2, Sb.unl (Sb.inB (s) (0) (1000)) 2])), aU, aU, aU, some (.slice (q) (0) (c)), aI 0, aF, some (.tuple #[aN 0, aN 0]), some (.slice (q) (0) (c)), aI 0, some (.func (.func 26) #[] #[.pointer (some ⟨(L1 0).b, 0, none⟩)]), some (.tuple #[aN 0, aN 0]), aI 0, aI 0, aI 0, aI r, some (.int .i64 (Sb.unl (Sb.inB (r) (1) (1000000)) 2)), aI s, some (.int .i64 (Sb.unl (Sb.inB (s) (0) (1000)) 2)), aS (L4 5).b 0 3 3, some (.int .i64 (Sb.frst [0, Sb.unl (Sb.inB (r) (1) (1000000)) 2, Sb.unl (Sb.inB (s) (0) (1000)) 2])), aU, aU, aU, aU, aU, aU, aU, aU, aU, aU, aU, aU, aU, aU, aU, aU, aU, aU, aU, aU, aU, aU, aU, aU, aU], [.blk ((L1 0).b) [.slice (q) (0) (c)] 31 true, .blk ((L4 5).b) [aN 0, .int .i64 (Sb.unl (Sb.inB (r) (1) (1000000)) 2), .int .i64 (Sb.unl (Sb.inB (s) (0) (1000)) 2)] 25 true], []⟩)
    (fun L4 => [CallOb Try.prog 28 #[aN r] [] (.int .i64 (Sb.unl (Sb.inB (r) (1) (1000000)) 2)), CallOb Try.prog 27 #[aN s, aN 0, aN 1000] [] (.int .i64 (Sb.unl (Sb.inB (s) (0) (1000)) 2)), CallOb Try.prog 18 #[.slice (some ⟨(L4 5).b, 0, none⟩) (3) (3)] [.blk ((L4 5).b) [aN 0, .int .i64 (Sb.unl (Sb.inB (r) (1) (1000000)) 2), .int .i64 (Sb.unl (Sb.inB (s) (0) (1000)) 2)] 25 true] (.int .i64 (Sb.frst [0, Sb.unl (Sb.inB (r) (1) (1000000)) 2, Sb.unl (Sb.inB (s) (0) (1000)) 2]))])
    fol (by kernel_rfl) (fun _ => by kernel_rfl) (fun L4 => ⟨(Un.echo_p _), (Sb.rangeError _ _ _), (callOb_frz (Sb.firstOf3 _ _ _ _)), trivial⟩) (fun L4 => ?_)
  refine aw_sr [⟨.pure, [], none, true⟩, ⟨.pure, [0], none, true⟩]
    (fun L5 => ⟨[some (.slice (q) (0) (c)), aI r, aI s, aP (L1 0).b 0, aU, aU, some (.slice none 0 0), aI 0, aI 0, some (.int .i64 (Sb.frst [0, Sb.unl (Sb.inB (r) (1) (1000000)) 2, Sb.unl (Sb.inB (s) (0) (1000)) 2])), aU, aU, aU, some (.slice (q) (0) (c)), aI 0, aF, some (.tuple #[aN 0, aN 0]), some (.slice (q) (0) (c)), aI 0, some (.func (.func 26) #[] #[.pointer (some ⟨(L1 0).b, 0, none⟩)]), some (.tuple #[aN 0, aN 0]), aI 0, aI 0, aI 0, aI r, some (.int .i64 (Sb.unl (Sb.inB (r) (1) (1000000)) 2)), aI s, some (.int .i64 (Sb.unl (Sb.inB (s) (0) (1000)) 2)), aS (L4 5).b 0 3 3, some (.int .i64 (Sb.frst [0, Sb.unl (Sb.inB (r) (1) (1000000)) 2, Sb.unl (Sb.inB (s) (0) (1000)) 2])), some (.int .i64 (Sb.frst [0, Sb.unl (Sb.inB (r) (1) (1000000)) 2, Sb.unl (Sb.inB (s) (0) (1000)) 2])), some (.bool ((Sb.frst [0, Sb.unl (Sb.inB (r) (1) (1000000)) 2, Sb.unl (Sb.inB (s) (0) (1000)) 2]) != (0))), aU, aU, aU, aU, aU, aU, aU, aU, aU, aU, aU, aU, aU, aU, aU, aU, aU, aU, aU, aU, aU, aU, aU], [.blk ((L1 0).b) [.slice (q) (0) (c)] 31 true, .blk ((L4 5).b) [aN 0, .int .i64 (Sb.unl (Sb.inB (r) (1) (1000000)) 2), .int .i64 (Sb.unl (Sb.inB (s) (0) (1000)) 2)] 25 true], []⟩)
    (fun L5 => [])
    fol (by kernel_rfl) (fun _ => by kernel_rfl) (fun L5 => trivial) (fun L5 => ?_)
  refine aw_true ((Sb.frst [0, Sb.unl (Sb.inB (r) (1) (1000000)) 2, Sb.unl (Sb.inB (s) (0) (1000)) 2]) != (0)) rfl hE ?_
  refine aw_sr [⟨.pure, [], none, true⟩, ⟨.pure, [], none, true⟩, ⟨.pure, [0, 1], none, true⟩]
    (fun L6 => ⟨[some (.slice (q) (0) (c)), aI r, aI s, aP (L1 0).b 0, aU, aU, some (.slice none 0 0), some (.int .i64 (Sb.frst [0, Sb.unl (Sb.inB (r) (1) (1000000)) 2, Sb.unl (Sb.inB (s) (0) (1000)) 2])), aI 0, some (.int .i64 (Sb.frst [0, Sb.unl (Sb.inB (r) (1) (1000000)) 2, Sb.unl (Sb.inB (s) (0) (1000)) 2])), aU, aU, aU, some (.slice (q) (0) (c)), aI 0, aF, some (.tuple #[aN 0, aN 0]), some (.slice (q) (0) (c)), aI 0, some (.func (.func 26) #[] #[.pointer (some ⟨(L1 0).b, 0, none⟩)]), some (.tuple #[aN 0, aN 0]), aI 0, aI 0, aI 0, aI r, some (.int .i64 (Sb.unl (Sb.inB (r) (1) (1000000)) 2)), aI s, some (.int .i64 (Sb.unl (Sb.inB (s) (0) (1000)) 2)), aS (L4 5).b 0 3 3, some (.int .i64 (Sb.frst [0, Sb.unl (Sb.inB (r) (1) (1000000)) 2, Sb.unl (Sb.inB (s) (0) (1000)) 2])), some (.int .i64 (Sb.frst [0, Sb.unl (Sb.inB (r) (1) (1000000)) 2, Sb.unl (Sb.inB (s) (0) (1000)) 2])), some (.bool ((Sb.frst [0, Sb.unl (Sb.inB (r) (1) (1000000)) 2, Sb.unl (Sb.inB (s) (0) (1000)) 2]) != (0))), some (.int .i64 (Sb.frst [0, Sb.unl (Sb.inB (r) (1) (1000000)) 2, Sb.unl (Sb.inB (s) (0) (1000)) 2])), aU, aU, aU, aU, aU, aU, aU, aU, aU, aU, aU, aU, aU, aU, aU, aU, aU, aU, aU, aU, aU, aU], [.blk ((L1 0).b) [.slice (q) (0) (c)] 31 true, .blk ((L4 5).b) [aN 0, .int .i64 (Sb.unl (Sb.inB (r) (1) (1000000)) 2), .int .i64 (Sb.unl (Sb.inB (s) (0) (1000)) 2)] 25 true], []⟩)
    (fun L6 => [])
    fol (by kernel_rfl) (fun _ => by kernel_rfl) (fun L6 => trivial) (fun L6 => ?_)
  refine aw_ret ?_
  refine ret_thn ?_
  refine fin_ret none [0, 0] (.tuple #[.slice none 0 0, .int .i64 (Sb.frst [0, Sb.unl (Sb.inB (r) (1) (1000000)) 2, Sb.unl (Sb.inB (s) (0) (1000)) 2])]) [] (.inr rfl) rfl (by kernel_rfl) trivial (fun w' hb => ?_)
  exact ⟨rfl, hb⟩

set_option maxRecDepth 100000 in
set_option maxHeartbeats 400000 in
theorem Un.uneven7 (q : Option Addr) (c : Nat) (r s : Int) (hE : (Sb.frst [0, Sb.unl (Sb.inB (r) (1) (1000000)) 2, Sb.unl (Sb.inB (s) (0) (1000)) 2] != 0) = false) : CallOb Try.prog 8 #[.slice (q) (0) (c), aN r, aN s] [] (.tuple #[.slice none 0 0, aN 0]) := by
  intro w hw
  refine calls_aw [some (.slice (q) (0) (c)), aI r, aI s, aU, aU, aU, aU, aU, aU, aU, aU, aU, aU, aU, aU, aU, aU, aU, aU, aU, aU, aU, aU, aU, aU, aU, aU, aU, aU, aU, aU, aU, aU, aU, aU, aU, aU, aU, aU, aU, aU, aU, aU, aU, aU, aU, aU, aU, aU, aU, aU, aU, aU, aU, aU] [] Try.func8 rfl (by kernel_rfl) (fun e x h => by cases h) ?_
  refine aw_sr [⟨.new, [], none, true⟩, ⟨.pure, [], none, true⟩, ⟨.pure, [1], none, true⟩]
    (fun L1 => ⟨[some (.slice (q) (0) (c)), aI r, aI s, aP (L1 0).b 0, aU, aU, some (.slice none 0 0), aI 0, aU, aU, aU, aU, aU, aU, aU, aU, aU, aU, aU, aU, aU, aU, aU, aU, aU, aU, aU, aU, aU, aU, aU, aU, aU, aU, aU, aU, aU, aU, aU, aU, aU, aU, aU, aU, aU, aU, aU, aU, aU, aU, aU, aU, aU, aU, aU], [.blk ((L1 0).b) [.slice (q) (0) (c)] 31 true], []⟩)
    (fun L1 => [])
    fol (by kernel_rfl) (fun _ => by kernel_rfl) (fun L1 => trivial) (fun L1 => ?_)
  refine aw_seq ?_
  refine aw_sr [⟨(.read 0), [], none, true⟩, ⟨.pure, [0], none, true⟩, ⟨.pure, [0, 1], none, true⟩]
    (fun L2 => ⟨[some (.slice (q) (0) (c)), aI r, aI s, aP (L1 0).b 0, aU, aU, some (.slice none 0 0), aI 0, aU, aU, aU, aU, aU, some (.slice (q) (0) (c)), aI 0, aF, aU, aU, aU, aU, aU, aU, aU, aU, aU, aU, aU, aU, aU, aU, aU, aU, aU, aU, aU, aU, aU, aU, aU, aU, aU, aU, aU, aU, aU, aU, aU, aU, aU, aU, aU, aU, aU, aU, aU], [.blk ((L1 0).b) [.slice (q) (0) (c)] 31 true], []⟩)
    (fun L2 => [(L1 0).b = (L1 0).b])
    fol (by kernel_rfl) (fun _ => by kernel_rfl) (fun L2 => ⟨rfl, trivial⟩) (fun L2 => ?_)
  refine aw_false (false) rfl rfl ?_
  refine aw_skip ?_
  refine nrm_thn ?_
  refine aw_sr [⟨(.read 0), [], none, true⟩, ⟨.pure, [0], none, true⟩, ⟨.pure, [], none, true⟩, ⟨(.call [] (.tuple #[aN 0, aN 0])), [0, 1, 2], none, true⟩, ⟨.pure, [0, 1, 2, 3], none, true⟩, ⟨.pure, [0, 1, 2, 3, 4], none, true⟩, ⟨.pure, [0, 1, 2, 3, 4], none, true⟩, ⟨.pure, [0, 1, 2, 3, 4, 5], none, true⟩, ⟨.pure, [0, 1, 2, 3, 4, 5, 6, 7], none, true⟩]
    (fun L3 => ⟨[some (.slice (q) (0) (c)), aI r, aI s, aP (L1 0).b 0, aU, aU, some (.slice none 0 0), aI 0, aI 0, aI 0, aU, aU, aU, some (.slice (q) (0) (c)), aI 0, aF, some (.tuple #[aN 0, aN 0]), some (.slice (q) (0) (c)), aI 0, some (.func (.func 26) #[] #[.pointer (some ⟨(L1 0).b, 0, none⟩)]), some (.tuple #[aN 0, aN 0]), aI 0, aI 0, aU, aU, aU, aU, aU, aU, aU, aU, aU, aU, aU, aU, aU, aU, aU, aU, aU, aU, aU, aU, aU, aU, aU, aU, aU, aU, aU, aU, aU, aU, aU, aU], [.blk ((L1 0).b) [.slice (q) (0) (c)] 31 true], []⟩)
    (fun L3 => [(L1 0).b = (L1 0).b, CallOb Try.prog 25 #[aN 0, .func (.func 26) #[] #[.pointer (some ⟨(L1 0).b, 0, none⟩)]] [] (.tuple #[aN 0, aN 0])])
    fol (by kernel_rfl) (fun _ => by kernel_rfl) (fun L3 => ⟨rfl, ((Un.firstIn0 _)), trivial⟩) (fun L3 => ?_)
  refine aw_seq ?_
  refine aw_sr [⟨.pure, [], none, true⟩, ⟨.pure, [], none, true⟩, ⟨(.call [] (.int .i64 (Sb.unl (Sb.inB (r) (1) (1000000)) 2))), [1], none, true⟩, ⟨.pure, [], none, true⟩, ⟨(.call [] (.int .i64 (Sb.unl (Sb.inB (s) (0) (1000)) 2))), [1, 2, 3], none, true⟩, ⟨.new, [0, 1, 2, 3, 4], none, true⟩, ⟨(.call [6] (.int .i64 (Sb.frst [0, Sb.unl (Sb.inB (r) (1) (1000000)) 2, Sb.unl (Sb.inB (s) (0) (1000)) 2]))), [0, 1, 2, 3, 4, 5], none, true⟩, ⟨.pure, [0, 1, 2, 3, 4, 5, 6], none, true⟩]
    (fun L4 => ⟨[some (.slice (q) (0) (c)), aI r, aI s, aP (L1 0).b 0, aU, aU, some (.slice none 0 0), aI 0, aI 0, some (.int .i64 (Sb.frst [0, Sb.unl (Sb.inB (r) (1) (1000000)) 2, Sb.unl (Sb.inB (s) (0) (1000)) 2])), aU, aU, aU, some (.slice (q) (0) (c)), aI 0, aF, some (.tuple #[aN 0, aN 0]), some (.slice (q) (0) (c)), aI 0, some (.func (.func 26) #[] #[.pointer (some ⟨(L1 0).b, 0, none⟩)]), some (.tuple #[aN 0, aN 0]), aI 0, aI 0, aI 0, aI r, some (.int .i64 (Sb.unl (Sb.inB (r) (1) (1000000)) 2)), aI s, some (.int .i64 (Sb.unl (Sb.inB (s) (0) (1000)) 2)), aS (L4 5).b 0 3 3, some (.int .i64 (Sb.frst [0, Sb.unl (Sb.inB (r) (1) (1000000)) 2, Sb.unl (Sb.inB (s) (0) (1000)) 2])), aU, aU, aU, aU, aU, aU, aU, aU, aU, aU, aU, aU, aU, aU, aU, aU, aU, aU, aU, aU, aU, aU, aU, aU, aU], [.blk ((L1 0).b) [.slice (q) (0) (c)] 31 true, .blk ((L4 5).b) [aN 0, .int .i64 (Sb.unl (Sb.inB (r) (1) (1000000)) 2), .int .i64 (Sb.unl (Sb.inB (s) (0) (1000)) 2)] 25 true], []⟩)
    (fun L4 => [CallOb Try.prog 28 #[aN r] [] (.int .i64 (Sb.unl (Sb.inB (r) (1) (1000000)) 2)), CallOb Try.prog 27 #[aN s, aN 0, aN 1000] [] (.int .i64 (Sb.unl (Sb.inB (s) (0) (1000)) 2)), CallOb Try.prog 18 #[.slice (some ⟨(L4 5).b, 0, none⟩) (3) (3)] [.blk ((L4 5).b) [aN 0, .int .i64 (Sb.unl (Sb.inB (r) (1) (1000000)) 2), .int .i64 (Sb.unl (Sb.inB (s) (0) (1000)) 2)] 25 true] (.int .i64 (Sb.frst [0, Sb.unl (Sb.inB (r) (1) (1000000)) 2, Sb.unl (Sb.inB (s) (0) (1000)) 2]))])
    fol (by kernel_rfl) (fun _ => by kernel_rfl) (fun L4 => ⟨(Un.echo_p _), (Sb.rangeError _ _ _), (callOb_frz (Sb.firstOf3 _ _ _ _)), trivial⟩) (fun L4 => ?_)
  refine aw_sr [⟨.pure, [], none, true⟩, ⟨.pure, [0], none, true⟩]
    (fun L5 => ⟨[some (.slice (q) (0) (c)), aI r, aI s, aP (L1 0).b 0, aU, aU, some (.slice none 0 0), aI 0, aI 0, some (.int .i64 (Sb.frst [0, Sb.unl (Sb.inB (r) (1) (1000000)) 2, Sb.unl (Sb.inB (s) (0) (1000)) 2])), aU, aU, aU, some (.slice (q) (0) (c)), aI 0, aF, some (.tuple #[aN 0, aN 0]), some (.slice (q) (0) (c)), aI 0, some (.func (.func 26) #[] #[.pointer (some ⟨(L1 0).b, 0, none⟩)]), some (.tuple #[aN 0, aN 0]), aI 0, aI 0, aI 0, aI r, some (.int .i64 (Sb.unl (Sb.inB (r) (1) (1000000)) 2)), aI s, some (.int .i64 (Sb.unl (Sb.inB (s) (0) (1000)) 2)), aS (L4 5).b 0 3 3, some (.int .i64 (Sb.frst [0, Sb.unl (Sb.inB (r) (1) (1000000)) 2, Sb.unl (Sb.inB (s) (0) (1000)) 2])), some (.int .i64 (Sb.frst [0, Sb.unl (Sb.inB (r) (1) (1000000)) 2, Sb.unl (Sb.inB (s) (0) (1000)) 2])), some (.bool ((Sb.frst [0, Sb.unl (Sb.inB (r) (1) (1000000)) 2, Sb.unl (Sb.inB (s) (0) (1000)) 2]) != (0))), aU, aU, aU, aU, aU, aU, aU, aU, aU, aU, aU, aU, aU, aU, aU, aU, aU, aU, aU, aU, aU, aU, aU], [.blk ((L1 0).b) [.slice (q) (0) (c)] 31 true, .blk ((L4 5).b) [aN 0, .int .i64 (Sb.unl (Sb.inB (r) (1) (1000000)) 2), .int .i64 (Sb.unl (Sb.inB (s) (0) (1000)) 2)] 25 true], []⟩)
    (fun L5 => [])
    fol (by kernel_rfl) (fun _ => by kernel_rfl) (fun L5 => trivial) (fun L5 => ?_)
  refine aw_false ((Sb.frst [0, Sb.unl (Sb.inB (r) (1) (1000000)) 2, Sb.unl (Sb.inB (s) (0) (1000)) 2]) != (0)) rfl hE ?_
  refine aw_skip ?_
  refine nrm_thn ?_
  refine aw_sr [⟨.pure, [], none, true⟩]
    (fun L6 => ⟨[some (.slice (q) (0) (c)), aI r, aI s, aP (L1 0).b 0, aU, aU, some (.slice none 0 0), aI 0, aI 0, some (.int .i64 (Sb.frst [0, Sb.unl (Sb.inB (r) (1) (1000000)) 2, Sb.unl (Sb.inB (s) (0) (1000)) 2])), some (.slice none 0 0), aU, aU, some (.slice (q) (0) (c)), aI 0, aF, some (.tuple #[aN 0, aN 0]), some (.slice (q) (0) (c)), aI 0, some (.func (.func 26) #[] #[.pointer (some ⟨(L1 0).b, 0, none⟩)]), some (.tuple #[aN 0, aN 0]), aI 0, aI 0, aI 0, aI r, some (.int .i64 (Sb.unl (Sb.inB (r) (1) (1000000)) 2)), aI s, some (.int .i64 (Sb.unl (Sb.inB (s) (0) (1000)) 2)), aS (L4 5).b 0 3 3, some (.int .i64 (Sb.frst [0, Sb.unl (Sb.inB (r) (1) (1000000)) 2, Sb.unl (Sb.inB (s) (0) (1000)) 2])), some (.int .i64 (Sb.frst [0, Sb.unl (Sb.inB (r) (1) (1000000)) 2, Sb.unl (Sb.inB (s) (0) (1000)) 2])), some (.bool ((Sb.frst [0, Sb.unl (Sb.inB (r) (1) (1000000)) 2, Sb.unl (Sb.inB (s) (0) (1000)) 2]) != (0))), aU, aU, aU, aU, aU, aU, aU, aU, aU, aU, aU, aU, aU, aU, aU, aU, aU, aU, aU, aU, aU, aU, aU], [.blk ((L1 0).b) [.slice (q) (0) (c)] 31 true, .blk ((L4 5).b) [aN 0, .int .i64 (Sb.unl (Sb.inB (r) (1) (1000000)) 2), .int .i64 (Sb.unl (Sb.inB (s) (0) (1000)) 2)] 25 true], []⟩)
    (fun L6 => [])
    fol (by kernel_rfl) (fun _ => by kernel_rfl) (fun L6 => trivial) (fun L6 => ?_)
  refine aw_seq ?_
  refine aw_sr [⟨(.read 0), [], none, true⟩, ⟨.pure, [0], none, true⟩, ⟨.pure, [], none, true⟩]
    (fun L7 => ⟨[some (.slice (q) (0) (c)), aI r, aI s, aP (L1 0).b 0, aU, aU, some (.slice none 0 0), aI 0, aI 0, some (.int .i64 (Sb.frst [0, Sb.unl (Sb.inB (r) (1) (1000000)) 2, Sb.unl (Sb.inB (s) (0) (1000)) 2])), some (.slice none 0 0), aU, aU, some (.slice (q) (0) (c)), aI 0, aF, some (.tuple #[aN 0, aN 0]), some (.slice (q) (0) (c)), aI 0, some (.func (.func 26) #[] #[.pointer (some ⟨(L1 0).b, 0, none⟩)]), some (.tuple #[aN 0, aN 0]), aI 0, aI 0, aI 0, aI r, some (.int .i64 (Sb.unl (Sb.inB (r) (1) (1000000)) 2)), aI s, some (.int .i64 (Sb.unl (Sb.inB (s) (0) (1000)) 2)), aS (L4 5).b 0 3 3, some (.int .i64 (Sb.frst [0, Sb.unl (Sb.inB (r) (1) (1000000)) 2, Sb.unl (Sb.inB (s) (0) (1000)) 2])), some (.int .i64 (Sb.frst [0, Sb.unl (Sb.inB (r) (1) (1000000)) 2, Sb.unl (Sb.inB (s) (0) (1000)) 2])), some (.bool ((Sb.frst [0, Sb.unl (Sb.inB (r) (1) (1000000)) 2, Sb.unl (Sb.inB (s) (0) (1000)) 2]) != (0))), aU, some (.slice (q) (0) (c)), aI 0, aI 0, aU, aU, aU, aU, aU, aU, aU, aU, aU, aU, aU, aU, aU, aU, aU, aU, aU, aU, aU], [.blk ((L1 0).b) [.slice (q) (0) (c)] 31 true, .blk ((L4 5).b) [aN 0, .int .i64 (Sb.unl (Sb.inB (r) (1) (1000000)) 2), .int .i64 (Sb.unl (Sb.inB (s) (0) (1000)) 2)] 25 true], []⟩)
    (fun L7 => [(L1 0).b = (L1 0).b])
    fol (by kernel_rfl) (fun _ => by kernel_rfl) (fun L7 => ⟨rfl, trivial⟩) (fun L7 => ?_)
  refine aw_block ?_
  refine aw_rounds 1 ?_
  refine aw_round ?_
  refine aw_sr [⟨.pure, [], none, true⟩]
    (fun L8 => ⟨[some (.slice (q) (0) (c)), aI r, aI s, aP (L1 0).b 0, aU, aU, some (.slice none 0 0), aI 0, aI 0, some (.int .i64 (Sb.frst [0, Sb.unl (Sb.inB (r) (1) (1000000)) 2, Sb.unl (Sb.inB (s) (0) (1000)) 2])), some (.slice none 0 0), aU, aU, some (.slice (q) (0) (c)), aI 0, aF, some (.tuple #[aN 0, aN 0]), some (.slice (q) (0) (c)), aI 0, some (.func (.func 26) #[] #[.pointer (some ⟨(L1 0).b, 0, none⟩)]), some (.tuple #[aN 0, aN 0]), aI 0, aI 0, aI 0, aI r, some (.int .i64 (Sb.unl (Sb.inB (r) (1) (1000000)) 2)), aI s, some (.int .i64 (Sb.unl (Sb.inB (s) (0) (1000)) 2)), aS (L4 5).b 0 3 3, some (.int .i64 (Sb.frst [0, Sb.unl (Sb.inB (r) (1) (1000000)) 2, Sb.unl (Sb.inB (s) (0) (1000)) 2])), some (.int .i64 (Sb.frst [0, Sb.unl (Sb.inB (r) (1) (1000000)) 2, Sb.unl (Sb.inB (s) (0) (1000)) 2])), some (.bool ((Sb.frst [0, Sb.unl (Sb.inB (r) (1) (1000000)) 2, Sb.unl (Sb.inB (s) (0) (1000)) 2]) != (0))), aU, some (.slice (q) (0) (c)), aI 0, aI 0, aF, aU, aU, aU, aU, aU, aU, aU, aU, aU, aU, aU, aU, aU, aU, aU, aU, aU, aU], [.blk ((L1 0).b) [.slice (q) (0) (c)] 31 true, .blk ((L4 5).b) [aN 0, .int .i64 (Sb.unl (Sb.inB (r) (1) (1000000)) 2), .int .i64 (Sb.unl (Sb.inB (s) (0) (1000)) 2)] 25 true], []⟩)
    (fun L8 => [])
    fol (by kernel_rfl) (fun _ => by kernel_rfl) (fun L8 => trivial) (fun L8 => ?_)
  refine aw_seq ?_
  refine aw_false (false) rfl rfl ?_
  refine aw_exit ?_
  refine ex_thn ?_
  refine ex_thn ?_
  refine ex_hit ?_
  refine nrm_thn ?_
  refine aw_sr [⟨.pure, [], none, true⟩, ⟨.pure, [0], none, true⟩, ⟨.pure, [0, 1], none, true⟩]
    (fun L9 => ⟨[some (.slice (q) (0) (c)), aI r, aI s, aP (L1 0).b 0, aU, aU, some (.slice none 0 0), aI 0, aI 0, some (.int .i64 (Sb.frst [0, Sb.unl (Sb.inB (r) (1) (1000000)) 2, Sb.unl (Sb.inB (s) (0) (1000)) 2])), some (.slice none 0 0), aU, aU, some (.slice (q) (0) (c)), aI 0, aF, some (.tuple #[aN 0, aN 0]), some (.slice (q) (0) (c)), aI 0, some (.func (.func 26) #[] #[.pointer (some ⟨(L1 0).b, 0, none⟩)]), some (.tuple #[aN 0, aN 0]), aI 0, aI 0, aI 0, aI r, some (.int .i64 (Sb.unl (Sb.inB (r) (1) (1000000)) 2)), aI s, some (.int .i64 (Sb.unl (Sb.inB (s) (0) (1000)) 2)), aS (L4 5).b 0 3 3, some (.int .i64 (Sb.frst [0, Sb.unl (Sb.inB (r) (1) (1000000)) 2, Sb.unl (Sb.inB (s) (0) (1000)) 2])), some (.int .i64 (Sb.frst [0, Sb.unl (Sb.inB (r) (1) (1000000)) 2, Sb.unl (Sb.inB (s) (0) (1000)) 2])), some (.bool ((Sb.frst [0, Sb.unl (Sb.inB (r) (1) (1000000)) 2, Sb.unl (Sb.inB (s) (0) (1000)) 2]) != (0))), aU, some (.slice (q) (0) (c)), aI 0, aI 0, aF, aU, aU, aU, aU, aU, aU, aU, aU, aU, aU, aU, aU, aU, aU, aU, aU, aU, some (.slice none 0 0)], [.blk ((L1 0).b) [.slice (q) (0) (c)] 31 true, .blk ((L4 5).b) [aN 0, .int .i64 (Sb.unl (Sb.inB (r) (1) (1000000)) 2), .int .i64 (Sb.unl (Sb.inB (s) (0) (1000)) 2)] 25 true], []⟩)
    (fun L9 => [])
    fol (by kernel_rfl) (fun _ => by kernel_rfl) (fun L9 => trivial) (fun L9 => ?_)
  refine aw_ret ?_
  refine fin_ret none [0, 0] (.tuple #[.slice none 0 0, aN 0]) [] (.inr rfl) rfl (by kernel_rfl) trivial (fun w' hb => ?_)
  exact ⟨rfl, hb⟩

set_option maxRecDepth 100000 in
set_option maxHeartbeats 400000 in
theorem Un.ref6 (q : Option Addr) (c : Nat) (r s : Int) (hr : ((Sb.unl (Sb.inB (r) (1) (1000000)) 2) != (0)) = true) : CallOb Try.prog 10 #[.slice (q) (0) (c), aN r, aN s] [] (.tuple #[.slice none 0 0, aN 2]) := by
  intro w hw
  refine calls_aw [some (.slice (q) (0) (c)), aI r, aI s, aU, aU, aU, aU, aU, aU, aU, aU, aU, aU, aU, aU, aU, aU, aU, aU, aU, aU, aU, aU, aU, aU, aU, aU, aU, aU, aU, aU, aU, aU, aU, aU, aU, aU, aU, aU, aU, aU, aU, aU, aU, aU, aU, aU, aU, aU, aU, aU, aU, aU, aU, aU, aU, aU] [] Try.func10 rfl (by kernel_rfl) (fun e x h => by cases h) ?_
  refine aw_sr [⟨.pure, [], none, true⟩, ⟨.pure, [0], none, true⟩]
    (fun L1 => ⟨[some (.slice (q) (0) (c)), aI r, aI s, aU, aU, aU, some (.slice none 0 0), aI 0, aU, aU, aU, aU, aU, aU, aU, aU, aU, aU, aU, aU, aU, aU, aU, aU, aU, aU, aU, aU, aU, aU, aU, aU, aU, aU, aU, aU, aU, aU, aU, aU, aU, aU, aU, aU, aU, aU, aU, aU, aU, aU, aU, aU, aU, aU, aU, aU, aU], [], []⟩)
    (fun L1 => [])
    fol (by kernel_rfl) (fun _ => by kernel_rfl) (fun L1 => trivial) (fun L1 => ?_)
  refine aw_seq ?_
  refine aw_sr [⟨.pure, [], none, true⟩, ⟨.pure, [0], none, true⟩, ⟨.pure, [0, 1], none, true⟩]
    (fun L2 => ⟨[some (.slice (q) (0) (c)), aI r, aI s, aU, aU, aU, some (.slice none 0 0), aI 0, aU, aU, aU, some (.slice (q) (0) (c)), aI 0, aF, aU, aU, aU, aU, aU, aU, aU, aU, aU, aU, aU, aU, aU, aU, aU, aU, aU, aU, aU, aU, aU, aU, aU, aU, aU, aU, aU, aU, aU, aU, aU, aU, aU, aU, aU, aU, aU, aU, aU, aU, aU, aU, aU], [], []⟩)
    (fun L2 => [])
    fol (by kernel_rfl) (fun _ => by kernel_rfl) (fun L2 => trivial) (fun L2 => ?_)
  refine aw_false (false) rfl rfl ?_
  refine aw_skip ?_
  refine nrm_thn ?_
  refine aw_seq ?_
  refine aw_sr [⟨.pure, [], none, true⟩]
    (fun L3 => ⟨[some (.slice (q) (0) (c)), aI r, aI s, aU, aU, aU, some (.slice none 0 0), aI 0, aI 0, aU, aU, some (.slice (q) (0) (c)), aI 0, aF, aU, aU, aU, aU, aU, aU, aU, aU, aU, aU, aU, aU, aU, aU, aU, aU, aU, aU, aU, aU, aU, aU, aU, aU, aU, aU, aU, aU, aU, aU, aU, aU, aU, aU, aU, aU, aU, aU, aU, aU, aU, aU, aU], [], []⟩)
    (fun L3 => [])
    fol (by kernel_rfl) (fun _ => by kernel_rfl) (fun L3 => trivial) (fun L3 => ?_)
  refine aw_block ?_
  refine aw_rounds 1 ?_
  refine aw_round ?_
  refine aw_seq ?_
  refine aw_sr [⟨.pure, [], none, true⟩, ⟨.pure, [], none, true⟩, ⟨.pure, [1], none, true⟩, ⟨.pure, [0, 1, 2], none, true⟩]
    (fun L4 => ⟨[some (.slice (q) (0) (c)), aI r, aI s, aU, aU, aU, some (.slice none 0 0), aI 0, aI 0, aU, aU, some (.slice (q) (0) (c)), aI 0, aF, aI 0, some (.slice (q) (0) (c)), aI 0, aF, aU, aU, aU, aU, aU, aU, aU, aU, aU, aU, aU, aU, aU, aU, aU, aU, aU, aU, aU, aU, aU, aU, aU, aU, aU, aU, aU, aU, aU, aU, aU, aU, aU, aU, aU, aU, aU, aU, aU], [], []⟩)
    (fun L4 => [])
    fol (by kernel_rfl) (fun _ => by kernel_rfl) (fun L4 => trivial) (fun L4 => ?_)
  refine aw_false (false) rfl rfl ?_
  refine aw_exit ?_
  refine ex_thn ?_
  refine ex_thn ?_
  refine ex_hit ?_
  refine nrm_thn ?_
  refine aw_seq ?_
  refine aw_sr [⟨.pure, [], none, true⟩, ⟨(.call [] (.int .i64 (Sb.unl (Sb.inB (r) (1) (1000000)) 2))), [0], none, true⟩, ⟨.pure, [0, 1], none, true⟩, ⟨.pure, [0, 1, 2], none, true⟩, ⟨.pure, [0, 1, 2, 3], none, false⟩, ⟨.pure, [0, 1, 2, 3, 4], none, false⟩, ⟨.pure, [0, 1, 2, 3, 4, 5], none, false⟩, ⟨.pure, [0, 1, 2, 3, 4, 5, 6], aT, true⟩]
    (fun L5 => ⟨[some (.slice (q) (0) (c)), aI r, aI s, aU, aU, aU, some (.slice none 0 0), aI 0, aI 0, aU, aU, some (.slice (q) (0) (c)), aI 0, aF, aI 0, some (.slice (q) (0) (c)), aI 0, aF, aU, aU, aU, aU, aU, aU, aU, aU, aI r, some (.int .i64 (Sb.unl (Sb.inB (r) (1) (1000000)) 2)), some (.bool ((Sb.unl (Sb.inB (r) (1) (1000000)) 2) != (0))), some (.bool ((Sb.unl (Sb.inB (r) (1) (1000000)) 2) != (0))), aU, aU, aU, aT, aU, aU, aU, aU, aU, aU, aU, aU, aU, aU, aU, aU, aU, aU, aU, aU, aU, aU, aU, aU, aU, aU, aU], [], []⟩)
    (fun L5 => [CallOb Try.prog 31 #[aN r] [] (.int .i64 (Sb.unl (Sb.inB (r) (1) (1000000)) 2)), ((Sb.unl (Sb.inB (r) (1) (1000000)) 2) != (0)) = true, ((Sb.unl (Sb.inB (r) (1) (1000000)) 2) != (0)) = true, ((Sb.unl (Sb.inB (r) (1) (1000000)) 2) != (0)) = true, (if ((Sb.unl (Sb.inB (r) (1) (1000000)) 2) != (0)) = true then (.bool (true) : Value) else undef) = .bool (true)])
    fol (by kernel_rfl) (fun _ => by kernel_rfl) (fun L5 => ⟨(Un.echo_r _), hr, hr, hr, (by rw [hr]; rfl), trivial⟩) (fun L5 => ?_)
  refine aw_true (true) rfl rfl ?_
  refine aw_sr [⟨.pure, [], none, true⟩, ⟨.pure, [0], none, true⟩]
    (fun L6 => ⟨[some (.slice (q) (0) (c)), aI r, aI s, aU, aU, aU, some (.slice none 0 0), aI 2, aI 0, aU, aU, some (.slice (q) (0) (c)), aI 0, aF, aI 0, some (.slice (q) (0) (c)), aI 0, aF, aU, aU, aU, aU, aU, aU, aU, aU, aI r, some (.int .i64 (Sb.unl (Sb.inB (r) (1) (1000000)) 2)), some (.bool ((Sb.unl (Sb.inB (r) (1) (1000000)) 2) != (0))), some (.bool ((Sb.unl (Sb.inB (r) (1) (1000000)) 2) != (0))), aU, aU, aU, aT, aU, aU, aU, aU, aU, aU, aU, aU, aU, aU, aU, aU, aU, aU, aU, aU, aU, aU, aU, aU, aU, aU, aU], [], []⟩)
    (fun L6 => [])
    fol (by kernel_rfl) (fun _ => by kernel_rfl) (fun L6 => trivial) (fun L6 => ?_)
  refine aw_ret ?_
  refine ret_thn ?_
  refine fin_ret none [0, 0] (.tuple #[.slice none 0 0, aN 2]) [] (.inr rfl) rfl (by kernel_rfl) trivial (fun w' hb => ?_)
  exact ⟨rfl, hb⟩

set_option maxRecDepth 100000 in
set_option maxHeartbeats 400000 in
theorem Un.ref7 (q : Option Addr) (c : Nat) (r s : Int) (hr : ((Sb.unl (Sb.inB (r) (1) (1000000)) 2) != (0)) = false) (hs : Sb.inB (s) (0) (1000) = false) : CallOb Try.prog 10 #[.slice (q) (0) (c), aN r, aN s] [] (.tuple #[.slice none 0 0, aN 2]) := by
  intro w hw
  refine calls_aw [some (.slice (q) (0) (c)), aI r, aI s, aU, aU, aU, aU, aU, aU, aU, aU, aU, aU, aU, aU, aU, aU, aU, aU, aU, aU, aU, aU, aU, aU, aU, aU, aU, aU, aU, aU, aU, aU, aU, aU, aU, aU, aU, aU, aU, aU, aU, aU, aU, aU, aU, aU, aU, aU, aU, aU, aU, aU, aU, aU, aU, aU] [] Try.func10 rfl (by kernel_rfl) (fun e x h => by cases h) ?_
  refine aw_sr [⟨.pure, [], none, true⟩, ⟨.pure, [0], none, true⟩]
    (fun L1 => ⟨[some (.slice (q) (0) (c)), aI r, aI s, aU, aU, aU, some (.slice none 0 0), aI 0, aU, aU, aU, aU, aU, aU, aU, aU, aU, aU, aU, aU, aU, aU, aU, aU, aU, aU, aU, aU, aU, aU, aU, aU, aU, aU, aU, aU, aU, aU, aU, aU, aU, aU, aU, aU, aU, aU, aU, aU, aU, aU, aU, aU, aU, aU, aU, aU, aU], [], []⟩)
    (fun L1 => [])
    fol (by kernel_rfl) (fun _ => by kernel_rfl) (fun L1 => trivial) (fun L1 => ?_)
  refine aw_seq ?_
  refine aw_sr [⟨.pure, [], none, true⟩, ⟨.pure, [0], none, true⟩, ⟨.pure, [0, 1], none, true⟩]
    (fun L2 => ⟨[some (.slice (q) (0) (c)), aI r, aI s, aU, aU, aU, some (.slice none 0 0), aI 0, aU, aU, aU, some (.slice (q) (0) (c)), aI 0, aF, aU, aU, aU, aU, aU, aU, aU, aU, aU, aU, aU, aU, aU, aU, aU, aU, aU, aU, aU, aU, aU, aU, aU, aU, aU, aU, aU, aU, aU, aU, aU, aU, aU, aU, aU, aU, aU, aU, aU, aU, aU, aU, aU], [], []⟩)
    (fun L2 => [])
    fol (by kernel_rfl) (fun _ => by kernel_rfl) (fun L2 => trivial) (fun L2 => ?_)
  refine aw_false (false) rfl rfl ?_
  refine aw_skip ?_
  refine nrm_thn ?_
  refine aw_seq ?_
  refine aw_sr [⟨.pure, [], none, true⟩]
    (fun L3 => ⟨[some (.slice (q) (0) (c)), aI r, aI s, aU, aU, aU, some (.slice none 0 0), aI 0, aI 0, aU, aU, some (.slice (q) (0) (c)), aI 0, aF, aU, aU, aU, aU, aU, aU, aU, aU, aU, aU, aU, aU, aU, aU, aU, aU, aU, aU, aU, aU, aU, aU, aU, aU, aU, aU, aU, aU, aU, aU, aU, aU, aU, aU, aU, aU, aU, aU, aU, aU, aU, aU, aU], [], []⟩)
    (fun L3 => [])
    fol (by kernel_rfl) (fun _ => by kernel_rfl) (fun L3 => trivial) (fun L3 => ?_)
  refine aw_block ?_
  refine aw_rounds 1 ?_
  refine aw_round ?_
  refine aw_seq ?_
  refine aw_sr [⟨.pure, [], none, true⟩, ⟨.pure, [], none, true⟩, ⟨.pure, [1], none, true⟩, ⟨.pure, [0, 1, 2], none, true⟩]
    (fun L4 => ⟨[some (.slice (q) (0) (c)), aI r, aI s, aU, aU, aU, some (.slice none 0 0), aI 0, aI 0, aU, aU, some (.slice (q) (0) (c)), aI 0, aF, aI 0, some (.slice (q) (0) (c)), aI 0, aF, aU, aU, aU, aU, aU, aU, aU, aU, aU, aU, aU, aU, aU, aU, aU, aU, aU, aU, aU, aU, aU, aU, aU, aU, aU, aU, aU, aU, aU, aU, aU, aU, aU, aU, aU, aU, aU, aU, aU], [], []⟩)
    (fun L4 => [])
    fol (by kernel_rfl) (fun _ => by kernel_rfl) (fun L4 => trivial) (fun L4 => ?_)
  refine aw_false (false) rfl rfl ?_
  refine aw_exit ?_
  refine ex_thn ?_
  refine ex_thn ?_
  refine ex_hit ?_
  refine nrm_thn ?_
  refine aw_seq ?_
  refine aw_sr [⟨.pure, [], none, true⟩, ⟨(.call [] (.int .i64 (Sb.unl (Sb.inB (r) (1) (1000000)) 2))), [0], none, true⟩, ⟨.pure, [0, 1], none, true⟩, ⟨.pure, [0, 1, 2], none, true⟩, ⟨.pure, [0, 1, 2, 3], none, true⟩, ⟨(.call [] (.bool (Sb.inB (s) (0) (1000)))), [0, 1, 2, 3, 4], none, true⟩, ⟨.pure, [0, 1, 2, 3, 4, 5], none, true⟩, ⟨.pure, [0, 1, 2, 3, 4, 5, 6], some (.bool (!(Sb.inB (s) (0) (1000)))), true⟩]
    (fun L5 => ⟨[some (.slice (q) (0) (c)), aI r, aI s, aU, aU, aU, some (.slice none 0 0), aI 0, aI 0, aU, aU, some (.slice (q) (0) (c)), aI 0, aF, aI 0, some (.slice (q) (0) (c)), aI 0, aF, aU, aU, aU, aU, aU, aU, aU, aU, aI r, some (.int .i64 (Sb.unl (Sb.inB (r) (1) (1000000)) 2)), some (.bool ((Sb.unl (Sb.inB (r) (1) (1000000)) 2) != (0))), some (.bool ((Sb.unl (Sb.inB (r) (1) (1000000)) 2) != (0))), aI s, some (.bool (Sb.inB (s) (0) (1000))), some (.bool (!(Sb.inB (s) (0) (1000)))), some (.bool (!(Sb.inB (s) (0) (1000)))), aU, aU, aU, aU, aU, aU, aU, aU, aU, aU, aU, aU, aU, aU, aU, aU, aU, aU, aU, aU, aU, aU, aU], [], []⟩)
    (fun L5 => [CallOb Try.prog 31 #[aN r] [] (.int .i64 (Sb.unl (Sb.inB (r) (1) (1000000)) 2)), ((Sb.unl (Sb.inB (r) (1) (1000000)) 2) != (0)) = false, ((Sb.unl (Sb.inB (r) (1) (1000000)) 2) != (0)) = false, CallOb Try.prog 30 #[aN s, aN 0, aN 1000] [] (.bool (Sb.inB (s) (0) (1000))), ((Sb.unl (Sb.inB (r) (1) (1000000)) 2) != (0)) = false, (if ((Sb.unl (Sb.inB (r) (1) (1000000)) 2) != (0)) = true then (.bool (true) : Value) else .bool (!(Sb.inB (s) (0) (1000)))) = .bool (!(Sb.inB (s) (0) (1000)))])
    fol (by kernel_rfl) (fun _ => by kernel_rfl) (fun L5 => ⟨(Un.echo_r _), hr, hr, (Sb.withinR _ _ _), hr, (by rw [hr]; rfl), trivial⟩) (fun L5 => ?_)
  refine aw_true (!(Sb.inB (s) (0) (1000))) rfl (by rw [hs]; rfl) ?_
  refine aw_sr [⟨.pure, [], none, true⟩, ⟨.pure, [0], none, true⟩]
    (fun L6 => ⟨[some (.slice (q) (0) (c)), aI r, aI s, aU, aU, aU, some (.slice none 0 0), aI 2, aI 0, aU, aU, some (.slice (q) (0) (c)), aI 0, aF, aI 0, some (.slice (q) (0) (c)), aI 0, aF, aU, aU, aU, aU, aU, aU, aU, aU, aI r, some (.int .i64 (Sb.unl (Sb.inB (r) (1) (1000000)) 2)), some (.bool ((Sb.unl (Sb.inB (r) (1) (1000000)) 2) != (0))), some (.bool ((Sb.unl (Sb.inB (r) (1) (1000000)) 2) != (0))), aI s, some (.bool (Sb.inB (s) (0) (1000))), some (.bool (!(Sb.inB (s) (0) (1000)))), some (.bool (!(Sb.inB (s) (0) (1000)))), aU, aU, aU, aU, aU, aU, aU, aU, aU, aU, aU, aU, aU, aU, aU, aU, aU, aU, aU, aU, aU, aU, aU], [], []⟩)
    (fun L6 => [])
    fol (by kernel_rfl) (fun _ => by kernel_rfl) (fun L6 => trivial) (fun L6 => ?_)
  refine aw_ret ?_
  refine ret_thn ?_
  refine fin_ret none [0, 0] (.tuple #[.slice none 0 0, aN 2]) [] (.inr rfl) rfl (by kernel_rfl) trivial (fun w' hb => ?_)
  exact ⟨rfl, hb⟩

set_option maxRecDepth 100000 in
set_option maxHeartbeats 400000 in
theorem Un.ref8 (q : Option Addr) (c : Nat) (r s : Int) (hr : ((Sb.unl (Sb.inB (r) (1) (1000000)) 2) != (0)) = false) (hs : Sb.inB (s) (0) (1000) = true) : CallOb Try.prog 10 #[.slice (q) (0) (c), aN r, aN s] [] (.tuple #[.slice none 0 0, aN 0]) := by
  intro w hw
  refine calls_aw [some (.slice (q) (0) (c)), aI r, aI s, aU, aU, aU, aU, aU, aU, aU, aU, aU, aU, aU, aU, aU, aU, aU, aU, aU, aU, aU, aU, aU, aU, aU, aU, aU, aU, aU, aU, aU, aU, aU, aU, aU, aU, aU, aU, aU, aU, aU, aU, aU, aU, aU, aU, aU, aU, aU, aU, aU, aU, aU, aU, aU, aU] [] Try.func10 rfl (by kernel_rfl) (fun e x h => by cases h) ?_
  refine aw_sr [⟨.pure, [], none, true⟩, ⟨.pure, [0], none, true⟩]
    (fun L1 => ⟨[some (.slice (q) (0) (c)), aI r, aI s, aU, aU, aU, some (.slice none 0 0), aI 0, aU, aU, aU, aU, aU, aU, aU, aU, aU, aU, aU, aU, aU, aU, aU, aU, aU, aU, aU, aU, aU, aU, aU, aU, aU, aU, aU, aU, aU, aU, aU, aU, aU, aU, aU, aU, aU, aU, aU, aU, aU, aU, aU, aU, aU, aU, aU, aU, aU], [], []⟩)
    (fun L1 => [])
    fol (by kernel_rfl) (fun _ => by kernel_rfl) (fun L1 => trivial) (fun L1 => ?_)
  refine aw_seq ?_
  refine aw_sr [⟨.pure, [], none, true⟩, ⟨.pure, [0], none, true⟩, ⟨.pure, [0, 1], none, true⟩]
    (fun L2 => ⟨[some (.slice (q) (0) (c)), aI r, aI s, aU, aU, aU, some (.slice none 0 0), aI 0, aU, aU, aU, some (.slice (q) (0) (c)), aI 0, aF, aU, aU, aU, aU, aU, aU, aU, aU, aU, aU, aU, aU, aU, aU, aU, aU, aU, aU, aU, aU, aU, aU, aU, aU, aU, aU, aU, aU, aU, aU, aU, aU, aU, aU, aU, aU, aU, aU, aU, aU, aU, aU, aU], [], []⟩)
    (fun L2 => [])
    fol (by kernel_rfl) (fun _ => by kernel_rfl) (fun L2 => trivial) (fun L2 => ?_)
  refine aw_false (false) rfl rfl ?_
  refine aw_skip ?_
  refine nrm_thn ?_
  refine aw_seq ?_
  refine aw_sr [⟨.pure, [], none, true⟩]
    (fun L3 => ⟨[some (.slice (q) (0) (c)), aI r, aI s, aU, aU, aU, some (.slice none 0 0), aI 0, aI 0, aU, aU, some (.slice (q) (0) (c)), aI 0, aF, aU, aU, aU, aU, aU, aU, aU, aU, aU, aU, aU, aU, aU, aU, aU, aU, aU, aU, aU, aU, aU, aU, aU, aU, aU, aU, aU, aU, aU, aU, aU, aU, aU, aU, aU, aU, aU, aU, aU, aU, aU, aU, aU], [], []⟩)
    (fun L3 => [])
    fol (by kernel_rfl) (fun _ => by kernel_rfl) (fun L3 => trivial) (fun L3 => ?_)
  refine aw_block ?_
  refine aw_rounds 1 ?_
  refine aw_round ?_
  refine aw_seq ?_
  refine aw_sr [⟨.pure, [], none, true⟩, ⟨.pure, [], none, true⟩, ⟨.pure, [1], none, true⟩, ⟨.pure, [0, 1, 2], none, true⟩]
    (fun L4 => ⟨[some (.slice (q) (0) (c)), aI r, aI s, aU, aU, aU, some (.slice none 0 0), aI 0, aI 0, aU, aU, some (.slice (q) (0) (c)), aI 0, aF, aI 0, some (.slice (q) (0) (c)), aI 0, aF, aU, aU, aU, aU, aU, aU, aU, aU, aU, aU, aU, aU, aU, aU, aU, aU, aU, aU, aU, aU, aU, aU, aU, aU, aU, aU, aU, aU, aU, aU, aU, aU, aU, aU, aU, aU, aU, aU, aU], [], []⟩)
    (fun L4 => [])
    fol (by kernel_rfl) (fun _ => by kernel_rfl) (fun L4 => trivial) (fun L4 => ?_)
  refine aw_false (false) rfl rfl ?_
  refine aw_exit ?_
  refine ex_thn ?_
  refine ex_thn ?_
  refine ex_hit ?_
  refine nrm_thn ?_
  refine aw_seq ?_
  refine aw_sr [⟨.pure, [], none, true⟩, ⟨(.call [] (.int .i64 (Sb.unl (Sb.inB (r) (1) (1000000)) 2))), [0], none, true⟩, ⟨.pure, [0, 1], none, true⟩, ⟨.pure, [0, 1, 2], none, true⟩, ⟨.pure, [0, 1, 2, 3], none, true⟩, ⟨(.call [] (.bool (Sb.inB (s) (0) (1000)))), [0, 1, 2, 3, 4], none, true⟩, ⟨.pure, [0, 1, 2, 3, 4, 5], none, true⟩, ⟨.pure, [0, 1, 2, 3, 4, 5, 6], some (.bool (!(Sb.inB (s) (0) (1000)))), true⟩]
    (fun L5 => ⟨[some (.slice (q) (0) (c)), aI r, aI s, aU, aU, aU, some (.slice none 0 0), aI 0, aI 0, aU, aU, some (.slice (q) (0) (c)), aI 0, aF, aI 0, some (.slice (q) (0) (c)), aI 0, aF, aU, aU, aU, aU, aU, aU, aU, aU, aI r, some (.int .i64 (Sb.unl (Sb.inB (r) (1) (1000000)) 2)), some (.bool ((Sb.unl (Sb.inB (r) (1) (1000000)) 2) != (0))), some (.bool ((Sb.unl (Sb.inB (r) (1) (1000000)) 2) != (0))), aI s, some (.bool (Sb.inB (s) (0) (1000))), some (.bool (!(Sb.inB (s) (0) (1000)))), some (.bool (!(Sb.inB (s) (0) (1000)))), aU, aU, aU, aU, aU, aU, aU, aU, aU, aU, aU, aU, aU, aU, aU, aU, aU, aU, aU, aU, aU, aU, aU], [], []⟩)
    (fun L5 => [CallOb Try.prog 31 #[aN r] [] (.int .i64 (Sb.unl (Sb.inB (r) (1) (1000000)) 2)), ((Sb.unl (Sb.inB (r) (1) (1000000)) 2) != (0)) = false, ((Sb.unl (Sb.inB (r) (1) (1000000)) 2) != (0)) = false, CallOb Try.prog 30 #[aN s, aN 0, aN 1000] [] (.bool (Sb.inB (s) (0) (1000))), ((Sb.unl (Sb.inB (r) (1) (1000000)) 2) != (0)) = false, (if ((Sb.unl (Sb.inB (r) (1) (1000000)) 2) != (0)) = true then (.bool (true) : Value) else .bool (!(Sb.inB (s) (0) (1000)))) = .bool (!(Sb.inB (s) (0) (1000)))])
    fol (by kernel_rfl) (fun _ => by kernel_rfl) (fun L5 => ⟨(Un.echo_r _), hr, hr, (Sb.withinR _ _ _), hr, (by rw [hr]; rfl), trivial⟩) (fun L5 => ?_)
  refine aw_false (!(Sb.inB (s) (0) (1000))) rfl (by rw [hs]; rfl) ?_
  refine aw_skip ?_
  refine nrm_thn ?_
  refine aw_sr [⟨.pure, [], none, true⟩]
    (fun L6 => ⟨[some (.slice (q) (0) (c)), aI r, aI s, aU, aU, aU, some (.slice none 0 0), aI 0, aI 0, some (.slice none 0 0), aU, some (.slice (q) (0) (c)), aI 0, aF, aI 0, some (.slice (q) (0) (c)), aI 0, aF, aU, aU, aU, aU, aU, aU, aU, aU, aI r, some (.int .i64 (Sb.unl (Sb.inB (r) (1) (1000000)) 2)), some (.bool ((Sb.unl (Sb.inB (r) (1) (1000000)) 2) != (0))), some (.bool ((Sb.unl (Sb.inB (r) (1) (1000000)) 2) != (0))), aI s, some (.bool (Sb.inB (s) (0) (1000))), some (.bool (!(Sb.inB (s) (0) (1000)))), some (.bool (!(Sb.inB (s) (0) (1000)))), aU, aU, aU, aU, aU, aU, aU, aU, aU, aU, aU, aU, aU, aU, aU, aU, aU, aU, aU, aU, aU, aU, aU], [], []⟩)
    (fun L6 => [])
    fol (by kernel_rfl) (fun _ => by kernel_rfl) (fun L6 => trivial) (fun L6 => ?_)
  refine aw_seq ?_
  refine aw_sr [⟨.pure, [], none, true⟩]
    (fun L7 => ⟨[some (.slice (q) (0) (c)), aI r, aI s, aU, aU, aU, some (.slice none 0 0), aI 0, aI 0, some (.slice none 0 0), aI 0, some (.slice (q) (0) (c)), aI 0, aF, aI 0, some (.slice (q) (0) (c)), aI 0, aF, aU, aU, aU, aU, aU, aU, aU, aU, aI r, some (.int .i64 (Sb.unl (Sb.inB (r) (1) (1000000)) 2)), some (.bool ((Sb.unl (Sb.inB (r) (1) (1000000)) 2) != (0))), some (.bool ((Sb.unl (Sb.inB (r) (1) (1000000)) 2) != (0))), aI s, some (.bool (Sb.inB (s) (0) (1000))), some (.bool (!(Sb.inB (s) (0) (1000)))), some (.bool (!(Sb.inB (s) (0) (1000)))), aU, aU, aU, aU, aU, aU, aU, aU, aU, aU, aU, aU, aU, aU, aU, aU, aU, aU, aU, aU, aU, aU, aU], [], []⟩)
    (fun L7 => [])
    fol (by kernel_rfl) (fun _ => by kernel_rfl) (fun L7 => trivial) (fun L7 => ?_)
  refine aw_block ?_
  refine aw_rounds 1 ?_
  refine aw_round ?_
  refine aw_seq ?_
  refine aw_sr [⟨.pure, [], none, true⟩, ⟨.pure, [], none, true⟩, ⟨.pure, [1], none, true⟩, ⟨.pure, [0, 1, 2], none, true⟩]
    (fun L8 => ⟨[some (.slice (q) (0) (c)), aI r, aI s, aU, aU, aU, some (.slice none 0 0), aI 0, aI 0, some (.slice none 0 0), aI 0, some (.slice (q) (0) (c)), aI 0, aF, aI 0, some (.slice (q) (0) (c)), aI 0, aF, aU, aU, aU, aU, aU, aU, aU, aU, aI r, some (.int .i64 (Sb.unl (Sb.inB (r) (1) (1000000)) 2)), some (.bool ((Sb.unl (Sb.inB (r) (1) (1000000)) 2) != (0))), some (.bool ((Sb.unl (Sb.inB (r) (1) (1000000)) 2) != (0))), aI s, some (.bool (Sb.inB (s) (0) (1000))), some (.bool (!(Sb.inB (s) (0) (1000)))), some (.bool (!(Sb.inB (s) (0) (1000)))), aI 0, some (.slice (q) (0) (c)), aI 0, aF, aU, aU, aU, aU, aU, aU, aU, aU, aU, aU, aU, aU, aU, aU, aU, aU, aU, aU, aU], [], []⟩)
    (fun L8 => [])
    fol (by kernel_rfl) (fun _ => by kernel_rfl) (fun L8 => trivial) (fun L8 => ?_)
  refine aw_false (false) rfl rfl ?_
  refine aw_exit ?_
  refine ex_thn ?_
  refine ex_thn ?_
  refine ex_hit ?_
  refine nrm_thn ?_
  refine aw_sr [⟨.pure, [], none, true⟩, ⟨.pure, [0], none, true⟩, ⟨.pure, [0, 1], none, true⟩]
    (fun L9 => ⟨[some (.slice (q) (0) (c)), aI r, aI s, aU, aU, aU, some (.slice none 0 0), aI 0, aI 0, some (.slice none 0 0), aI 0, some (.slice (q) (0) (c)), aI 0, aF, aI 0, some (.slice (q) (0) (c)), aI 0, aF, aU, aU, aU, aU, aU, aU, aU, aU, aI r, some (.int .i64 (Sb.unl (Sb.inB (r) (1) (1000000)) 2)), some (.bool ((Sb.unl (Sb.inB (r) (1) (1000000)) 2) != (0))), some (.bool ((Sb.unl (Sb.inB (r) (1) (1000000)) 2) != (0))), aI s, some (.bool (Sb.inB (s) (0) (1000))), some (.bool (!(Sb.inB (s) (0) (1000)))), some (.bool (!(Sb.inB (s) (0) (1000)))), aI 0, some (.slice (q) (0) (c)), aI 0, aF, aU, aU, aU, aU, aU, aU, aU, aU, aU, aU, aU, aU, aU, aU, aU, aU, aU, aU, some (.slice none 0 0)], [], []⟩)
    (fun L9 => [])
    fol (by kernel_rfl) (fun _ => by kernel_rfl) (fun L9 => trivial) (fun L9 => ?_)
  refine aw_ret ?_
  refine fin_ret none [0, 0] (.tuple #[.slice none 0 0, aN 0]) [] (.inr rfl) rfl (by kernel_rfl) trivial (fun w' hb => ?_)
  exact ⟨rfl, hb⟩

set_option maxRecDepth 100000 in
set_option maxHeartbeats 400000 in
theorem Un.law1 (b o cap : Nat) (u : List Int) (r s : Int) (hl : decide ((((u.length : Nat) : Int)) > 20) = true) : CallOb Try.prog 4 #[.slice (some ⟨b, o, none⟩) (u.length) (cap), aN r, aN s] [.vue (b) (o) (iv (u))] (.bool (true)) := by
  intro w hw
  refine calls_aw [some (.slice (some ⟨b, o, none⟩) (u.length) (cap)), aI r, aI s, aU, aU, aU, aU, aU, aU, aU, aU, aU, aU, aU, aU, aU, aU, aU, aU, aU, aU, aU, aU, aU, aU, aU, aU, aU, aU, aU, aU, aU, aU, aU, aU, aU, aU, aU, aU] [.vue (b) (o) (iv (u))] Try.func4 rfl (by kernel_rfl) (esOk hw (by simp [Cel.mine])) ?_
  refine aw_sr [⟨.pure, [], none, true⟩]
    (fun L1 => ⟨[some (.slice (some ⟨b, o, none⟩) (u.length) (cap)), aI r, aI s, aU, aU, aU, aF, aU, aU, aU, aU, aU, aU, aU, aU, aU, aU, aU, aU, aU, aU, aU, aU, aU, aU, aU, aU, aU, aU, aU, aU, aU, aU, aU, aU, aU, aU, aU, aU], [.vue (b) (o) (iv (u))], []⟩)
    (fun L1 => [])
    fol (by kernel_rfl) (fun _ => by kernel_rfl) (fun L1 => trivial) (fun L1 => ?_)
  refine aw_seq ?_
  refine aw_sr [⟨(.call [] (.bool (true))), [], none, true⟩, ⟨.pure, [0], none, true⟩]
    (fun L2 => ⟨[some (.slice (some ⟨b, o, none⟩) (u.length) (cap)), aI r, aI s, aU, aU, aU, aF, aU, aU, aU, aU, aT, aF, aU, aU, aU, aU, aU, aU, aU, aU, aU, aU, aU, aU, aU, aU, aU, aU, aU, aU, aU, aU, aU, aU, aU, aU, aU, aU], [.vue (b) (o) (iv (u))], []⟩)
    (fun L2 => [CallOb Try.prog 5 #[] [] (.bool (true))])
    fol (by kernel_rfl) (fun _ => by kernel_rfl) (fun L2 => ⟨(UA.awake), trivial⟩) (fun L2 => ?_)
  refine aw_false (false) rfl rfl ?_
  refine aw_skip ?_
  refine nrm_thn ?_
  refine aw_seq ?_
  refine aw_sr [⟨.pure, [], none, true⟩, ⟨.pure, [0], none, true⟩, ⟨.pure, [0, 1], none, true⟩]
    (fun L3 => ⟨[some (.slice (some ⟨b, o, none⟩) (u.length) (cap)), aI r, aI s, aU, aU, aU, aF, aU, aU, aU, aU, aT, aF, some (.slice (some ⟨b, o, none⟩) (u.length) (cap)), some (.int .i64 (((u.length : Nat) : Int))), some (.bool (decide ((((u.length : Nat) : Int)) > 20))), aU, aU, aU, aU, aU, aU, aU, aU, aU, aU, aU, aU, aU, aU, aU, aU, aU, aU, aU, aU, aU, aU, aU], [.vue (b) (o) (iv (u))], []⟩)
    (fun L3 => [])
    fol (by kernel_rfl) (fun _ => by kernel_rfl) (fun L3 => trivial) (fun L3 => ?_)
  refine aw_true (decide ((((u.length : Nat) : Int)) > 20)) rfl hl ?_
  refine aw_sr [⟨.pure, [], none, true⟩]
    (fun L4 => ⟨[some (.slice (some ⟨b, o, none⟩) (u.length) (cap)), aI r, aI s, aU, aU, aU, aT, aU, aU, aU, aU, aT, aF, some (.slice (some ⟨b, o, none⟩) (u.length) (cap)), some (.int .i64 (((u.length : Nat) : Int))), some (.bool (decide ((((u.length : Nat) : Int)) > 20))), aU, aU, aU, aU, aU, aU, aU, aU, aU, aU, aU, aU, aU, aU, aU, aU, aU, aU, aU, aU, aU, aU, aU], [.vue (b) (o) (iv (u))], []⟩)
    (fun L4 => [])
    fol (by kernel_rfl) (fun _ => by kernel_rfl) (fun L4 => trivial) (fun L4 => ?_)
  refine aw_ret ?_
  refine ret_thn ?_
  refine fin_ret none [0] (.bool (true)) [] (.inr rfl) rfl (by kernel_rfl) trivial (fun w' hb => ?_)
  exact ⟨rfl, hb⟩

set_option maxRecDepth 100000 in
set_option maxHeartbeats 400000 in
theorem Un.law2 (b o cap : Nat) (u : List Int) (r s : Int) (h0 : 0 < u.length) (hl : decide ((((u.length : Nat) : Int)) > 20) = false) (hl2 : u.length ≤ 20) (e : Int) (hs : IntKind.i64.wrap e = e) (H1 : ∀ (a : Option Addr) (c : Nat), CallOb Try.prog 8 #[.slice a u.length c, .int .i64 r, .int .i64 s] [.row a u.length c 1 (iv u) 3 true] (.tuple #[.slice none 0 0, aN e])) (H2 : CallOb Try.prog 10 #[.slice (some ⟨b, o, none⟩) (u.length) (cap), .int .i64 r, .int .i64 s] [.vue (b) (o) (iv (u))] (.tuple #[.slice none 0 0, aN e])) : CallOb Try.prog 4 #[.slice (some ⟨b, o, none⟩) (u.length) (cap), aN r, aN s] [.vue (b) (o) (iv (u))] (.bool (true)) := by
  intro w hw
  refine calls_aw [some (.slice (some ⟨b, o, none⟩) (u.length) (cap)), aI r, aI s, aU, aU, aU, aU, aU, aU, aU, aU, aU, aU, aU, aU, aU, aU, aU, aU, aU, aU, aU, aU, aU, aU, aU, aU, aU, aU, aU, aU, aU, aU, aU, aU, aU, aU, aU, aU] [.vue (b) (o) (iv (u))] Try.func4 rfl (by kernel_rfl) (esOk hw (by simp [Cel.mine])) ?_
  refine aw_sr [⟨.pure, [], none, true⟩]
    (fun L1 => ⟨[some (.slice (some ⟨b, o, none⟩) (u.length) (cap)), aI r, aI s, aU, aU, aU, aF, aU, aU, aU, aU, aU, aU, aU, aU, aU, aU, aU, aU, aU, aU, aU, aU, aU, aU, aU, aU, aU, aU, aU, aU, aU, aU, aU, aU, aU, aU, aU, aU], [.vue (b) (o) (iv (u))], []⟩)
    (fun L1 => [])
    fol (by kernel_rfl) (fun _ => by kernel_rfl) (fun L1 => trivial) (fun L1 => ?_)
  refine aw_seq ?_
  refine aw_sr [⟨(.call [] (.bool (true))), [], none, true⟩, ⟨.pure, [0], none, true⟩]
    (fun L2 => ⟨[some (.slice (some ⟨b, o, none⟩) (u.length) (cap)), aI r, aI s, aU, aU, aU, aF, aU, aU, aU, aU, aT, aF, aU, aU, aU, aU, aU, aU, aU, aU, aU, aU, aU, aU, aU, aU, aU, aU, aU, aU, aU, aU, aU, aU, aU, aU, aU, aU], [.vue (b) (o) (iv (u))], []⟩)
    (fun L2 => [CallOb Try.prog 5 #[] [] (.bool (true))])
    fol (by kernel_rfl) (fun _ => by kernel_rfl) (fun L2 => ⟨(UA.awake), trivial⟩) (fun L2 => ?_)
  refine aw_false (false) rfl rfl ?_
  refine aw_skip ?_
  refine nrm_thn ?_
  refine aw_seq ?_
  refine aw_sr [⟨.pure, [], none, true⟩, ⟨.pure, [0], none, true⟩, ⟨.pure, [0, 1], none, true⟩]
    (fun L3 => ⟨[some (.slice (some ⟨b, o, none⟩) (u.length) (cap)), aI r, aI s, aU, aU, aU, aF, aU, aU, aU, aU, aT, aF, some (.slice (some ⟨b, o, none⟩) (u.length) (cap)), some (.int .i64 (((u.length : Nat) : Int))), some (.bool (decide ((((u.length : Nat) : Int)) > 20))), aU, aU, aU, aU, aU, aU, aU, aU, aU, aU, aU, aU, aU, aU, aU, aU, aU, aU, aU, aU, aU, aU, aU], [.vue (b) (o) (iv (u))], []⟩)
    (fun L3 => [])
    fol (by kernel_rfl) (fun _ => by kernel_rfl) (fun L3 => trivial) (fun L3 => ?_)
  refine aw_false (decide ((((u.length : Nat) : Int)) > 20)) rfl hl ?_
  refine aw_skip ?_
  refine nrm_thn ?_
  refine aw_sr [⟨.pure, [], none, true⟩, ⟨(.callN [0] (fun l => .slice (l.a) (u.length) (l.n)) (fun l => .row (l.a) (u.length) (l.n) 1 (iv u) 3 true)), [0], none, true⟩, ⟨.pure, [], none, true⟩, ⟨.pure, [], none, true⟩, ⟨(.call [2] (.tuple #[.slice none 0 0, aN e])), [0, 1, 2, 3], none, true⟩, ⟨.pure, [0, 1, 2, 3, 4], none, true⟩, ⟨.pure, [0, 1, 2, 3, 4, 5], none, true⟩, ⟨.pure, [0, 1, 2, 3, 4, 5], none, true⟩, ⟨.pure, [0, 1, 2, 3, 4, 5, 6], none, true⟩, ⟨.pure, [0, 1, 2, 3, 4, 5, 6, 7, 8], none, true⟩]
    (fun L4 => ⟨[some (.slice (some ⟨b, o, none⟩) (u.length) (cap)), aI r, aI s, aU, aU, aU, aF, some (.slice none 0 0), aI e, aU, aU, aT, aF, some (.slice (some ⟨b, o, none⟩) (u.length) (cap)), some (.int .i64 (((u.length : Nat) : Int))), some (.bool (decide ((((u.length : Nat) : Int)) > 20))), some (.tuple #[.slice none 0 0, aN e]), some (.slice (some ⟨b, o, none⟩) (u.length) (cap)), some (.slice ((L4 1).a) (u.length) ((L4 1).n)), aI r, aI s, some (.tuple #[.slice none 0 0, aN e]), some (.slice none 0 0), aI e, aU, aU, aU, aU, aU, aU, aU, aU, aU, aU, aU, aU, aU, aU, aU], [.vue (b) (o) (iv (u)), .row ((L4 1).a) (u.length) ((L4 1).n) 1 (iv u) 3 true], []⟩)
    (fun L4 => [CallN Try.prog 9 #[.slice (some ⟨b, o, none⟩) (u.length) (cap)] [.vue (b) (o) (iv (u))] (fun l => .slice (l.a) (u.length) (l.n)) (fun l => .row (l.a) (u.length) (l.n) 1 (iv u) 3 true), CallOb Try.prog 8 #[.slice ((L4 1).a) (u.length) ((L4 1).n), aN r, aN s] [.row ((L4 1).a) (u.length) ((L4 1).n) 1 (iv u) 3 true] (.tuple #[.slice none 0 0, aN e])])
    fol (by kernel_rfl) (fun _ => by kernel_rfl) (fun L4 => ⟨(Un.copy _ _ _ u h0 (by omega)), (H1 _ _), trivial⟩) (fun L4 => ?_)
  refine aw_sr [⟨.pure, [], none, true⟩, ⟨.pure, [], none, true⟩, ⟨.pure, [], none, true⟩, ⟨(.call [0] (.tuple #[.slice none 0 0, aN e])), [0, 1, 2], none, true⟩, ⟨.pure, [0, 1, 2, 3], none, true⟩, ⟨.pure, [0, 1, 2, 3, 4], none, true⟩, ⟨.pure, [0, 1, 2, 3, 4], none, true⟩, ⟨.pure, [0, 1, 2, 3, 4, 5], none, true⟩, ⟨.pure, [0, 1, 2, 3, 4, 5, 6, 7], none, true⟩]
    (fun L5 => ⟨[some (.slice (some ⟨b, o, none⟩) (u.length) (cap)), aI r, aI s, aU, aU, aU, aF, some (.slice none 0 0), aI e, some (.slice none 0 0), aI e, aT, aF, some (.slice (some ⟨b, o, none⟩) (u.length) (cap)), some (.int .i64 (((u.length : Nat) : Int))), some (.bool (decide ((((u.length : Nat) : Int)) > 20))), some (.tuple #[.slice none 0 0, aN e]), some (.slice (some ⟨b, o, none⟩) (u.length) (cap)), some (.slice ((L4 1).a) (u.length) ((L4 1).n)), aI r, aI s, some (.tuple #[.slice none 0 0, aN e]), some (.slice none 0 0), aI e, some (.tuple #[.slice none 0 0, aN e]), some (.slice (some ⟨b, o, none⟩) (u.length) (cap)), aI r, aI s, some (.tuple #[.slice none 0 0, aN e]), some (.slice none 0 0), aI e, aU, aU, aU, aU, aU, aU, aU, aU], [.vue (b) (o) (iv (u)), .row ((L4 1).a) (u.length) ((L4 1).n) 1 (iv u) 3 true], []⟩)
    (fun L5 => [CallOb Try.prog 10 #[.slice (some ⟨b, o, none⟩) (u.length) (cap), aN r, aN s] [.vue (b) (o) (iv (u))] (.tuple #[.slice none 0 0, aN e])])
    fol (by kernel_rfl) (fun _ => by kernel_rfl) (fun L5 => ⟨(H2), trivial⟩) (fun L5 => ?_)
  refine aw_sr [⟨.pure, [], none, true⟩, ⟨.pure, [], none, true⟩, ⟨.pure, [0, 1], none, true⟩, ⟨.pure, [0, 1, 2], none, true⟩, ⟨.pure, [0, 1, 2, 3], none, true⟩, ⟨.pure, [0, 1, 2, 3], none, true⟩, ⟨(.call [] (.bool (true))), [0, 1, 2, 3, 4, 5], none, true⟩, ⟨.pure, [0, 1, 2, 3, 4, 5, 6], aT, true⟩, ⟨.pure, [0, 1, 2, 3, 4, 5, 6, 7], none, true⟩]
    (fun L6 => ⟨[some (.slice (some ⟨b, o, none⟩) (u.length) (cap)), aI r, aI s, aU, aU, aU, aT, some (.slice none 0 0), aI e, some (.slice none 0 0), aI e, aT, aF, some (.slice (some ⟨b, o, none⟩) (u.length) (cap)), some (.int .i64 (((u.length : Nat) : Int))), some (.bool (decide ((((u.length : Nat) : Int)) > 20))), some (.tuple #[.slice none 0 0, aN e]), some (.slice (some ⟨b, o, none⟩) (u.length) (cap)), some (.slice ((L4 1).a) (u.length) ((L4 1).n)), aI r, aI s, some (.tuple #[.slice none 0 0, aN e]), some (.slice none 0 0), aI e, some (.tuple #[.slice none 0 0, aN e]), some (.slice (some ⟨b, o, none⟩) (u.length) (cap)), aI r, aI s, some (.tuple #[.slice none 0 0, aN e]), some (.slice none 0 0), aI e, aI e, aI e, some (.bool ((e) == (e))), some (.bool ((e) == (e))), some (.slice none 0 0), some (.slice none 0 0), aT, aT], [.vue (b) (o) (iv (u)), .row ((L4 1).a) (u.length) ((L4 1).n) 1 (iv u) 3 true], []⟩)
    (fun L6 => [((e) == (e)) = true, ((e) == (e)) = true, ((e) == (e)) = true, CallOb Try.prog 11 #[.slice none 0 0, .slice none 0 0] [] (.bool (true)), (if ((e) == (e)) = true then (.bool (true) : Value) else .bool (false)) = .bool (true)])
    fol (by kernel_rfl) (fun _ => by kernel_rfl) (fun L6 => ⟨(beq_self_eq_true _), (beq_self_eq_true _), (beq_self_eq_true _), (Un.ints0 none none 0 0), (by rw [(beq_self_eq_true _)]; rfl), trivial⟩) (fun L6 => ?_)
  refine aw_ret ?_
  refine fin_ret none [0] (.bool (true)) [] (.inr rfl) rfl (by kernel_rfl) trivial (fun w' hb => ?_)
  exact ⟨by first | rfl | simp, hb⟩

set_option maxRecDepth 100000 in
set_option maxHeartbeats 400000 in
theorem Un.law3 (b o cap : Nat) (u : List Int) (r s : Int) (h0 : 0 < u.length) (hl : decide ((((u.length : Nat) : Int)) > 20) = false) (hl2 : u.length ≤ 20) (f : List Int) (hf : f.length ≤ 1000000) (H1 : ∀ (a : Option Addr) (c : Nat), CallN Try.prog 8 #[.slice a u.length c, .int .i64 r, .int .i64 s] [.row a u.length c 1 (iv u) 3 true] (fun l => .tuple #[.slice (l.a) ((f).length) (l.n), aN 0]) (fun l => .row (l.a) ((f).length) (l.n) 1 (iv (f)) 3 true)) (H2 : CallN Try.prog 10 #[.slice (some ⟨b, o, none⟩) (u.length) (cap), .int .i64 r, .int .i64 s] [.vue (b) (o) (iv (u))] (fun l => .tuple #[.slice (l.a) ((f).length) (l.n), aN 0]) (fun l => .row (l.a) ((f).length) (l.n) 1 (iv (f)) 3 true)) : CallOb Try.prog 4 #[.slice (some ⟨b, o, none⟩) (u.length) (cap), aN r, aN s] [.vue (b) (o) (iv (u))] (.bool (true)) := by
  intro w hw
  refine calls_aw [some (.slice (some ⟨b, o, none⟩) (u.length) (cap)), aI r, aI s, aU, aU, aU, aU, aU, aU, aU, aU, aU, aU, aU, aU, aU, aU, aU, aU, aU, aU, aU, aU, aU, aU, aU, aU, aU, aU, aU, aU, aU, aU, aU, aU, aU, aU, aU, aU] [.vue (b) (o) (iv (u))] Try.func4 rfl (by kernel_rfl) (esOk hw (by simp [Cel.mine])) ?_
  refine aw_sr [⟨.pure, [], none, true⟩]
    (fun L1 => ⟨[some (.slice (some ⟨b, o, none⟩) (u.length) (cap)), aI r, aI s, aU, aU, aU, aF, aU, aU, aU, aU, aU, aU, aU, aU, aU, aU, aU, aU, aU, aU, aU, aU, aU, aU, aU, aU, aU, aU, aU, aU, aU, aU, aU, aU, aU, aU, aU, aU], [.vue (b) (o) (iv (u))], []⟩)
    (fun L1 => [])
    fol (by kernel_rfl) (fun _ => by kernel_rfl) (fun L1 => trivial) (fun L1 => ?_)
  refine aw_seq ?_
  refine aw_sr [⟨(.call [] (.bool (true))), [], none, true⟩, ⟨.pure, [0], none, true⟩]
    (fun L2 => ⟨[some (.slice (some ⟨b, o, none⟩) (u.length) (cap)), aI r, aI s, aU, aU, aU, aF, aU, aU, aU, aU, aT, aF, aU, aU, aU, aU, aU, aU, aU, aU, aU, aU, aU, aU, aU, aU, aU, aU, aU, aU, aU, aU, aU, aU, aU, aU, aU, aU], [.vue (b) (o) (iv (u))], []⟩)
    (fun L2 => [CallOb Try.prog 5 #[] [] (.bool (true))])
    fol (by kernel_rfl) (fun _ => by kernel_rfl) (fun L2 => ⟨(UA.awake), trivial⟩) (fun L2 => ?_)
  refine aw_false (false) rfl rfl ?_
  refine aw_skip ?_
  refine nrm_thn ?_
  refine aw_seq ?_
  refine aw_sr [⟨.pure, [], none, true⟩, ⟨.pure, [0], none, true⟩, ⟨.pure, [0, 1], none, true⟩]
    (fun L3 => ⟨[some (.slice (some ⟨b, o, none⟩) (u.length) (cap)), aI r, aI s, aU, aU, aU, aF, aU, aU, aU, aU, aT, aF, some (.slice (some ⟨b, o, none⟩) (u.length) (cap)), some (.int .i64 (((u.length : Nat) : Int))), some (.bool (decide ((((u.length : Nat) : Int)) > 20))), aU, aU, aU, aU, aU, aU, aU, aU, aU, aU, aU, aU, aU, aU, aU, aU, aU, aU, aU, aU, aU, aU, aU], [.vue (b) (o) (iv (u))], []⟩)
    (fun L3 => [])
    fol (by kernel_rfl) (fun _ => by kernel_rfl) (fun L3 => trivial) (fun L3 => ?_)
  refine aw_false (decide ((((u.length : Nat) : Int)) > 20)) rfl hl ?_
  refine aw_skip ?_
  refine nrm_thn ?_
  refine aw_sr [⟨.pure, [], none, true⟩, ⟨(.callN [0] (fun l => .slice (l.a) (u.length) (l.n)) (fun l => .row (l.a) (u.length) (l.n) 1 (iv u) 3 true)), [0], none, true⟩, ⟨.pure, [], none, true⟩, ⟨.pure, [], none, true⟩, ⟨(.callN [2] (fun l => .tuple #[.slice (l.a) ((f).length) (l.n), aN 0]) (fun l => .row (l.a) ((f).length) (l.n) 1 (iv (f)) 3 true)), [0, 1, 2, 3], none, true⟩, ⟨.pure, [0, 1, 2, 3, 4], none, true⟩, ⟨.pure, [0, 1, 2, 3, 4, 5], none, true⟩, ⟨.pure, [0, 1, 2, 3, 4, 5], none, true⟩, ⟨.pure, [0, 1, 2, 3, 4, 5, 6], none, true⟩, ⟨.pure, [0, 1, 2, 3, 4, 5, 6, 7, 8], none, true⟩]
    (fun L4 => ⟨[some (.slice (some ⟨b, o, none⟩) (u.length) (cap)), aI r, aI s, aU, aU, aU, aF, some (.slice ((L4 4).a) ((f).length) ((L4 4).n)), aI 0, aU, aU, aT, aF, some (.slice (some ⟨b, o, none⟩) (u.length) (cap)), some (.int .i64 (((u.length : Nat) : Int))), some (.bool (decide ((((u.length : Nat) : Int)) > 20))), some (.tuple #[.slice ((L4 4).a) ((f).length) ((L4 4).n), aN 0]), some (.slice (some ⟨b, o, none⟩) (u.length) (cap)), some (.slice ((L4 1).a) (u.length) ((L4 1).n)), aI r, aI s, some (.tuple #[.slice ((L4 4).a) ((f).length) ((L4 4).n), aN 0]), some (.slice ((L4 4).a) ((f).length) ((L4 4).n)), aI 0, aU, aU, aU, aU, aU, aU, aU, aU, aU, aU, aU, aU, aU, aU, aU], [.vue (b) (o) (iv (u)), .row ((L4 1).a) (u.length) ((L4 1).n) 1 (iv u) 3 true, .row ((L4 4).a) ((f).length) ((L4 4).n) 1 (iv (f)) 3 true], []⟩)
    (fun L4 => [CallN Try.prog 9 #[.slice (some ⟨b, o, none⟩) (u.length) (cap)] [.vue (b) (o) (iv (u))] (fun l => .slice (l.a) (u.length) (l.n)) (fun l => .row (l.a) (u.length) (l.n) 1 (iv u) 3 true), CallN Try.prog 8 #[.slice ((L4 1).a) (u.length) ((L4 1).n), aN r, aN s] [.row ((L4 1).a) (u.length) ((L4 1).n) 1 (iv u) 3 true] (fun l => .tuple #[.slice (l.a) ((f).length) (l.n), aN 0]) (fun l => .row (l.a) ((f).length) (l.n) 1 (iv (f)) 3 true)])
    fol (by kernel_rfl) (fun _ => by kernel_rfl) (fun L4 => ⟨(Un.copy _ _ _ u h0 (by omega)), (H1 _ _), trivial⟩) (fun L4 => ?_)
  refine aw_sr [⟨.pure, [], none, true⟩, ⟨.pure, [], none, true⟩, ⟨.pure, [], none, true⟩, ⟨(.callN [0] (fun l => .tuple #[.slice (l.a) ((f).length) (l.n), aN 0]) (fun l => .row (l.a) ((f).length) (l.n) 1 (iv (f)) 3 true)), [0, 1, 2], none, true⟩, ⟨.pure, [0, 1, 2, 3], none, true⟩, ⟨.pure, [0, 1, 2, 3, 4], none, true⟩, ⟨.pure, [0, 1, 2, 3, 4], none, true⟩, ⟨.pure, [0, 1, 2, 3, 4, 5], none, true⟩, ⟨.pure, [0, 1, 2, 3, 4, 5, 6, 7], none, true⟩]
    (fun L5 => ⟨[some (.slice (some ⟨b, o, none⟩) (u.length) (cap)), aI r, aI s, aU, aU, aU, aF, some (.slice ((L4 4).a) ((f).length) ((L4 4).n)), aI 0, some (.slice ((L5 3).a) ((f).length) ((L5 3).n)), aI 0, aT, aF, some (.slice (some ⟨b, o, none⟩) (u.length) (cap)), some (.int .i64 (((u.length : Nat) : Int))), some (.bool (decide ((((u.length : Nat) : Int)) > 20))), some (.tuple #[.slice ((L4 4).a) ((f).length) ((L4 4).n), aN 0]), some (.slice (some ⟨b, o, none⟩) (u.length) (cap)), some (.slice ((L4 1).a) (u.length) ((L4 1).n)), aI r, aI s, some (.tuple #[.slice ((L4 4).a) ((f).length) ((L4 4).n), aN 0]), some (.slice ((L4 4).a) ((f).length) ((L4 4).n)), aI 0, some (.tuple #[.slice ((L5 3).a) ((f).length) ((L5 3).n), aN 0]), some (.slice (some ⟨b, o, none⟩) (u.length) (cap)), aI r, aI s, some (.tuple #[.slice ((L5 3).a) ((f).length) ((L5 3).n), aN 0]), some (.slice ((L5 3).a) ((f).length) ((L5 3).n)), aI 0, aU, aU, aU, aU, aU, aU, aU, aU], [.vue (b) (o) (iv (u)), .row ((L4 1).a) (u.length) ((L4 1).n) 1 (iv u) 3 true, .row ((L4 4).a) ((f).length) ((L4 4).n) 1 (iv (f)) 3 true, .row ((L5 3).a) ((f).length) ((L5 3).n) 1 (iv (f)) 3 true], []⟩)
    (fun L5 => [CallN Try.prog 10 #[.slice (some ⟨b, o, none⟩) (u.length) (cap), aN r, aN s] [.vue (b) (o) (iv (u))] (fun l => .tuple #[.slice (l.a) ((f).length) (l.n), aN 0]) (fun l => .row (l.a) ((f).length) (l.n) 1 (iv (f)) 3 true)])
    fol (by kernel_rfl) (fun _ => by kernel_rfl) (fun L5 => ⟨(H2), trivial⟩) (fun L5 => ?_)
  refine aw_sr [⟨.pure, [], none, true⟩, ⟨.pure, [], none, true⟩, ⟨.pure, [0, 1], none, true⟩, ⟨.pure, [0, 1, 2], none, true⟩, ⟨.pure, [0, 1, 2, 3], none, true⟩, ⟨.pure, [0, 1, 2, 3], none, true⟩, ⟨(.call [2, 3] (.bool (true))), [0, 1, 2, 3, 4, 5], none, true⟩, ⟨.pure, [0, 1, 2, 3, 4, 5, 6], aT, true⟩, ⟨.pure, [0, 1, 2, 3, 4, 5, 6, 7], none, true⟩]
    (fun L6 => ⟨[some (.slice (some ⟨b, o, none⟩) (u.length) (cap)), aI r, aI s, aU, aU, aU, aT, some (.slice ((L4 4).a) ((f).length) ((L4 4).n)), aI 0, some (.slice ((L5 3).a) ((f).length) ((L5 3).n)), aI 0, aT, aF, some (.slice (some ⟨b, o, none⟩) (u.length) (cap)), some (.int .i64 (((u.length : Nat) : Int))), some (.bool (decide ((((u.length : Nat) : Int)) > 20))), some (.tuple #[.slice ((L4 4).a) ((f).length) ((L4 4).n), aN 0]), some (.slice (some ⟨b, o, none⟩) (u.length) (cap)), some (.slice ((L4 1).a) (u.length) ((L4 1).n)), aI r, aI s, some (.tuple #[.slice ((L4 4).a) ((f).length) ((L4 4).n), aN 0]), some (.slice ((L4 4).a) ((f).length) ((L4 4).n)), aI 0, some (.tuple #[.slice ((L5 3).a) ((f).length) ((L5 3).n), aN 0]), some (.slice (some ⟨b, o, none⟩) (u.length) (cap)), aI r, aI s, some (.tuple #[.slice ((L5 3).a) ((f).length) ((L5 3).n), aN 0]), some (.slice ((L5 3).a) ((f).length) ((L5 3).n)), aI 0, aI 0, aI 0, aT, aT, some (.slice ((L4 4).a) ((f).length) ((L4 4).n)), some (.slice ((L5 3).a) ((f).length) ((L5 3).n)), aT, aT], [.vue (b) (o) (iv (u)), .row ((L4 1).a) (u.length) ((L4 1).n) 1 (iv u) 3 true, .row ((L4 4).a) ((f).length) ((L4 4).n) 1 (iv (f)) 3 true, .row ((L5 3).a) ((f).length) ((L5 3).n) 1 (iv (f)) 3 true], []⟩)
    (fun L6 => [(true) = true, (true) = true, (true) = true, CallOb Try.prog 11 #[.slice ((L4 4).a) ((f).length) ((L4 4).n), .slice ((L5 3).a) ((f).length) ((L5 3).n)] [.row ((L4 4).a) ((f).length) ((L4 4).n) 1 (iv (f)) 3 true, .row ((L5 3).a) ((f).length) ((L5 3).n) 1 (iv (f)) 3 true] (.bool (true)), (.bool (true) : Value) = .bool (true)])
    fol (by kernel_rfl) (fun _ => by kernel_rfl) (fun L6 => ⟨rfl, rfl, rfl, (Un.ints hf _ _ _ _), rfl, trivial⟩) (fun L6 => ?_)
  refine aw_ret ?_
  refine fin_ret none [0] (.bool (true)) [] (.inr rfl) rfl (by kernel_rfl) trivial (fun w' hb => ?_)
  exact ⟨by first | rfl | simp, hb⟩

set_option maxRecDepth 100000 in
set_option maxHeartbeats 400000 in
theorem Un.law0 (q : Option Addr) (c : Nat) (r s e : Int) (hs : IntKind.i64.wrap e = e) (H1 : ∀ (q : Option Addr) (c : Nat), CallOb Try.prog 8 #[.slice (q) (0) (c), aN r, aN s] [] (.tuple #[.slice none 0 0, aN e])) (H2 : CallOb Try.prog 10 #[.slice (q) (0) (c), aN r, aN s] [] (.tuple #[.slice none 0 0, aN e])) : CallOb Try.prog 4 #[.slice (q) (0) (c), aN r, aN s] [] (.bool (true)) := by
  intro w hw
  refine calls_aw [some (.slice (q) (0) (c)), aI r, aI s, aU, aU, aU, aU, aU, aU, aU, aU, aU, aU, aU, aU, aU, aU, aU, aU, aU, aU, aU, aU, aU, aU, aU, aU, aU, aU, aU, aU, aU, aU, aU, aU, aU, aU, aU, aU] [] Try.func4 rfl (by kernel_rfl) (fun e x h => by cases h) ?_
  refine aw_sr [⟨.pure, [], none, true⟩]
    (fun L1 => ⟨[some (.slice (q) (0) (c)), aI r, aI s, aU, aU, aU, aF, aU, aU, aU, aU, aU, aU, aU, aU, aU, aU, aU, aU, aU, aU, aU, aU, aU, aU, aU, aU, aU, aU, aU, aU, aU, aU, aU, aU, aU, aU, aU, aU], [], []⟩)
    (fun L1 => [])
    fol (by kernel_rfl) (fun _ => by kernel_rfl) (fun L1 => trivial) (fun L1 => ?_)
  refine aw_seq ?_
  refine aw_sr [⟨(.call [] (.bool (true))), [], none, true⟩, ⟨.pure, [0], none, true⟩]
    (fun L2 => ⟨[some (.slice (q) (0) (c)), aI r, aI s, aU, aU, aU, aF, aU, aU, aU, aU, aT, aF, aU, aU, aU, aU, aU, aU, aU, aU, aU, aU, aU, aU, aU, aU, aU, aU, aU, aU, aU, aU, aU, aU, aU, aU, aU, aU], [], []⟩)
    (fun L2 => [CallOb Try.prog 5 #[] [] (.bool (true))])
    fol (by kernel_rfl) (fun _ => by kernel_rfl) (fun L2 => ⟨(UA.awake), trivial⟩) (fun L2 => ?_)
  refine aw_false (false) rfl rfl ?_
  refine aw_skip ?_
  refine nrm_thn ?_
  refine aw_seq ?_
  refine aw_sr [⟨.pure, [], none, true⟩, ⟨.pure, [0], none, true⟩, ⟨.pure, [0, 1], none, true⟩]
    (fun L3 => ⟨[some (.slice (q) (0) (c)), aI r, aI s, aU, aU, aU, aF, aU, aU, aU, aU, aT, aF, some (.slice (q) (0) (c)), aI 0, aF, aU, aU, aU, aU, aU, aU, aU, aU, aU, aU, aU, aU, aU, aU, aU, aU, aU, aU, aU, aU, aU, aU, aU], [], []⟩)
    (fun L3 => [])
    fol (by kernel_rfl) (fun _ => by kernel_rfl) (fun L3 => trivial) (fun L3 => ?_)
  refine aw_false (false) rfl rfl ?_
  refine aw_skip ?_
  refine nrm_thn ?_
  refine aw_sr [⟨.pure, [], none, true⟩, ⟨(.callN [] (fun l => .slice (some ⟨l.b, 0, none⟩) (0) (0)) (fun l => .blk (l.b) [] 3 true)), [0], none, true⟩, ⟨.pure, [], none, true⟩, ⟨.pure, [], none, true⟩, ⟨(.call [] (.tuple #[.slice none 0 0, aN e])), [0, 1, 2, 3], none, true⟩, ⟨.pure, [0, 1, 2, 3, 4], none, true⟩, ⟨.pure, [0, 1, 2, 3, 4, 5], none, true⟩, ⟨.pure, [0, 1, 2, 3, 4, 5], none, true⟩, ⟨.pure, [0, 1, 2, 3, 4, 5, 6], none, true⟩, ⟨.pure, [0, 1, 2, 3, 4, 5, 6, 7, 8], none, true⟩]
    (fun L4 => ⟨[some (.slice (q) (0) (c)), aI r, aI s, aU, aU, aU, aF, some (.slice none 0 0), aI e, aU, aU, aT, aF, some (.slice (q) (0) (c)), aI 0, aF, some (.tuple #[.slice none 0 0, aN e]), some (.slice (q) (0) (c)), aS (L4 1).b 0 0 0, aI r, aI s, some (.tuple #[.slice none 0 0, aN e]), some (.slice none 0 0), aI e, aU, aU, aU, aU, aU, aU, aU, aU, aU, aU, aU, aU, aU, aU, aU], [.blk ((L4 1).b) [] 3 true], []⟩)
    (fun L4 => [CallN Try.prog 9 #[.slice (q) (0) (c)] [] (fun l => .slice (some ⟨l.b, 0, none⟩) (0) (0)) (fun l => .blk (l.b) [] 3 true), CallOb Try.prog 8 #[.slice (some ⟨(L4 1).b, 0, none⟩) (0) (0), aN r, aN s] [] (.tuple #[.slice none 0 0, aN e])])
    fol (by kernel_rfl) (fun _ => by kernel_rfl) (fun L4 => ⟨(Un.copy0 _ _), (H1 _ _), trivial⟩) (fun L4 => ?_)
  refine aw_sr [⟨.pure, [], none, true⟩, ⟨.pure, [], none, true⟩, ⟨.pure, [], none, true⟩, ⟨(.call [] (.tuple #[.slice none 0 0, aN e])), [0, 1, 2], none, true⟩, ⟨.pure, [0, 1, 2, 3], none, true⟩, ⟨.pure, [0, 1, 2, 3, 4], none, true⟩, ⟨.pure, [0, 1, 2, 3, 4], none, true⟩, ⟨.pure, [0, 1, 2, 3, 4, 5], none, true⟩, ⟨.pure, [0, 1, 2, 3, 4, 5, 6, 7], none, true⟩]
    (fun L5 => ⟨[some (.slice (q) (0) (c)), aI r, aI s, aU, aU, aU, aF, some (.slice none 0 0), aI e, some (.slice none 0 0), aI e, aT, aF, some (.slice (q) (0) (c)), aI 0, aF, some (.tuple #[.slice none 0 0, aN e]), some (.slice (q) (0) (c)), aS (L4 1).b 0 0 0, aI r, aI s, some (.tuple #[.slice none 0 0, aN e]), some (.slice none 0 0), aI e, some (.tuple #[.slice none 0 0, aN e]), some (.slice (q) (0) (c)), aI r, aI s, some (.tuple #[.slice none 0 0, aN e]), some (.slice none 0 0), aI e, aU, aU, aU, aU, aU, aU, aU, aU], [.blk ((L4 1).b) [] 3 true], []⟩)
    (fun L5 => [CallOb Try.prog 10 #[.slice (q) (0) (c), aN r, aN s] [] (.tuple #[.slice none 0 0, aN e])])
    fol (by kernel_rfl) (fun _ => by kernel_rfl) (fun L5 => ⟨(H2), trivial⟩) (fun L5 => ?_)
  refine aw_sr [⟨.pure, [], none, true⟩, ⟨.pure, [], none, true⟩, ⟨.pure, [0, 1], none, true⟩, ⟨.pure, [0, 1, 2], none, true⟩, ⟨.pure, [0, 1, 2, 3], none, true⟩, ⟨.pure, [0, 1, 2, 3], none, true⟩, ⟨(.call [] (.bool (true))), [0, 1, 2, 3, 4, 5], none, true⟩, ⟨.pure, [0, 1, 2, 3, 4, 5, 6], aT, true⟩, ⟨.pure, [0, 1, 2, 3, 4, 5, 6, 7], none, true⟩]
    (fun L6 => ⟨[some (.slice (q) (0) (c)), aI r, aI s, aU, aU, aU, aT, some (.slice none 0 0), aI e, some (.slice none 0 0), aI e, aT, aF, some (.slice (q) (0) (c)), aI 0, aF, some (.tuple #[.slice none 0 0, aN e]), some (.slice (q) (0) (c)), aS (L4 1).b 0 0 0, aI r, aI s, some (.tuple #[.slice none 0 0, aN e]), some (.slice none 0 0), aI e, some (.tuple #[.slice none 0 0, aN e]), some (.slice (q) (0) (c)), aI r, aI s, some (.tuple #[.slice none 0 0, aN e]), some (.slice none 0 0), aI e, aI e, aI e, some (.bool ((e) == (e))), some (.bool ((e) == (e))), some (.slice none 0 0), some (.slice none 0 0), aT, aT], [.blk ((L4 1).b) [] 3 true], []⟩)
    (fun L6 => [((e) == (e)) = true, ((e) == (e)) = true, ((e) == (e)) = true, CallOb Try.prog 11 #[.slice none 0 0, .slice none 0 0] [] (.bool (true)), (if ((e) == (e)) = true then (.bool (true) : Value) else .bool (false)) = .bool (true)])
    fol (by kernel_rfl) (fun _ => by kernel_rfl) (fun L6 => ⟨(beq_self_eq_true _), (beq_self_eq_true _), (beq_self_eq_true _), (Un.ints0 none none 0 0), (by rw [(beq_self_eq_true _)]; rfl), trivial⟩) (fun L6 => ?_)
  refine aw_ret ?_
  refine fin_ret none [0] (.bool (true)) [] (.inr rfl) rfl (by kernel_rfl) trivial (fun w' hb => ?_)
  exact ⟨by first | rfl | simp, hb⟩

theorem Un.fi_two (u : List Int) : ∀ n k, ((fi (Un.E u) n k).2 = 0 ∧ ∀ j, k ≤ j → j < k + n → Sb.inB (u.getD j 0) 0 1000000 = true) ∨ ((fi (Un.E u) n k).2 = 2 ∧ ∃ j, k ≤ j ∧ j < k + n ∧ Sb.inB (u.getD j 0) 0 1000000 = false)
  | 0, k => .inl ⟨rfl, fun j h1 h2 => by omega⟩
  | n + 1, k => by
    cases hb : Sb.inB (u.getD k 0) 0 1000000 with
    | true =>
      have hE : (Un.E u k != 0) = false := by unfold Un.E; rw [hb]; rfl
      have e : fi (Un.E u) (n + 1) k = fi (Un.E u) n (k + 1) := by simp only [fi, hE, Bool.false_eq_true, if_false]
      rw [e]
      rcases Un.fi_two u n (k + 1) with ⟨h1, h2⟩ | ⟨h1, j, h2, h3, h4⟩
      · refine .inl ⟨h1, fun j hj1 hj2 => ?_⟩
        rcases Nat.eq_or_lt_of_le hj1 with rfl | hlt
        · exact hb
        · exact h2 j hlt (by omega)
      · exact .inr ⟨h1, j, by omega, by omega, h4⟩
    | false =>
      have hE : (Un.E u k != 0) = true := by unfold Un.E; rw [hb]; rfl
      have e : fi (Un.E u) (n + 1) k = ((k : Int), Un.E u k) := by simp only [fi, hE, if_true]
      rw [e]
      exact .inr ⟨by show Un.E u k = 2; unfold Un.E; rw [hb]; rfl, k, Nat.le_refl _, by omega, hb⟩
theorem Un.uneven (u : List Int) (r s e : Int) (h0 : 0 < u.length) (h : (u.length > 16 ∧ e = 8) ∨ (u.length ≤ 16 ∧ (Sb.frst [(fi (Un.E u) u.length 0).2, Sb.unl (Sb.inB (r) (1) (1000000)) 2, Sb.unl (Sb.inB (s) (0) (1000)) 2] != 0) = true ∧ e = Sb.frst [(fi (Un.E u) u.length 0).2, Sb.unl (Sb.inB (r) (1) (1000000)) 2, Sb.unl (Sb.inB (s) (0) (1000)) 2])) : ∀ (a : Option Addr) (c : Nat), CallOb Try.prog 8 #[.slice a u.length c, .int .i64 r, .int .i64 s] [.row a u.length c 1 (iv u) 3 true] (.tuple #[.slice none 0 0, .int .i64 e]) := by
  intro a c W hw
  obtain ⟨g, rfl⟩ := row_at (hw _ (List.mem_singleton.2 rfl)) h0
  rcases h with ⟨h1, rfl⟩ | ⟨h1, h2, rfl⟩
  · exact callOb_frz (es := [.row (some ⟨g, 0, none⟩) u.length c 1 (iv u) 3 true]) (Un.uneven1 g c u r s (decide_eq_true (by omega))) W hw
  · exact callOb_frz (es := [.row (some ⟨g, 0, none⟩) u.length c 1 (iv u) 3 true]) (Un.uneven2 g c u r s h1 (decide_eq_false (by omega)) h2) W hw
theorem Un.unevenN (u : List Int) (r s : Int) (h0 : 0 < u.length) (h1 : u.length ≤ 16) (h2 : (Sb.frst [(fi (Un.E u) u.length 0).2, Sb.unl (Sb.inB (r) (1) (1000000)) 2, Sb.unl (Sb.inB (s) (0) (1000)) 2] != 0) = false) : ∀ (a : Option Addr) (c : Nat), CallN Try.prog 8 #[.slice a u.length c, .int .i64 r, .int .i64 s] [.row a u.length c 1 (iv u) 3 true] (fun l => .tuple #[.slice (l.a) ((Un.fl (Un.p u r s) u.length).length) (l.n), aN 0]) (fun l => .row (l.a) ((Un.fl (Un.p u r s) u.length).length) (l.n) 1 (iv (Un.fl (Un.p u r s) u.length)) 3 true) := by
  intro a c W hw
  obtain ⟨g, rfl⟩ := row_at (hw _ (List.mem_singleton.2 rfl)) h0
  exact callN_frz (es := [.row (some ⟨g, 0, none⟩) u.length c 1 (iv u) 3 true]) (Un.uneven3 g c u r s h1 (decide_eq_false (by omega)) h2) W hw
theorem Un.nz (b : Bool) : (Sb.unl b 2 != 0) = !b := by cases b <;> rfl
theorem Un.frst3 (x y z : Int) : Sb.frst [x, y, z] = if (x != 0) = true then x else if (y != 0) = true then y else if (z != 0) = true then z else 0 := by
  simp only [Sb.frst]
theorem Un.unl2 (b : Bool) : Sb.unl b 2 = if b = true then 0 else 2 := rfl
set_option maxHeartbeats 1000000 in
theorem Un.some_any (b o cap : Nat) (u : List Int) (r s : Int) (h0 : 0 < u.length) (W : World) (hv : (Cel.vue b o (iv u)).holds W) : Calls Try.prog 4 #[.slice (some ⟨b, o, none⟩) u.length cap, .int .i64 r, .int .i64 s] W fun e w' => e = .returned (.bool true) ∧ Below W.heap.size W w' := by
  have hw : ∀ e ∈ [Cel.vue b o (iv u)], e.holds W := fun e he => by rw [List.mem_singleton.1 he]; exact hv
  by_cases h20 : u.length > 20
  · exact Un.law1 b o cap u r s (decide_eq_true (by omega)) W hw
  have hl : decide ((((u.length : Nat) : Int)) > 20) = false := decide_eq_false (by omega)
  by_cases h16 : u.length > 16
  · exact Un.law2 b o cap u r s h0 hl (by omega) 8 (by decide) (Un.uneven u r s 8 h0 (.inl ⟨h16, rfl⟩)) (Un.ref1 b o cap u r s (decide_eq_true (by omega))) W hw
  have h16' : u.length ≤ 16 := by omega
  have hL : decide ((((u.length : Nat) : Int)) > 16) = false := decide_eq_false (by omega)
  rcases Un.fi_two u u.length 0 with ⟨f1, f2⟩ | ⟨f1, j, f2, f3, f4⟩
  · have hall : ∀ j, j < u.length → Sb.inB (u.getD j 0) 0 1000000 = true := fun j hj => f2 j (Nat.zero_le _) (by omega)
    cases hr : Sb.inB r 1 1000000 with
    | false =>
      refine Un.law2 b o cap u r s h0 hl (by omega) 2 (by decide) (Un.uneven u r s 2 h0 (.inr ⟨h16', ?_, ?_⟩)) (Un.ref3 b o cap u r s h16' hL hall (by rw [hr]; rfl)) W hw
      · rw [f1, hr]; rfl
      · rw [f1, hr]; rfl
    | true =>
      cases hs : Sb.inB s 0 1000 with
      | false =>
        refine Un.law2 b o cap u r s h0 hl (by omega) 2 (by decide) (Un.uneven u r s 2 h0 (.inr ⟨h16', ?_, ?_⟩)) (Un.ref4 b o cap u r s h16' hL hall (by rw [hr]; rfl) hs) W hw
        · rw [f1, hr, hs]; rfl
        · rw [f1, hr, hs]; rfl
      | true =>
        refine Un.law3 b o cap u r s h0 hl (by omega) (Un.fl (Un.p u r s) u.length) (by have := Un.fl_len (Un.p u r s) u.length; omega) (Un.unevenN u r s h0 h16' ?_) (Un.ref5 b o cap u r s h16' hL hall (by rw [hr]; rfl) hs) W hw
        rw [f1, hr, hs]; rfl
  · refine Un.law2 b o cap u r s h0 hl (by omega) 2 (by decide) (Un.uneven u r s 2 h0 (.inr ⟨h16', ?_, ?_⟩)) (Un.ref2 b o cap u r s h16' hL ⟨j, by omega, f4⟩) W hw
    · rw [f1]; rfl
    · rw [f1]; rfl
theorem Un.none_any (q : Option Addr) (c : Nat) (r s : Int) (W : World) : Calls Try.prog 4 #[.slice q 0 c, .int .i64 r, .int .i64 s] W fun e w' => e = .returned (.bool true) ∧ Below W.heap.size W w' := by
  have hw : ∀ e ∈ ([] : List Cel), e.holds W := fun e he => by cases he
  cases hr : Sb.inB r 1 1000000 with
  | false =>
    refine Un.law0 q c r s 2 (by decide) (fun q c => ?_) (Un.ref6 q c r s (by rw [hr]; rfl)) W hw
    have := Un.uneven6 q c r s (by rw [hr]; rfl)
    rw [hr] at this; exact this
  | true =>
    cases hs : Sb.inB s 0 1000 with
    | false =>
      refine Un.law0 q c r s 2 (by decide) (fun q c => ?_) (Un.ref7 q c r s (by rw [hr]; rfl) hs) W hw
      have := Un.uneven6 q c r s (by rw [hr, hs]; rfl)
      rw [hr, hs] at this; exact this
    | true =>
      exact Un.law0 q c r s 0 (by decide) (fun q c => Un.uneven7 q c r s (by rw [hr, hs]; rfl)) (Un.ref8 q c r s (by rw [hr]; rfl) hs) W hw
theorem tuneUneven_any (W : World) (v : Value) (x : Nat → Int) (n : Nat) (h : Hid (IRow W v x n)) (r s : Int) : Calls Try.prog 4 #[v, .int .i64 r, .int .i64 s] W fun e w' => e = .returned (.bool true) ∧ Below W.heap.size W w' := by
  obtain ⟨q, c, u, rfl, hn, hm, h⟩ := h.out.list
  rcases h with rfl | ⟨b, o, rfl, h0, hv⟩
  · exact Un.none_any q c r s W
  · exact Un.some_any b o c u r s h0 W hv
end Go.Proofs.Ytfgeeibfknieaaa
