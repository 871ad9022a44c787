/-
  Contracts of package base that hold for any numbers.
-/
import Derived.Test.YtlpjnhoafaamkaaAgW
set_option linter.unusedVariables false
set_option linter.unusedSimpArgs false
namespace Go.Proofs.Ytlpjnhoafaamkaa
open Go Go.RowKit

namespace Sb
def inB (n a b : Int) : Bool := decide (a ≤ n) && decide (n ≤ b)
def unl (b : Bool) (e : Int) : Int := if b then 0 else e
def frst : List Int → Int
  | [] => 0
  | e :: l => if (e != 0) = true then e else frst l
def endsE (l h a b : Int) : Int := frst [unl (inB l a b) 2, unl (inB h a b) 2, unl (decide (l ≤ h)) 9]
end Sb
set_option maxRecDepth 100000 in
set_option maxHeartbeats 400000 in
theorem Sb.within (n a b : Int) : Ag.CallOb Try.prog 41 #[.int .i64 (n), .int .i64 (a), .int .i64 (b)] [] (.bool (Sb.inB n a b)) := by
  intro w hw
  refine Ag.calls_aw [some (.int .i64 (n)), some (.int .i64 (a)), some (.int .i64 (b)), some (undef), some (undef), some (undef), some (undef), some (undef), some (undef), some (undef), some (undef), some (undef), some (undef), some (undef), some (undef)] [] Try.func41 rfl (by kernel_rfl) (fun e x h => by cases h) ?_
  refine Ag.aw_sr [⟨.pure, [], none, true⟩]
    (fun L1 => ⟨[some (.int .i64 (n)), some (.int .i64 (a)), some (.int .i64 (b)), some (undef), some (undef), some (undef), some (.bool (false)), some (undef), some (undef), some (undef), some (undef), some (undef), some (undef), some (undef), some (undef)], [], []⟩)
    (fun L1 => [])
    Ag.fol (by kernel_rfl) (fun _ => by kernel_rfl) (fun L1 => trivial) (fun L1 => ?_)
  rcases Bool.eq_false_or_eq_true (decide (a ≤ n)) with h3 | h3
  ·
    refine Ag.aw_sr [⟨.pure, [], none, true⟩, ⟨.pure, [], none, true⟩, ⟨.pure, [0, 1], none, true⟩, ⟨.pure, [0, 1, 2], none, true⟩, ⟨.pure, [0, 1, 2, 3], none, true⟩, ⟨.pure, [0, 1, 2, 3], none, true⟩, ⟨.pure, [0, 1, 2, 3, 4, 5], none, true⟩, ⟨.pure, [0, 1, 2, 3, 4, 5, 6], some (.bool (decide (n ≤ b))), true⟩, ⟨.pure, [0, 1, 2, 3, 4, 5, 6, 7], none, true⟩]
      (fun L4 => ⟨[some (.int .i64 (n)), some (.int .i64 (a)), some (.int .i64 (b)), some (undef), some (undef), some (undef), some (.bool (decide (n ≤ b))), some (.int .i64 (a)), some (.int .i64 (n)), some (.bool (decide (a ≤ n))), some (.bool (decide (a ≤ n))), some (.int .i64 (n)), some (.int .i64 (b)), some (.bool (decide (n ≤ b))), some (.bool (decide (n ≤ b)))], [], []⟩)
      (fun L4 => [(decide (a ≤ n)) = true, (decide (a ≤ n)) = true, (decide (a ≤ n)) = true, (if (decide (a ≤ n)) = true then (.bool (decide (n ≤ b)) : Value) else .bool (false)) = .bool (decide (n ≤ b))])
      Ag.fol (by kernel_rfl) (fun _ => by kernel_rfl) (fun L4 => ⟨h3, h3, h3, (by rw [h3]; rfl), trivial⟩) (fun L4 => ?_)
    refine Ag.aw_ret ?_
    refine Ag.fin_ret none [0] (.bool (decide (n ≤ b))) [] (.inr rfl) rfl (by kernel_rfl) trivial (fun w' hb => ?_)
    exact ⟨by simp only [Sb.inB, *, Bool.and_true, Bool.true_and, Bool.and_false, Bool.false_and, Bool.true_and], hb⟩
  ·
    refine Ag.aw_sr [⟨.pure, [], none, true⟩, ⟨.pure, [], none, true⟩, ⟨.pure, [0, 1], none, true⟩, ⟨.pure, [0, 1, 2], none, true⟩, ⟨.pure, [0, 1, 2, 3], none, false⟩, ⟨.pure, [0, 1, 2, 3], none, false⟩, ⟨.pure, [0, 1, 2, 3, 4, 5], none, false⟩, ⟨.pure, [0, 1, 2, 3, 4, 5, 6], some (.bool (false)), true⟩, ⟨.pure, [0, 1, 2, 3, 4, 5, 6, 7], none, true⟩]
      (fun L5 => ⟨[some (.int .i64 (n)), some (.int .i64 (a)), some (.int .i64 (b)), some (undef), some (undef), some (undef), some (.bool (false)), some (.int .i64 (a)), some (.int .i64 (n)), some (.bool (decide (a ≤ n))), some (.bool (decide (a ≤ n))), some (undef), some (undef), some (undef), some (.bool (false))], [], []⟩)
      (fun L5 => [(decide (a ≤ n)) = false, (decide (a ≤ n)) = false, (decide (a ≤ n)) = false, (if (decide (a ≤ n)) = true then (undef : Value) else .bool (false)) = .bool (false)])
      Ag.fol (by kernel_rfl) (fun _ => by kernel_rfl) (fun L5 => ⟨h3, h3, h3, (by rw [h3]; rfl), trivial⟩) (fun L5 => ?_)
    refine Ag.aw_ret ?_
    refine Ag.fin_ret none [0] (.bool (false)) [] (.inr rfl) rfl (by kernel_rfl) trivial (fun w' hb => ?_)
    exact ⟨by simp only [Sb.inB, *, Bool.and_true, Bool.true_and, Bool.and_false, Bool.false_and, Bool.true_and], hb⟩

set_option maxRecDepth 100000 in
set_option maxHeartbeats 400000 in
theorem Sb.withinR (n a b : Int) : Ag.CallOb Try.prog 14 #[.int .i64 (n), .int .i64 (a), .int .i64 (b)] [] (.bool (Sb.inB n a b)) := by
  intro w hw
  refine Ag.calls_aw [some (.int .i64 (n)), some (.int .i64 (a)), some (.int .i64 (b)), some (undef), some (undef), some (undef), some (undef), some (undef), some (undef), some (undef), some (undef), some (undef), some (undef), some (undef), some (undef)] [] Try.func14 rfl (by kernel_rfl) (fun e x h => by cases h) ?_
  refine Ag.aw_sr [⟨.pure, [], none, true⟩]
    (fun L1 => ⟨[some (.int .i64 (n)), some (.int .i64 (a)), some (.int .i64 (b)), some (undef), some (undef), some (undef), some (.bool (false)), some (undef), some (undef), some (undef), some (undef), some (undef), some (undef), some (undef), some (undef)], [], []⟩)
    (fun L1 => [])
    Ag.fol (by kernel_rfl) (fun _ => by kernel_rfl) (fun L1 => trivial) (fun L1 => ?_)
  rcases Bool.eq_false_or_eq_true (decide (a ≤ n)) with h3 | h3
  ·
    refine Ag.aw_sr [⟨.pure, [], none, true⟩, ⟨.pure, [], none, true⟩, ⟨.pure, [0, 1], none, true⟩, ⟨.pure, [0, 1, 2], none, true⟩, ⟨.pure, [0, 1, 2, 3], none, true⟩, ⟨.pure, [0, 1, 2, 3], none, true⟩, ⟨.pure, [0, 1, 2, 3, 4, 5], none, true⟩, ⟨.pure, [0, 1, 2, 3, 4, 5, 6], some (.bool (decide (n ≤ b))), true⟩, ⟨.pure, [0, 1, 2, 3, 4, 5, 6, 7], none, true⟩]
      (fun L4 => ⟨[some (.int .i64 (n)), some (.int .i64 (a)), some (.int .i64 (b)), some (undef), some (undef), some (undef), some (.bool (decide (n ≤ b))), some (.int .i64 (a)), some (.int .i64 (n)), some (.bool (decide (a ≤ n))), some (.bool (decide (a ≤ n))), some (.int .i64 (n)), some (.int .i64 (b)), some (.bool (decide (n ≤ b))), some (.bool (decide (n ≤ b)))], [], []⟩)
      (fun L4 => [(decide (a ≤ n)) = true, (decide (a ≤ n)) = true, (decide (a ≤ n)) = true, (if (decide (a ≤ n)) = true then (.bool (decide (n ≤ b)) : Value) else .bool (false)) = .bool (decide (n ≤ b))])
      Ag.fol (by kernel_rfl) (fun _ => by kernel_rfl) (fun L4 => ⟨h3, h3, h3, (by rw [h3]; rfl), trivial⟩) (fun L4 => ?_)
    refine Ag.aw_ret ?_
    refine Ag.fin_ret none [0] (.bool (decide (n ≤ b))) [] (.inr rfl) rfl (by kernel_rfl) trivial (fun w' hb => ?_)
    exact ⟨by simp only [Sb.inB, *, Bool.and_true, Bool.true_and, Bool.and_false, Bool.false_and, Bool.true_and], hb⟩
  ·
    refine Ag.aw_sr [⟨.pure, [], none, true⟩, ⟨.pure, [], none, true⟩, ⟨.pure, [0, 1], none, true⟩, ⟨.pure, [0, 1, 2], none, true⟩, ⟨.pure, [0, 1, 2, 3], none, false⟩, ⟨.pure, [0, 1, 2, 3], none, false⟩, ⟨.pure, [0, 1, 2, 3, 4, 5], none, false⟩, ⟨.pure, [0, 1, 2, 3, 4, 5, 6], some (.bool (false)), true⟩, ⟨.pure, [0, 1, 2, 3, 4, 5, 6, 7], none, true⟩]
      (fun L5 => ⟨[some (.int .i64 (n)), some (.int .i64 (a)), some (.int .i64 (b)), some (undef), some (undef), some (undef), some (.bool (false)), some (.int .i64 (a)), some (.int .i64 (n)), some (.bool (decide (a ≤ n))), some (.bool (decide (a ≤ n))), some (undef), some (undef), some (undef), some (.bool (false))], [], []⟩)
      (fun L5 => [(decide (a ≤ n)) = false, (decide (a ≤ n)) = false, (decide (a ≤ n)) = false, (if (decide (a ≤ n)) = true then (undef : Value) else .bool (false)) = .bool (false)])
      Ag.fol (by kernel_rfl) (fun _ => by kernel_rfl) (fun L5 => ⟨h3, h3, h3, (by rw [h3]; rfl), trivial⟩) (fun L5 => ?_)
    refine Ag.aw_ret ?_
    refine Ag.fin_ret none [0] (.bool (false)) [] (.inr rfl) rfl (by kernel_rfl) trivial (fun w' hb => ?_)
    exact ⟨by simp only [Sb.inB, *, Bool.and_true, Bool.true_and, Bool.and_false, Bool.false_and, Bool.true_and], hb⟩

set_option maxRecDepth 100000 in
set_option maxHeartbeats 400000 in
theorem Sb.unless (b : Bool) (e : Int) : Ag.CallOb Try.prog 24 #[.bool (b), .int .i64 (e)] [] (.int .i64 (Sb.unl b e)) := by
  intro w hw
  refine Ag.calls_aw [some (.bool (b)), some (.int .i64 (e)), some (undef), some (undef), some (undef), some (undef), some (undef)] [] Try.func24 rfl (by kernel_rfl) (fun e x h => by cases h) ?_
  refine Ag.aw_sr [⟨.pure, [], none, true⟩]
    (fun L1 => ⟨[some (.bool (b)), some (.int .i64 (e)), some (undef), some (undef), some (.int .i64 (0)), some (undef), some (undef)], [], []⟩)
    (fun L1 => [])
    Ag.fol (by kernel_rfl) (fun _ => by kernel_rfl) (fun L1 => trivial) (fun L1 => ?_)
  refine Ag.aw_seq ?_
  refine Ag.aw_sr [⟨.pure, [], none, true⟩]
    (fun L2 => ⟨[some (.bool (b)), some (.int .i64 (e)), some (undef), some (undef), some (.int .i64 (0)), some (.bool (b)), some (undef)], [], []⟩)
    (fun L2 => [])
    Ag.fol (by kernel_rfl) (fun _ => by kernel_rfl) (fun L2 => trivial) (fun L2 => ?_)
  refine Ag.aw_cond (b) rfl (fun h3 => ?_) (fun h3 => ?_)
  ·
    refine Ag.aw_sr [⟨.pure, [], none, true⟩]
      (fun L4 => ⟨[some (.bool (b)), some (.int .i64 (e)), some (undef), some (undef), some (.int .i64 (0)), some (.bool (b)), some (undef)], [], []⟩)
      (fun L4 => [])
      Ag.fol (by kernel_rfl) (fun _ => by kernel_rfl) (fun L4 => trivial) (fun L4 => ?_)
    refine Ag.aw_ret ?_
    refine Ag.ret_thn ?_
    refine Ag.fin_ret none [0] (.int .i64 (0)) [] (.inr rfl) rfl (by kernel_rfl) trivial (fun w' hb => ?_)
    exact ⟨by simp only [Sb.unl, *, if_true, if_false, Bool.false_eq_true], hb⟩
  ·
    refine Ag.aw_skip ?_
    refine Ag.nrm_thn ?_
    refine Ag.aw_sr [⟨.pure, [], none, true⟩, ⟨.pure, [0], none, true⟩]
      (fun L5 => ⟨[some (.bool (b)), some (.int .i64 (e)), some (undef), some (undef), some (.int .i64 (e)), some (.bool (b)), some (.int .i64 (e))], [], []⟩)
      (fun L5 => [])
      Ag.fol (by kernel_rfl) (fun _ => by kernel_rfl) (fun L5 => trivial) (fun L5 => ?_)
    refine Ag.aw_ret ?_
    refine Ag.fin_ret none [0] (.int .i64 (e)) [] (.inr rfl) rfl (by kernel_rfl) trivial (fun w' hb => ?_)
    exact ⟨by simp only [Sb.unl, *, if_true, if_false, Bool.false_eq_true], hb⟩

set_option maxRecDepth 100000 in
set_option maxHeartbeats 400000 in
theorem Sb.firstOf2 (g : Nat) (e0 e1 : Int) : Ag.CallOb Try.prog 23 #[.slice (some ⟨g, 0, none⟩) (2) (2)] [.blk (g) [.int .i64 (e0), .int .i64 (e1)] 28 false] (.int .i64 (Sb.frst [e0, e1])) := by
  intro w hw
  refine Ag.calls_aw [some (.slice (some ⟨g, 0, none⟩) (2) (2)), some (undef), some (undef), some (undef), some (undef), some (undef), some (undef), some (undef), some (undef), some (undef), some (undef), some (undef), some (undef), some (undef), some (undef)] [.blk (g) [.int .i64 (e0), .int .i64 (e1)] 28 false] Try.func23 rfl (by kernel_rfl) (Ag.esOk hw (by simp [Ag.Cel.mine])) ?_
  refine Ag.aw_sr [⟨.pure, [], none, true⟩]
    (fun L1 => ⟨[some (.slice (some ⟨g, 0, none⟩) (2) (2)), some (undef), some (.int .i64 (0)), some (undef), some (undef), some (undef), some (undef), some (undef), some (undef), some (undef), some (undef), some (undef), some (undef), some (undef), some (undef)], [.blk (g) [.int .i64 (e0), .int .i64 (e1)] 28 false], []⟩)
    (fun L1 => [])
    Ag.fol (by kernel_rfl) (fun _ => by kernel_rfl) (fun L1 => trivial) (fun L1 => ?_)
  refine Ag.aw_seq ?_
  refine Ag.aw_sr [⟨.pure, [], none, true⟩, ⟨.pure, [0], none, true⟩, ⟨.pure, [], none, true⟩]
    (fun L2 => ⟨[some (.slice (some ⟨g, 0, none⟩) (2) (2)), some (undef), some (.int .i64 (0)), some (undef), some (undef), some (.slice (some ⟨g, 0, none⟩) (2) (2)), some (.int .i64 (2)), some (.int .i64 (0)), some (undef), some (undef), some (undef), some (undef), some (undef), some (undef), some (undef)], [.blk (g) [.int .i64 (e0), .int .i64 (e1)] 28 false], []⟩)
    (fun L2 => [])
    Ag.fol (by kernel_rfl) (fun _ => by kernel_rfl) (fun L2 => trivial) (fun L2 => ?_)
  refine Ag.aw_block ?_
  refine Ag.aw_rounds 3 ?_
  refine Ag.aw_round ?_
  refine Ag.aw_sr [⟨.pure, [], none, true⟩]
    (fun L3 => ⟨[some (.slice (some ⟨g, 0, none⟩) (2) (2)), some (undef), some (.int .i64 (0)), some (undef), some (undef), some (.slice (some ⟨g, 0, none⟩) (2) (2)), some (.int .i64 (2)), some (.int .i64 (0)), some (.bool (true)), some (undef), some (undef), some (undef), some (undef), some (undef), some (undef)], [.blk (g) [.int .i64 (e0), .int .i64 (e1)] 28 false], []⟩)
    (fun L3 => [])
    Ag.fol (by kernel_rfl) (fun _ => by kernel_rfl) (fun L3 => trivial) (fun L3 => ?_)
  refine Ag.aw_seq ?_
  refine Ag.aw_true (true) rfl rfl ?_
  refine Ag.aw_skip ?_
  refine Ag.nrm_thn ?_
  refine Ag.aw_seq ?_
  refine Ag.aw_block ?_
  refine Ag.aw_sr [⟨.pure, [], none, true⟩, ⟨(.read 0), [0], none, true⟩, ⟨.pure, [0, 1], none, true⟩]
    (fun L4 => ⟨[some (.slice (some ⟨g, 0, none⟩) (2) (2)), some (undef), some (.int .i64 (0)), some (undef), some (.int .i64 (e0)), some (.slice (some ⟨g, 0, none⟩) (2) (2)), some (.int .i64 (2)), some (.int .i64 (0)), some (.bool (true)), some (.pointer (some ⟨g, 0, none⟩)), some (.int .i64 (e0)), some (undef), some (undef), some (undef), some (undef)], [.blk (g) [.int .i64 (e0), .int .i64 (e1)] 28 false], []⟩)
    (fun L4 => [g = g])
    Ag.fol (by kernel_rfl) (fun _ => by kernel_rfl) (fun L4 => ⟨rfl, trivial⟩) (fun L4 => ?_)
  refine Ag.aw_sr [⟨.pure, [], none, true⟩, ⟨.pure, [0], none, true⟩]
    (fun L5 => ⟨[some (.slice (some ⟨g, 0, none⟩) (2) (2)), some (undef), some (.int .i64 (0)), some (undef), some (.int .i64 (e0)), some (.slice (some ⟨g, 0, none⟩) (2) (2)), some (.int .i64 (2)), some (.int .i64 (0)), some (.bool (true)), some (.pointer (some ⟨g, 0, none⟩)), some (.int .i64 (e0)), some (.int .i64 (e0)), some (.bool ((e0) != (0))), some (undef), some (undef)], [.blk (g) [.int .i64 (e0), .int .i64 (e1)] 28 false], []⟩)
    (fun L5 => [])
    Ag.fol (by kernel_rfl) (fun _ => by kernel_rfl) (fun L5 => trivial) (fun L5 => ?_)
  refine Ag.aw_cond ((e0) != (0)) rfl (fun h6 => ?_) (fun h6 => ?_)
  ·
    refine Ag.aw_sr [⟨.pure, [], none, true⟩, ⟨.pure, [0], none, true⟩]
      (fun L7 => ⟨[some (.slice (some ⟨g, 0, none⟩) (2) (2)), some (undef), some (.int .i64 (e0)), some (undef), some (.int .i64 (e0)), some (.slice (some ⟨g, 0, none⟩) (2) (2)), some (.int .i64 (2)), some (.int .i64 (0)), some (.bool (true)), some (.pointer (some ⟨g, 0, none⟩)), some (.int .i64 (e0)), some (.int .i64 (e0)), some (.bool ((e0) != (0))), some (.int .i64 (e0)), some (undef)], [.blk (g) [.int .i64 (e0), .int .i64 (e1)] 28 false], []⟩)
      (fun L7 => [])
      Ag.fol (by kernel_rfl) (fun _ => by kernel_rfl) (fun L7 => trivial) (fun L7 => ?_)
    refine Ag.aw_ret ?_
    refine Ag.ret_inB ?_
    refine Ag.ret_thn ?_
    refine Ag.ret_thn ?_
    refine Ag.ret_inB ?_
    refine Ag.ret_thn ?_
    refine Ag.fin_ret none [0] (.int .i64 (e0)) [] (.inr rfl) rfl (by kernel_rfl) trivial (fun w' hb => ?_)
    exact ⟨by simp only [Sb.frst, *, if_true, if_false, Bool.false_eq_true], hb⟩
  ·
    refine Ag.aw_skip ?_
    refine Ag.nrm_inB ?_
    refine Ag.nrm_thn ?_
    refine Ag.aw_region [⟨.pure, [], none, true⟩, ⟨.pure, [0], none, true⟩]
      (fun L8 => ⟨[some (.slice (some ⟨g, 0, none⟩) (2) (2)), some (undef), some (.int .i64 (0)), some (undef), some (.int .i64 (e0)), some (.slice (some ⟨g, 0, none⟩) (2) (2)), some (.int .i64 (2)), some (.int .i64 (1)), some (.bool (true)), some (.pointer (some ⟨g, 0, none⟩)), some (.int .i64 (e0)), some (.int .i64 (e0)), some (.bool ((e0) != (0))), some (undef), some (.int .i64 (1))], [.blk (g) [.int .i64 (e0), .int .i64 (e1)] 28 false], []⟩)
      (fun L8 => [])
      Ag.fol (by kernel_rfl) (fun _ => by kernel_rfl) (fun L8 => trivial) (fun L8 => ?_)
    refine Ag.nrm_thn ?_
    refine Ag.aw_round ?_
    refine Ag.aw_sr [⟨.pure, [], none, true⟩]
      (fun L9 => ⟨[some (.slice (some ⟨g, 0, none⟩) (2) (2)), some (undef), some (.int .i64 (0)), some (undef), some (.int .i64 (e0)), some (.slice (some ⟨g, 0, none⟩) (2) (2)), some (.int .i64 (2)), some (.int .i64 (1)), some (.bool (true)), some (.pointer (some ⟨g, 0, none⟩)), some (.int .i64 (e0)), some (.int .i64 (e0)), some (.bool ((e0) != (0))), some (undef), some (.int .i64 (1))], [.blk (g) [.int .i64 (e0), .int .i64 (e1)] 28 false], []⟩)
      (fun L9 => [])
      Ag.fol (by kernel_rfl) (fun _ => by kernel_rfl) (fun L9 => trivial) (fun L9 => ?_)
    refine Ag.aw_seq ?_
    refine Ag.aw_true (true) rfl rfl ?_
    refine Ag.aw_skip ?_
    refine Ag.nrm_thn ?_
    refine Ag.aw_seq ?_
    refine Ag.aw_block ?_
    refine Ag.aw_sr [⟨.pure, [], none, true⟩, ⟨(.read 0), [0], none, true⟩, ⟨.pure, [0, 1], none, true⟩]
      (fun L10 => ⟨[some (.slice (some ⟨g, 0, none⟩) (2) (2)), some (undef), some (.int .i64 (0)), some (undef), some (.int .i64 (e1)), some (.slice (some ⟨g, 0, none⟩) (2) (2)), some (.int .i64 (2)), some (.int .i64 (1)), some (.bool (true)), some (.pointer (some ⟨g, 1, none⟩)), some (.int .i64 (e1)), some (.int .i64 (e0)), some (.bool ((e0) != (0))), some (undef), some (.int .i64 (1))], [.blk (g) [.int .i64 (e0), .int .i64 (e1)] 28 false], []⟩)
      (fun L10 => [g = g])
      Ag.fol (by kernel_rfl) (fun _ => by kernel_rfl) (fun L10 => ⟨rfl, trivial⟩) (fun L10 => ?_)
    refine Ag.aw_sr [⟨.pure, [], none, true⟩, ⟨.pure, [0], none, true⟩]
      (fun L11 => ⟨[some (.slice (some ⟨g, 0, none⟩) (2) (2)), some (undef), some (.int .i64 (0)), some (undef), some (.int .i64 (e1)), some (.slice (some ⟨g, 0, none⟩) (2) (2)), some (.int .i64 (2)), some (.int .i64 (1)), some (.bool (true)), some (.pointer (some ⟨g, 1, none⟩)), some (.int .i64 (e1)), some (.int .i64 (e1)), some (.bool ((e1) != (0))), some (undef), some (.int .i64 (1))], [.blk (g) [.int .i64 (e0), .int .i64 (e1)] 28 false], []⟩)
      (fun L11 => [])
      Ag.fol (by kernel_rfl) (fun _ => by kernel_rfl) (fun L11 => trivial) (fun L11 => ?_)
    refine Ag.aw_cond ((e1) != (0)) rfl (fun h12 => ?_) (fun h12 => ?_)
    ·
      refine Ag.aw_sr [⟨.pure, [], none, true⟩, ⟨.pure, [0], none, true⟩]
        (fun L13 => ⟨[some (.slice (some ⟨g, 0, none⟩) (2) (2)), some (undef), some (.int .i64 (e1)), some (undef), some (.int .i64 (e1)), some (.slice (some ⟨g, 0, none⟩) (2) (2)), some (.int .i64 (2)), some (.int .i64 (1)), some (.bool (true)), some (.pointer (some ⟨g, 1, none⟩)), some (.int .i64 (e1)), some (.int .i64 (e1)), some (.bool ((e1) != (0))), some (.int .i64 (e1)), some (.int .i64 (1))], [.blk (g) [.int .i64 (e0), .int .i64 (e1)] 28 false], []⟩)
        (fun L13 => [])
        Ag.fol (by kernel_rfl) (fun _ => by kernel_rfl) (fun L13 => trivial) (fun L13 => ?_)
      refine Ag.aw_ret ?_
      refine Ag.ret_inB ?_
      refine Ag.ret_thn ?_
      refine Ag.ret_thn ?_
      refine Ag.ret_inB ?_
      refine Ag.ret_thn ?_
      refine Ag.fin_ret none [0] (.int .i64 (e1)) [] (.inr rfl) rfl (by kernel_rfl) trivial (fun w' hb => ?_)
      exact ⟨by simp only [Sb.frst, *, if_true, if_false, Bool.false_eq_true], hb⟩
    ·
      refine Ag.aw_skip ?_
      refine Ag.nrm_inB ?_
      refine Ag.nrm_thn ?_
      refine Ag.aw_region [⟨.pure, [], none, true⟩, ⟨.pure, [0], none, true⟩]
        (fun L14 => ⟨[some (.slice (some ⟨g, 0, none⟩) (2) (2)), some (undef), some (.int .i64 (0)), some (undef), some (.int .i64 (e1)), some (.slice (some ⟨g, 0, none⟩) (2) (2)), some (.int .i64 (2)), some (.int .i64 (2)), some (.bool (true)), some (.pointer (some ⟨g, 1, none⟩)), some (.int .i64 (e1)), some (.int .i64 (e1)), some (.bool ((e1) != (0))), some (undef), some (.int .i64 (2))], [.blk (g) [.int .i64 (e0), .int .i64 (e1)] 28 false], []⟩)
        (fun L14 => [])
        Ag.fol (by kernel_rfl) (fun _ => by kernel_rfl) (fun L14 => trivial) (fun L14 => ?_)
      refine Ag.nrm_thn ?_
      refine Ag.aw_round ?_
      refine Ag.aw_sr [⟨.pure, [], none, true⟩]
        (fun L15 => ⟨[some (.slice (some ⟨g, 0, none⟩) (2) (2)), some (undef), some (.int .i64 (0)), some (undef), some (.int .i64 (e1)), some (.slice (some ⟨g, 0, none⟩) (2) (2)), some (.int .i64 (2)), some (.int .i64 (2)), some (.bool (false)), some (.pointer (some ⟨g, 1, none⟩)), some (.int .i64 (e1)), some (.int .i64 (e1)), some (.bool ((e1) != (0))), some (undef), some (.int .i64 (2))], [.blk (g) [.int .i64 (e0), .int .i64 (e1)] 28 false], []⟩)
        (fun L15 => [])
        Ag.fol (by kernel_rfl) (fun _ => by kernel_rfl) (fun L15 => trivial) (fun L15 => ?_)
      refine Ag.aw_seq ?_
      refine Ag.aw_false (false) rfl rfl ?_
      refine Ag.aw_exit ?_
      refine Ag.ex_thn ?_
      refine Ag.ex_thn ?_
      refine Ag.ex_hit ?_
      refine Ag.nrm_thn ?_
      refine Ag.aw_sr [⟨.pure, [], none, true⟩]
        (fun L16 => ⟨[some (.slice (some ⟨g, 0, none⟩) (2) (2)), some (undef), some (.int .i64 (0)), some (undef), some (.int .i64 (e1)), some (.slice (some ⟨g, 0, none⟩) (2) (2)), some (.int .i64 (2)), some (.int .i64 (2)), some (.bool (false)), some (.pointer (some ⟨g, 1, none⟩)), some (.int .i64 (e1)), some (.int .i64 (e1)), some (.bool ((e1) != (0))), some (undef), some (.int .i64 (2))], [.blk (g) [.int .i64 (e0), .int .i64 (e1)] 28 false], []⟩)
        (fun L16 => [])
        Ag.fol (by kernel_rfl) (fun _ => by kernel_rfl) (fun L16 => trivial) (fun L16 => ?_)
      refine Ag.aw_ret ?_
      refine Ag.fin_ret none [0] (.int .i64 (0)) [] (.inr rfl) rfl (by kernel_rfl) trivial (fun w' hb => ?_)
      exact ⟨by simp only [Sb.frst, *, if_true, if_false, Bool.false_eq_true], hb⟩

set_option maxRecDepth 100000 in
set_option maxHeartbeats 400000 in
theorem Sb.firstOf3 (g : Nat) (e0 e1 e2 : Int) : Ag.CallOb Try.prog 23 #[.slice (some ⟨g, 0, none⟩) (3) (3)] [.blk (g) [.int .i64 (e0), .int .i64 (e1), .int .i64 (e2)] 28 false] (.int .i64 (Sb.frst [e0, e1, e2])) := by
  intro w hw
  refine Ag.calls_aw [some (.slice (some ⟨g, 0, none⟩) (3) (3)), some (undef), some (undef), some (undef), some (undef), some (undef), some (undef), some (undef), some (undef), some (undef), some (undef), some (undef), some (undef), some (undef), some (undef)] [.blk (g) [.int .i64 (e0), .int .i64 (e1), .int .i64 (e2)] 28 false] Try.func23 rfl (by kernel_rfl) (Ag.esOk hw (by simp [Ag.Cel.mine])) ?_
  refine Ag.aw_sr [⟨.pure, [], none, true⟩]
    (fun L1 => ⟨[some (.slice (some ⟨g, 0, none⟩) (3) (3)), some (undef), some (.int .i64 (0)), some (undef), some (undef), some (undef), some (undef), some (undef), some (undef), some (undef), some (undef), some (undef), some (undef), some (undef), some (undef)], [.blk (g) [.int .i64 (e0), .int .i64 (e1), .int .i64 (e2)] 28 false], []⟩)
    (fun L1 => [])
    Ag.fol (by kernel_rfl) (fun _ => by kernel_rfl) (fun L1 => trivial) (fun L1 => ?_)
  refine Ag.aw_seq ?_
  refine Ag.aw_sr [⟨.pure, [], none, true⟩, ⟨.pure, [0], none, true⟩, ⟨.pure, [], none, true⟩]
    (fun L2 => ⟨[some (.slice (some ⟨g, 0, none⟩) (3) (3)), some (undef), some (.int .i64 (0)), some (undef), some (undef), some (.slice (some ⟨g, 0, none⟩) (3) (3)), some (.int .i64 (3)), some (.int .i64 (0)), some (undef), some (undef), some (undef), some (undef), some (undef), some (undef), some (undef)], [.blk (g) [.int .i64 (e0), .int .i64 (e1), .int .i64 (e2)] 28 false], []⟩)
    (fun L2 => [])
    Ag.fol (by kernel_rfl) (fun _ => by kernel_rfl) (fun L2 => trivial) (fun L2 => ?_)
  refine Ag.aw_block ?_
  refine Ag.aw_rounds 4 ?_
  refine Ag.aw_round ?_
  refine Ag.aw_sr [⟨.pure, [], none, true⟩]
    (fun L3 => ⟨[some (.slice (some ⟨g, 0, none⟩) (3) (3)), some (undef), some (.int .i64 (0)), some (undef), some (undef), some (.slice (some ⟨g, 0, none⟩) (3) (3)), some (.int .i64 (3)), some (.int .i64 (0)), some (.bool (true)), some (undef), some (undef), some (undef), some (undef), some (undef), some (undef)], [.blk (g) [.int .i64 (e0), .int .i64 (e1), .int .i64 (e2)] 28 false], []⟩)
    (fun L3 => [])
    Ag.fol (by kernel_rfl) (fun _ => by kernel_rfl) (fun L3 => trivial) (fun L3 => ?_)
  refine Ag.aw_seq ?_
  refine Ag.aw_true (true) rfl rfl ?_
  refine Ag.aw_skip ?_
  refine Ag.nrm_thn ?_
  refine Ag.aw_seq ?_
  refine Ag.aw_block ?_
  refine Ag.aw_sr [⟨.pure, [], none, true⟩, ⟨(.read 0), [0], none, true⟩, ⟨.pure, [0, 1], none, true⟩]
    (fun L4 => ⟨[some (.slice (some ⟨g, 0, none⟩) (3) (3)), some (undef), some (.int .i64 (0)), some (undef), some (.int .i64 (e0)), some (.slice (some ⟨g, 0, none⟩) (3) (3)), some (.int .i64 (3)), some (.int .i64 (0)), some (.bool (true)), some (.pointer (some ⟨g, 0, none⟩)), some (.int .i64 (e0)), some (undef), some (undef), some (undef), some (undef)], [.blk (g) [.int .i64 (e0), .int .i64 (e1), .int .i64 (e2)] 28 false], []⟩)
    (fun L4 => [g = g])
    Ag.fol (by kernel_rfl) (fun _ => by kernel_rfl) (fun L4 => ⟨rfl, trivial⟩) (fun L4 => ?_)
  refine Ag.aw_sr [⟨.pure, [], none, true⟩, ⟨.pure, [0], none, true⟩]
    (fun L5 => ⟨[some (.slice (some ⟨g, 0, none⟩) (3) (3)), some (undef), some (.int .i64 (0)), some (undef), some (.int .i64 (e0)), some (.slice (some ⟨g, 0, none⟩) (3) (3)), some (.int .i64 (3)), some (.int .i64 (0)), some (.bool (true)), some (.pointer (some ⟨g, 0, none⟩)), some (.int .i64 (e0)), some (.int .i64 (e0)), some (.bool ((e0) != (0))), some (undef), some (undef)], [.blk (g) [.int .i64 (e0), .int .i64 (e1), .int .i64 (e2)] 28 false], []⟩)
    (fun L5 => [])
    Ag.fol (by kernel_rfl) (fun _ => by kernel_rfl) (fun L5 => trivial) (fun L5 => ?_)
  refine Ag.aw_cond ((e0) != (0)) rfl (fun h6 => ?_) (fun h6 => ?_)
  ·
    refine Ag.aw_sr [⟨.pure, [], none, true⟩, ⟨.pure, [0], none, true⟩]
      (fun L7 => ⟨[some (.slice (some ⟨g, 0, none⟩) (3) (3)), some (undef), some (.int .i64 (e0)), some (undef), some (.int .i64 (e0)), some (.slice (some ⟨g, 0, none⟩) (3) (3)), some (.int .i64 (3)), some (.int .i64 (0)), some (.bool (true)), some (.pointer (some ⟨g, 0, none⟩)), some (.int .i64 (e0)), some (.int .i64 (e0)), some (.bool ((e0) != (0))), some (.int .i64 (e0)), some (undef)], [.blk (g) [.int .i64 (e0), .int .i64 (e1), .int .i64 (e2)] 28 false], []⟩)
      (fun L7 => [])
      Ag.fol (by kernel_rfl) (fun _ => by kernel_rfl) (fun L7 => trivial) (fun L7 => ?_)
    refine Ag.aw_ret ?_
    refine Ag.ret_inB ?_
    refine Ag.ret_thn ?_
    refine Ag.ret_thn ?_
    refine Ag.ret_inB ?_
    refine Ag.ret_thn ?_
    refine Ag.fin_ret none [0] (.int .i64 (e0)) [] (.inr rfl) rfl (by kernel_rfl) trivial (fun w' hb => ?_)
    exact ⟨by simp only [Sb.frst, *, if_true, if_false, Bool.false_eq_true], hb⟩
  ·
    refine Ag.aw_skip ?_
    refine Ag.nrm_inB ?_
    refine Ag.nrm_thn ?_
    refine Ag.aw_region [⟨.pure, [], none, true⟩, ⟨.pure, [0], none, true⟩]
      (fun L8 => ⟨[some (.slice (some ⟨g, 0, none⟩) (3) (3)), some (undef), some (.int .i64 (0)), some (undef), some (.int .i64 (e0)), some (.slice (some ⟨g, 0, none⟩) (3) (3)), some (.int .i64 (3)), some (.int .i64 (1)), some (.bool (true)), some (.pointer (some ⟨g, 0, none⟩)), some (.int .i64 (e0)), some (.int .i64 (e0)), some (.bool ((e0) != (0))), some (undef), some (.int .i64 (1))], [.blk (g) [.int .i64 (e0), .int .i64 (e1), .int .i64 (e2)] 28 false], []⟩)
      (fun L8 => [])
      Ag.fol (by kernel_rfl) (fun _ => by kernel_rfl) (fun L8 => trivial) (fun L8 => ?_)
    refine Ag.nrm_thn ?_
    refine Ag.aw_round ?_
    refine Ag.aw_sr [⟨.pure, [], none, true⟩]
      (fun L9 => ⟨[some (.slice (some ⟨g, 0, none⟩) (3) (3)), some (undef), some (.int .i64 (0)), some (undef), some (.int .i64 (e0)), some (.slice (some ⟨g, 0, none⟩) (3) (3)), some (.int .i64 (3)), some (.int .i64 (1)), some (.bool (true)), some (.pointer (some ⟨g, 0, none⟩)), some (.int .i64 (e0)), some (.int .i64 (e0)), some (.bool ((e0) != (0))), some (undef), some (.int .i64 (1))], [.blk (g) [.int .i64 (e0), .int .i64 (e1), .int .i64 (e2)] 28 false], []⟩)
      (fun L9 => [])
      Ag.fol (by kernel_rfl) (fun _ => by kernel_rfl) (fun L9 => trivial) (fun L9 => ?_)
    refine Ag.aw_seq ?_
    refine Ag.aw_true (true) rfl rfl ?_
    refine Ag.aw_skip ?_
    refine Ag.nrm_thn ?_
    refine Ag.aw_seq ?_
    refine Ag.aw_block ?_
    refine Ag.aw_sr [⟨.pure, [], none, true⟩, ⟨(.read 0), [0], none, true⟩, ⟨.pure, [0, 1], none, true⟩]
      (fun L10 => ⟨[some (.slice (some ⟨g, 0, none⟩) (3) (3)), some (undef), some (.int .i64 (0)), some (undef), some (.int .i64 (e1)), some (.slice (some ⟨g, 0, none⟩) (3) (3)), some (.int .i64 (3)), some (.int .i64 (1)), some (.bool (true)), some (.pointer (some ⟨g, 1, none⟩)), some (.int .i64 (e1)), some (.int .i64 (e0)), some (.bool ((e0) != (0))), some (undef), some (.int .i64 (1))], [.blk (g) [.int .i64 (e0), .int .i64 (e1), .int .i64 (e2)] 28 false], []⟩)
      (fun L10 => [g = g])
      Ag.fol (by kernel_rfl) (fun _ => by kernel_rfl) (fun L10 => ⟨rfl, trivial⟩) (fun L10 => ?_)
    refine Ag.aw_sr [⟨.pure, [], none, true⟩, ⟨.pure, [0], none, true⟩]
      (fun L11 => ⟨[some (.slice (some ⟨g, 0, none⟩) (3) (3)), some (undef), some (.int .i64 (0)), some (undef), some (.int .i64 (e1)), some (.slice (some ⟨g, 0, none⟩) (3) (3)), some (.int .i64 (3)), some (.int .i64 (1)), some (.bool (true)), some (.pointer (some ⟨g, 1, none⟩)), some (.int .i64 (e1)), some (.int .i64 (e1)), some (.bool ((e1) != (0))), some (undef), some (.int .i64 (1))], [.blk (g) [.int .i64 (e0), .int .i64 (e1), .int .i64 (e2)] 28 false], []⟩)
      (fun L11 => [])
      Ag.fol (by kernel_rfl) (fun _ => by kernel_rfl) (fun L11 => trivial) (fun L11 => ?_)
    refine Ag.aw_cond ((e1) != (0)) rfl (fun h12 => ?_) (fun h12 => ?_)
    ·
      refine Ag.aw_sr [⟨.pure, [], none, true⟩, ⟨.pure, [0], none, true⟩]
        (fun L13 => ⟨[some (.slice (some ⟨g, 0, none⟩) (3) (3)), some (undef), some (.int .i64 (e1)), some (undef), some (.int .i64 (e1)), some (.slice (some ⟨g, 0, none⟩) (3) (3)), some (.int .i64 (3)), some (.int .i64 (1)), some (.bool (true)), some (.pointer (some ⟨g, 1, none⟩)), some (.int .i64 (e1)), some (.int .i64 (e1)), some (.bool ((e1) != (0))), some (.int .i64 (e1)), some (.int .i64 (1))], [.blk (g) [.int .i64 (e0), .int .i64 (e1), .int .i64 (e2)] 28 false], []⟩)
        (fun L13 => [])
        Ag.fol (by kernel_rfl) (fun _ => by kernel_rfl) (fun L13 => trivial) (fun L13 => ?_)
      refine Ag.aw_ret ?_
      refine Ag.ret_inB ?_
      refine Ag.ret_thn ?_
      refine Ag.ret_thn ?_
      refine Ag.ret_inB ?_
      refine Ag.ret_thn ?_
      refine Ag.fin_ret none [0] (.int .i64 (e1)) [] (.inr rfl) rfl (by kernel_rfl) trivial (fun w' hb => ?_)
      exact ⟨by simp only [Sb.frst, *, if_true, if_false, Bool.false_eq_true], hb⟩
    ·
      refine Ag.aw_skip ?_
      refine Ag.nrm_inB ?_
      refine Ag.nrm_thn ?_
      refine Ag.aw_region [⟨.pure, [], none, true⟩, ⟨.pure, [0], none, true⟩]
        (fun L14 => ⟨[some (.slice (some ⟨g, 0, none⟩) (3) (3)), some (undef), some (.int .i64 (0)), some (undef), some (.int .i64 (e1)), some (.slice (some ⟨g, 0, none⟩) (3) (3)), some (.int .i64 (3)), some (.int .i64 (2)), some (.bool (true)), some (.pointer (some ⟨g, 1, none⟩)), some (.int .i64 (e1)), some (.int .i64 (e1)), some (.bool ((e1) != (0))), some (undef), some (.int .i64 (2))], [.blk (g) [.int .i64 (e0), .int .i64 (e1), .int .i64 (e2)] 28 false], []⟩)
        (fun L14 => [])
        Ag.fol (by kernel_rfl) (fun _ => by kernel_rfl) (fun L14 => trivial) (fun L14 => ?_)
      refine Ag.nrm_thn ?_
      refine Ag.aw_round ?_
      refine Ag.aw_sr [⟨.pure, [], none, true⟩]
        (fun L15 => ⟨[some (.slice (some ⟨g, 0, none⟩) (3) (3)), some (undef), some (.int .i64 (0)), some (undef), some (.int .i64 (e1)), some (.slice (some ⟨g, 0, none⟩) (3) (3)), some (.int .i64 (3)), some (.int .i64 (2)), some (.bool (true)), some (.pointer (some ⟨g, 1, none⟩)), some (.int .i64 (e1)), some (.int .i64 (e1)), some (.bool ((e1) != (0))), some (undef), some (.int .i64 (2))], [.blk (g) [.int .i64 (e0), .int .i64 (e1), .int .i64 (e2)] 28 false], []⟩)
        (fun L15 => [])
        Ag.fol (by kernel_rfl) (fun _ => by kernel_rfl) (fun L15 => trivial) (fun L15 => ?_)
      refine Ag.aw_seq ?_
      refine Ag.aw_true (true) rfl rfl ?_
      refine Ag.aw_skip ?_
      refine Ag.nrm_thn ?_
      refine Ag.aw_seq ?_
      refine Ag.aw_block ?_
      refine Ag.aw_sr [⟨.pure, [], none, true⟩, ⟨(.read 0), [0], none, true⟩, ⟨.pure, [0, 1], none, true⟩]
        (fun L16 => ⟨[some (.slice (some ⟨g, 0, none⟩) (3) (3)), some (undef), some (.int .i64 (0)), some (undef), some (.int .i64 (e2)), some (.slice (some ⟨g, 0, none⟩) (3) (3)), some (.int .i64 (3)), some (.int .i64 (2)), some (.bool (true)), some (.pointer (some ⟨g, 2, none⟩)), some (.int .i64 (e2)), some (.int .i64 (e1)), some (.bool ((e1) != (0))), some (undef), some (.int .i64 (2))], [.blk (g) [.int .i64 (e0), .int .i64 (e1), .int .i64 (e2)] 28 false], []⟩)
        (fun L16 => [g = g])
        Ag.fol (by kernel_rfl) (fun _ => by kernel_rfl) (fun L16 => ⟨rfl, trivial⟩) (fun L16 => ?_)
      refine Ag.aw_sr [⟨.pure, [], none, true⟩, ⟨.pure, [0], none, true⟩]
        (fun L17 => ⟨[some (.slice (some ⟨g, 0, none⟩) (3) (3)), some (undef), some (.int .i64 (0)), some (undef), some (.int .i64 (e2)), some (.slice (some ⟨g, 0, none⟩) (3) (3)), some (.int .i64 (3)), some (.int .i64 (2)), some (.bool (true)), some (.pointer (some ⟨g, 2, none⟩)), some (.int .i64 (e2)), some (.int .i64 (e2)), some (.bool ((e2) != (0))), some (undef), some (.int .i64 (2))], [.blk (g) [.int .i64 (e0), .int .i64 (e1), .int .i64 (e2)] 28 false], []⟩)
        (fun L17 => [])
        Ag.fol (by kernel_rfl) (fun _ => by kernel_rfl) (fun L17 => trivial) (fun L17 => ?_)
      refine Ag.aw_cond ((e2) != (0)) rfl (fun h18 => ?_) (fun h18 => ?_)
      ·
        refine Ag.aw_sr [⟨.pure, [], none, true⟩, ⟨.pure, [0], none, true⟩]
          (fun L19 => ⟨[some (.slice (some ⟨g, 0, none⟩) (3) (3)), some (undef), some (.int .i64 (e2)), some (undef), some (.int .i64 (e2)), some (.slice (some ⟨g, 0, none⟩) (3) (3)), some (.int .i64 (3)), some (.int .i64 (2)), some (.bool (true)), some (.pointer (some ⟨g, 2, none⟩)), some (.int .i64 (e2)), some (.int .i64 (e2)), some (.bool ((e2) != (0))), some (.int .i64 (e2)), some (.int .i64 (2))], [.blk (g) [.int .i64 (e0), .int .i64 (e1), .int .i64 (e2)] 28 false], []⟩)
          (fun L19 => [])
          Ag.fol (by kernel_rfl) (fun _ => by kernel_rfl) (fun L19 => trivial) (fun L19 => ?_)
        refine Ag.aw_ret ?_
        refine Ag.ret_inB ?_
        refine Ag.ret_thn ?_
        refine Ag.ret_thn ?_
        refine Ag.ret_inB ?_
        refine Ag.ret_thn ?_
        refine Ag.fin_ret none [0] (.int .i64 (e2)) [] (.inr rfl) rfl (by kernel_rfl) trivial (fun w' hb => ?_)
        exact ⟨by simp only [Sb.frst, *, if_true, if_false, Bool.false_eq_true], hb⟩
      ·
        refine Ag.aw_skip ?_
        refine Ag.nrm_inB ?_
        refine Ag.nrm_thn ?_
        refine Ag.aw_region [⟨.pure, [], none, true⟩, ⟨.pure, [0], none, true⟩]
          (fun L20 => ⟨[some (.slice (some ⟨g, 0, none⟩) (3) (3)), some (undef), some (.int .i64 (0)), some (undef), some (.int .i64 (e2)), some (.slice (some ⟨g, 0, none⟩) (3) (3)), some (.int .i64 (3)), some (.int .i64 (3)), some (.bool (true)), some (.pointer (some ⟨g, 2, none⟩)), some (.int .i64 (e2)), some (.int .i64 (e2)), some (.bool ((e2) != (0))), some (undef), some (.int .i64 (3))], [.blk (g) [.int .i64 (e0), .int .i64 (e1), .int .i64 (e2)] 28 false], []⟩)
          (fun L20 => [])
          Ag.fol (by kernel_rfl) (fun _ => by kernel_rfl) (fun L20 => trivial) (fun L20 => ?_)
        refine Ag.nrm_thn ?_
        refine Ag.aw_round ?_
        refine Ag.aw_sr [⟨.pure, [], none, true⟩]
          (fun L21 => ⟨[some (.slice (some ⟨g, 0, none⟩) (3) (3)), some (undef), some (.int .i64 (0)), some (undef), some (.int .i64 (e2)), some (.slice (some ⟨g, 0, none⟩) (3) (3)), some (.int .i64 (3)), some (.int .i64 (3)), some (.bool (false)), some (.pointer (some ⟨g, 2, none⟩)), some (.int .i64 (e2)), some (.int .i64 (e2)), some (.bool ((e2) != (0))), some (undef), some (.int .i64 (3))], [.blk (g) [.int .i64 (e0), .int .i64 (e1), .int .i64 (e2)] 28 false], []⟩)
          (fun L21 => [])
          Ag.fol (by kernel_rfl) (fun _ => by kernel_rfl) (fun L21 => trivial) (fun L21 => ?_)
        refine Ag.aw_seq ?_
        refine Ag.aw_false (false) rfl rfl ?_
        refine Ag.aw_exit ?_
        refine Ag.ex_thn ?_
        refine Ag.ex_thn ?_
        refine Ag.ex_hit ?_
        refine Ag.nrm_thn ?_
        refine Ag.aw_sr [⟨.pure, [], none, true⟩]
          (fun L22 => ⟨[some (.slice (some ⟨g, 0, none⟩) (3) (3)), some (undef), some (.int .i64 (0)), some (undef), some (.int .i64 (e2)), some (.slice (some ⟨g, 0, none⟩) (3) (3)), some (.int .i64 (3)), some (.int .i64 (3)), some (.bool (false)), some (.pointer (some ⟨g, 2, none⟩)), some (.int .i64 (e2)), some (.int .i64 (e2)), some (.bool ((e2) != (0))), some (undef), some (.int .i64 (3))], [.blk (g) [.int .i64 (e0), .int .i64 (e1), .int .i64 (e2)] 28 false], []⟩)
          (fun L22 => [])
          Ag.fol (by kernel_rfl) (fun _ => by kernel_rfl) (fun L22 => trivial) (fun L22 => ?_)
        refine Ag.aw_ret ?_
        refine Ag.fin_ret none [0] (.int .i64 (0)) [] (.inr rfl) rfl (by kernel_rfl) trivial (fun w' hb => ?_)
        exact ⟨by simp only [Sb.frst, *, if_true, if_false, Bool.false_eq_true], hb⟩

set_option maxRecDepth 100000 in
set_option maxHeartbeats 400000 in
theorem Sb.firstOf4 (g : Nat) (e0 e1 e2 e3 : Int) : Ag.CallOb Try.prog 23 #[.slice (some ⟨g, 0, none⟩) (4) (4)] [.blk (g) [.int .i64 (e0), .int .i64 (e1), .int .i64 (e2), .int .i64 (e3)] 28 false] (.int .i64 (Sb.frst [e0, e1, e2, e3])) := by
  intro w hw
  refine Ag.calls_aw [some (.slice (some ⟨g, 0, none⟩) (4) (4)), some (undef), some (undef), some (undef), some (undef), some (undef), some (undef), some (undef), some (undef), some (undef), some (undef), some (undef), some (undef), some (undef), some (undef)] [.blk (g) [.int .i64 (e0), .int .i64 (e1), .int .i64 (e2), .int .i64 (e3)] 28 false] Try.func23 rfl (by kernel_rfl) (Ag.esOk hw (by simp [Ag.Cel.mine])) ?_
  refine Ag.aw_sr [⟨.pure, [], none, true⟩]
    (fun L1 => ⟨[some (.slice (some ⟨g, 0, none⟩) (4) (4)), some (undef), some (.int .i64 (0)), some (undef), some (undef), some (undef), some (undef), some (undef), some (undef), some (undef), some (undef), some (undef), some (undef), some (undef), some (undef)], [.blk (g) [.int .i64 (e0), .int .i64 (e1), .int .i64 (e2), .int .i64 (e3)] 28 false], []⟩)
    (fun L1 => [])
    Ag.fol (by kernel_rfl) (fun _ => by kernel_rfl) (fun L1 => trivial) (fun L1 => ?_)
  refine Ag.aw_seq ?_
  refine Ag.aw_sr [⟨.pure, [], none, true⟩, ⟨.pure, [0], none, true⟩, ⟨.pure, [], none, true⟩]
    (fun L2 => ⟨[some (.slice (some ⟨g, 0, none⟩) (4) (4)), some (undef), some (.int .i64 (0)), some (undef), some (undef), some (.slice (some ⟨g, 0, none⟩) (4) (4)), some (.int .i64 (4)), some (.int .i64 (0)), some (undef), some (undef), some (undef), some (undef), some (undef), some (undef), some (undef)], [.blk (g) [.int .i64 (e0), .int .i64 (e1), .int .i64 (e2), .int .i64 (e3)] 28 false], []⟩)
    (fun L2 => [])
    Ag.fol (by kernel_rfl) (fun _ => by kernel_rfl) (fun L2 => trivial) (fun L2 => ?_)
  refine Ag.aw_block ?_
  refine Ag.aw_rounds 5 ?_
  refine Ag.aw_round ?_
  refine Ag.aw_sr [⟨.pure, [], none, true⟩]
    (fun L3 => ⟨[some (.slice (some ⟨g, 0, none⟩) (4) (4)), some (undef), some (.int .i64 (0)), some (undef), some (undef), some (.slice (some ⟨g, 0, none⟩) (4) (4)), some (.int .i64 (4)), some (.int .i64 (0)), some (.bool (true)), some (undef), some (undef), some (undef), some (undef), some (undef), some (undef)], [.blk (g) [.int .i64 (e0), .int .i64 (e1), .int .i64 (e2), .int .i64 (e3)] 28 false], []⟩)
    (fun L3 => [])
    Ag.fol (by kernel_rfl) (fun _ => by kernel_rfl) (fun L3 => trivial) (fun L3 => ?_)
  refine Ag.aw_seq ?_
  refine Ag.aw_true (true) rfl rfl ?_
  refine Ag.aw_skip ?_
  refine Ag.nrm_thn ?_
  refine Ag.aw_seq ?_
  refine Ag.aw_block ?_
  refine Ag.aw_sr [⟨.pure, [], none, true⟩, ⟨(.read 0), [0], none, true⟩, ⟨.pure, [0, 1], none, true⟩]
    (fun L4 => ⟨[some (.slice (some ⟨g, 0, none⟩) (4) (4)), some (undef), some (.int .i64 (0)), some (undef), some (.int .i64 (e0)), some (.slice (some ⟨g, 0, none⟩) (4) (4)), some (.int .i64 (4)), some (.int .i64 (0)), some (.bool (true)), some (.pointer (some ⟨g, 0, none⟩)), some (.int .i64 (e0)), some (undef), some (undef), some (undef), some (undef)], [.blk (g) [.int .i64 (e0), .int .i64 (e1), .int .i64 (e2), .int .i64 (e3)] 28 false], []⟩)
    (fun L4 => [g = g])
    Ag.fol (by kernel_rfl) (fun _ => by kernel_rfl) (fun L4 => ⟨rfl, trivial⟩) (fun L4 => ?_)
  refine Ag.aw_sr [⟨.pure, [], none, true⟩, ⟨.pure, [0], none, true⟩]
    (fun L5 => ⟨[some (.slice (some ⟨g, 0, none⟩) (4) (4)), some (undef), some (.int .i64 (0)), some (undef), some (.int .i64 (e0)), some (.slice (some ⟨g, 0, none⟩) (4) (4)), some (.int .i64 (4)), some (.int .i64 (0)), some (.bool (true)), some (.pointer (some ⟨g, 0, none⟩)), some (.int .i64 (e0)), some (.int .i64 (e0)), some (.bool ((e0) != (0))), some (undef), some (undef)], [.blk (g) [.int .i64 (e0), .int .i64 (e1), .int .i64 (e2), .int .i64 (e3)] 28 false], []⟩)
    (fun L5 => [])
    Ag.fol (by kernel_rfl) (fun _ => by kernel_rfl) (fun L5 => trivial) (fun L5 => ?_)
  refine Ag.aw_cond ((e0) != (0)) rfl (fun h6 => ?_) (fun h6 => ?_)
  ·
    refine Ag.aw_sr [⟨.pure, [], none, true⟩, ⟨.pure, [0], none, true⟩]
      (fun L7 => ⟨[some (.slice (some ⟨g, 0, none⟩) (4) (4)), some (undef), some (.int .i64 (e0)), some (undef), some (.int .i64 (e0)), some (.slice (some ⟨g, 0, none⟩) (4) (4)), some (.int .i64 (4)), some (.int .i64 (0)), some (.bool (true)), some (.pointer (some ⟨g, 0, none⟩)), some (.int .i64 (e0)), some (.int .i64 (e0)), some (.bool ((e0) != (0))), some (.int .i64 (e0)), some (undef)], [.blk (g) [.int .i64 (e0), .int .i64 (e1), .int .i64 (e2), .int .i64 (e3)] 28 false], []⟩)
      (fun L7 => [])
      Ag.fol (by kernel_rfl) (fun _ => by kernel_rfl) (fun L7 => trivial) (fun L7 => ?_)
    refine Ag.aw_ret ?_
    refine Ag.ret_inB ?_
    refine Ag.ret_thn ?_
    refine Ag.ret_thn ?_
    refine Ag.ret_inB ?_
    refine Ag.ret_thn ?_
    refine Ag.fin_ret none [0] (.int .i64 (e0)) [] (.inr rfl) rfl (by kernel_rfl) trivial (fun w' hb => ?_)
    exact ⟨by simp only [Sb.frst, *, if_true, if_false, Bool.false_eq_true], hb⟩
  ·
    refine Ag.aw_skip ?_
    refine Ag.nrm_inB ?_
    refine Ag.nrm_thn ?_
    refine Ag.aw_region [⟨.pure, [], none, true⟩, ⟨.pure, [0], none, true⟩]
      (fun L8 => ⟨[some (.slice (some ⟨g, 0, none⟩) (4) (4)), some (undef), some (.int .i64 (0)), some (undef), some (.int .i64 (e0)), some (.slice (some ⟨g, 0, none⟩) (4) (4)), some (.int .i64 (4)), some (.int .i64 (1)), some (.bool (true)), some (.pointer (some ⟨g, 0, none⟩)), some (.int .i64 (e0)), some (.int .i64 (e0)), some (.bool ((e0) != (0))), some (undef), some (.int .i64 (1))], [.blk (g) [.int .i64 (e0), .int .i64 (e1), .int .i64 (e2), .int .i64 (e3)] 28 false], []⟩)
      (fun L8 => [])
      Ag.fol (by kernel_rfl) (fun _ => by kernel_rfl) (fun L8 => trivial) (fun L8 => ?_)
    refine Ag.nrm_thn ?_
    refine Ag.aw_round ?_
    refine Ag.aw_sr [⟨.pure, [], none, true⟩]
      (fun L9 => ⟨[some (.slice (some ⟨g, 0, none⟩) (4) (4)), some (undef), some (.int .i64 (0)), some (undef), some (.int .i64 (e0)), some (.slice (some ⟨g, 0, none⟩) (4) (4)), some (.int .i64 (4)), some (.int .i64 (1)), some (.bool (true)), some (.pointer (some ⟨g, 0, none⟩)), some (.int .i64 (e0)), some (.int .i64 (e0)), some (.bool ((e0) != (0))), some (undef), some (.int .i64 (1))], [.blk (g) [.int .i64 (e0), .int .i64 (e1), .int .i64 (e2), .int .i64 (e3)] 28 false], []⟩)
      (fun L9 => [])
      Ag.fol (by kernel_rfl) (fun _ => by kernel_rfl) (fun L9 => trivial) (fun L9 => ?_)
    refine Ag.aw_seq ?_
    refine Ag.aw_true (true) rfl rfl ?_
    refine Ag.aw_skip ?_
    refine Ag.nrm_thn ?_
    refine Ag.aw_seq ?_
    refine Ag.aw_block ?_
    refine Ag.aw_sr [⟨.pure, [], none, true⟩, ⟨(.read 0), [0], none, true⟩, ⟨.pure, [0, 1], none, true⟩]
      (fun L10 => ⟨[some (.slice (some ⟨g, 0, none⟩) (4) (4)), some (undef), some (.int .i64 (0)), some (undef), some (.int .i64 (e1)), some (.slice (some ⟨g, 0, none⟩) (4) (4)), some (.int .i64 (4)), some (.int .i64 (1)), some (.bool (true)), some (.pointer (some ⟨g, 1, none⟩)), some (.int .i64 (e1)), some (.int .i64 (e0)), some (.bool ((e0) != (0))), some (undef), some (.int .i64 (1))], [.blk (g) [.int .i64 (e0), .int .i64 (e1), .int .i64 (e2), .int .i64 (e3)] 28 false], []⟩)
      (fun L10 => [g = g])
      Ag.fol (by kernel_rfl) (fun _ => by kernel_rfl) (fun L10 => ⟨rfl, trivial⟩) (fun L10 => ?_)
    refine Ag.aw_sr [⟨.pure, [], none, true⟩, ⟨.pure, [0], none, true⟩]
      (fun L11 => ⟨[some (.slice (some ⟨g, 0, none⟩) (4) (4)), some (undef), some (.int .i64 (0)), some (undef), some (.int .i64 (e1)), some (.slice (some ⟨g, 0, none⟩) (4) (4)), some (.int .i64 (4)), some (.int .i64 (1)), some (.bool (true)), some (.pointer (some ⟨g, 1, none⟩)), some (.int .i64 (e1)), some (.int .i64 (e1)), some (.bool ((e1) != (0))), some (undef), some (.int .i64 (1))], [.blk (g) [.int .i64 (e0), .int .i64 (e1), .int .i64 (e2), .int .i64 (e3)] 28 false], []⟩)
      (fun L11 => [])
      Ag.fol (by kernel_rfl) (fun _ => by kernel_rfl) (fun L11 => trivial) (fun L11 => ?_)
    refine Ag.aw_cond ((e1) != (0)) rfl (fun h12 => ?_) (fun h12 => ?_)
    ·
      refine Ag.aw_sr [⟨.pure, [], none, true⟩, ⟨.pure, [0], none, true⟩]
        (fun L13 => ⟨[some (.slice (some ⟨g, 0, none⟩) (4) (4)), some (undef), some (.int .i64 (e1)), some (undef), some (.int .i64 (e1)), some (.slice (some ⟨g, 0, none⟩) (4) (4)), some (.int .i64 (4)), some (.int .i64 (1)), some (.bool (true)), some (.pointer (some ⟨g, 1, none⟩)), some (.int .i64 (e1)), some (.int .i64 (e1)), some (.bool ((e1) != (0))), some (.int .i64 (e1)), some (.int .i64 (1))], [.blk (g) [.int .i64 (e0), .int .i64 (e1), .int .i64 (e2), .int .i64 (e3)] 28 false], []⟩)
        (fun L13 => [])
        Ag.fol (by kernel_rfl) (fun _ => by kernel_rfl) (fun L13 => trivial) (fun L13 => ?_)
      refine Ag.aw_ret ?_
      refine Ag.ret_inB ?_
      refine Ag.ret_thn ?_
      refine Ag.ret_thn ?_
      refine Ag.ret_inB ?_
      refine Ag.ret_thn ?_
      refine Ag.fin_ret none [0] (.int .i64 (e1)) [] (.inr rfl) rfl (by kernel_rfl) trivial (fun w' hb => ?_)
      exact ⟨by simp only [Sb.frst, *, if_true, if_false, Bool.false_eq_true], hb⟩
    ·
      refine Ag.aw_skip ?_
      refine Ag.nrm_inB ?_
      refine Ag.nrm_thn ?_
      refine Ag.aw_region [⟨.pure, [], none, true⟩, ⟨.pure, [0], none, true⟩]
        (fun L14 => ⟨[some (.slice (some ⟨g, 0, none⟩) (4) (4)), some (undef), some (.int .i64 (0)), some (undef), some (.int .i64 (e1)), some (.slice (some ⟨g, 0, none⟩) (4) (4)), some (.int .i64 (4)), some (.int .i64 (2)), some (.bool (true)), some (.pointer (some ⟨g, 1, none⟩)), some (.int .i64 (e1)), some (.int .i64 (e1)), some (.bool ((e1) != (0))), some (undef), some (.int .i64 (2))], [.blk (g) [.int .i64 (e0), .int .i64 (e1), .int .i64 (e2), .int .i64 (e3)] 28 false], []⟩)
        (fun L14 => [])
        Ag.fol (by kernel_rfl) (fun _ => by kernel_rfl) (fun L14 => trivial) (fun L14 => ?_)
      refine Ag.nrm_thn ?_
      refine Ag.aw_round ?_
      refine Ag.aw_sr [⟨.pure, [], none, true⟩]
        (fun L15 => ⟨[some (.slice (some ⟨g, 0, none⟩) (4) (4)), some (undef), some (.int .i64 (0)), some (undef), some (.int .i64 (e1)), some (.slice (some ⟨g, 0, none⟩) (4) (4)), some (.int .i64 (4)), some (.int .i64 (2)), some (.bool (true)), some (.pointer (some ⟨g, 1, none⟩)), some (.int .i64 (e1)), some (.int .i64 (e1)), some (.bool ((e1) != (0))), some (undef), some (.int .i64 (2))], [.blk (g) [.int .i64 (e0), .int .i64 (e1), .int .i64 (e2), .int .i64 (e3)] 28 false], []⟩)
        (fun L15 => [])
        Ag.fol (by kernel_rfl) (fun _ => by kernel_rfl) (fun L15 => trivial) (fun L15 => ?_)
      refine Ag.aw_seq ?_
      refine Ag.aw_true (true) rfl rfl ?_
      refine Ag.aw_skip ?_
      refine Ag.nrm_thn ?_
      refine Ag.aw_seq ?_
      refine Ag.aw_block ?_
      refine Ag.aw_sr [⟨.pure, [], none, true⟩, ⟨(.read 0), [0], none, true⟩, ⟨.pure, [0, 1], none, true⟩]
        (fun L16 => ⟨[some (.slice (some ⟨g, 0, none⟩) (4) (4)), some (undef), some (.int .i64 (0)), some (undef), some (.int .i64 (e2)), some (.slice (some ⟨g, 0, none⟩) (4) (4)), some (.int .i64 (4)), some (.int .i64 (2)), some (.bool (true)), some (.pointer (some ⟨g, 2, none⟩)), some (.int .i64 (e2)), some (.int .i64 (e1)), some (.bool ((e1) != (0))), some (undef), some (.int .i64 (2))], [.blk (g) [.int .i64 (e0), .int .i64 (e1), .int .i64 (e2), .int .i64 (e3)] 28 false], []⟩)
        (fun L16 => [g = g])
        Ag.fol (by kernel_rfl) (fun _ => by kernel_rfl) (fun L16 => ⟨rfl, trivial⟩) (fun L16 => ?_)
      refine Ag.aw_sr [⟨.pure, [], none, true⟩, ⟨.pure, [0], none, true⟩]
        (fun L17 => ⟨[some (.slice (some ⟨g, 0, none⟩) (4) (4)), some (undef), some (.int .i64 (0)), some (undef), some (.int .i64 (e2)), some (.slice (some ⟨g, 0, none⟩) (4) (4)), some (.int .i64 (4)), some (.int .i64 (2)), some (.bool (true)), some (.pointer (some ⟨g, 2, none⟩)), some (.int .i64 (e2)), some (.int .i64 (e2)), some (.bool ((e2) != (0))), some (undef), some (.int .i64 (2))], [.blk (g) [.int .i64 (e0), .int .i64 (e1), .int .i64 (e2), .int .i64 (e3)] 28 false], []⟩)
        (fun L17 => [])
        Ag.fol (by kernel_rfl) (fun _ => by kernel_rfl) (fun L17 => trivial) (fun L17 => ?_)
      refine Ag.aw_cond ((e2) != (0)) rfl (fun h18 => ?_) (fun h18 => ?_)
      ·
        refine Ag.aw_sr [⟨.pure, [], none, true⟩, ⟨.pure, [0], none, true⟩]
          (fun L19 => ⟨[some (.slice (some ⟨g, 0, none⟩) (4) (4)), some (undef), some (.int .i64 (e2)), some (undef), some (.int .i64 (e2)), some (.slice (some ⟨g, 0, none⟩) (4) (4)), some (.int .i64 (4)), some (.int .i64 (2)), some (.bool (true)), some (.pointer (some ⟨g, 2, none⟩)), some (.int .i64 (e2)), some (.int .i64 (e2)), some (.bool ((e2) != (0))), some (.int .i64 (e2)), some (.int .i64 (2))], [.blk (g) [.int .i64 (e0), .int .i64 (e1), .int .i64 (e2), .int .i64 (e3)] 28 false], []⟩)
          (fun L19 => [])
          Ag.fol (by kernel_rfl) (fun _ => by kernel_rfl) (fun L19 => trivial) (fun L19 => ?_)
        refine Ag.aw_ret ?_
        refine Ag.ret_inB ?_
        refine Ag.ret_thn ?_
        refine Ag.ret_thn ?_
        refine Ag.ret_inB ?_
        refine Ag.ret_thn ?_
        refine Ag.fin_ret none [0] (.int .i64 (e2)) [] (.inr rfl) rfl (by kernel_rfl) trivial (fun w' hb => ?_)
        exact ⟨by simp only [Sb.frst, *, if_true, if_false, Bool.false_eq_true], hb⟩
      ·
        refine Ag.aw_skip ?_
        refine Ag.nrm_inB ?_
        refine Ag.nrm_thn ?_
        refine Ag.aw_region [⟨.pure, [], none, true⟩, ⟨.pure, [0], none, true⟩]
          (fun L20 => ⟨[some (.slice (some ⟨g, 0, none⟩) (4) (4)), some (undef), some (.int .i64 (0)), some (undef), some (.int .i64 (e2)), some (.slice (some ⟨g, 0, none⟩) (4) (4)), some (.int .i64 (4)), some (.int .i64 (3)), some (.bool (true)), some (.pointer (some ⟨g, 2, none⟩)), some (.int .i64 (e2)), some (.int .i64 (e2)), some (.bool ((e2) != (0))), some (undef), some (.int .i64 (3))], [.blk (g) [.int .i64 (e0), .int .i64 (e1), .int .i64 (e2), .int .i64 (e3)] 28 false], []⟩)
          (fun L20 => [])
          Ag.fol (by kernel_rfl) (fun _ => by kernel_rfl) (fun L20 => trivial) (fun L20 => ?_)
        refine Ag.nrm_thn ?_
        refine Ag.aw_round ?_
        refine Ag.aw_sr [⟨.pure, [], none, true⟩]
          (fun L21 => ⟨[some (.slice (some ⟨g, 0, none⟩) (4) (4)), some (undef), some (.int .i64 (0)), some (undef), some (.int .i64 (e2)), some (.slice (some ⟨g, 0, none⟩) (4) (4)), some (.int .i64 (4)), some (.int .i64 (3)), some (.bool (true)), some (.pointer (some ⟨g, 2, none⟩)), some (.int .i64 (e2)), some (.int .i64 (e2)), some (.bool ((e2) != (0))), some (undef), some (.int .i64 (3))], [.blk (g) [.int .i64 (e0), .int .i64 (e1), .int .i64 (e2), .int .i64 (e3)] 28 false], []⟩)
          (fun L21 => [])
          Ag.fol (by kernel_rfl) (fun _ => by kernel_rfl) (fun L21 => trivial) (fun L21 => ?_)
        refine Ag.aw_seq ?_
        refine Ag.aw_true (true) rfl rfl ?_
        refine Ag.aw_skip ?_
        refine Ag.nrm_thn ?_
        refine Ag.aw_seq ?_
        refine Ag.aw_block ?_
        refine Ag.aw_sr [⟨.pure, [], none, true⟩, ⟨(.read 0), [0], none, true⟩, ⟨.pure, [0, 1], none, true⟩]
          (fun L22 => ⟨[some (.slice (some ⟨g, 0, none⟩) (4) (4)), some (undef), some (.int .i64 (0)), some (undef), some (.int .i64 (e3)), some (.slice (some ⟨g, 0, none⟩) (4) (4)), some (.int .i64 (4)), some (.int .i64 (3)), some (.bool (true)), some (.pointer (some ⟨g, 3, none⟩)), some (.int .i64 (e3)), some (.int .i64 (e2)), some (.bool ((e2) != (0))), some (undef), some (.int .i64 (3))], [.blk (g) [.int .i64 (e0), .int .i64 (e1), .int .i64 (e2), .int .i64 (e3)] 28 false], []⟩)
          (fun L22 => [g = g])
          Ag.fol (by kernel_rfl) (fun _ => by kernel_rfl) (fun L22 => ⟨rfl, trivial⟩) (fun L22 => ?_)
        refine Ag.aw_sr [⟨.pure, [], none, true⟩, ⟨.pure, [0], none, true⟩]
          (fun L23 => ⟨[some (.slice (some ⟨g, 0, none⟩) (4) (4)), some (undef), some (.int .i64 (0)), some (undef), some (.int .i64 (e3)), some (.slice (some ⟨g, 0, none⟩) (4) (4)), some (.int .i64 (4)), some (.int .i64 (3)), some (.bool (true)), some (.pointer (some ⟨g, 3, none⟩)), some (.int .i64 (e3)), some (.int .i64 (e3)), some (.bool ((e3) != (0))), some (undef), some (.int .i64 (3))], [.blk (g) [.int .i64 (e0), .int .i64 (e1), .int .i64 (e2), .int .i64 (e3)] 28 false], []⟩)
          (fun L23 => [])
          Ag.fol (by kernel_rfl) (fun _ => by kernel_rfl) (fun L23 => trivial) (fun L23 => ?_)
        refine Ag.aw_cond ((e3) != (0)) rfl (fun h24 => ?_) (fun h24 => ?_)
        ·
          refine Ag.aw_sr [⟨.pure, [], none, true⟩, ⟨.pure, [0], none, true⟩]
            (fun L25 => ⟨[some (.slice (some ⟨g, 0, none⟩) (4) (4)), some (undef), some (.int .i64 (e3)), some (undef), some (.int .i64 (e3)), some (.slice (some ⟨g, 0, none⟩) (4) (4)), some (.int .i64 (4)), some (.int .i64 (3)), some (.bool (true)), some (.pointer (some ⟨g, 3, none⟩)), some (.int .i64 (e3)), some (.int .i64 (e3)), some (.bool ((e3) != (0))), some (.int .i64 (e3)), some (.int .i64 (3))], [.blk (g) [.int .i64 (e0), .int .i64 (e1), .int .i64 (e2), .int .i64 (e3)] 28 false], []⟩)
            (fun L25 => [])
            Ag.fol (by kernel_rfl) (fun _ => by kernel_rfl) (fun L25 => trivial) (fun L25 => ?_)
          refine Ag.aw_ret ?_
          refine Ag.ret_inB ?_
          refine Ag.ret_thn ?_
          refine Ag.ret_thn ?_
          refine Ag.ret_inB ?_
          refine Ag.ret_thn ?_
          refine Ag.fin_ret none [0] (.int .i64 (e3)) [] (.inr rfl) rfl (by kernel_rfl) trivial (fun w' hb => ?_)
          exact ⟨by simp only [Sb.frst, *, if_true, if_false, Bool.false_eq_true], hb⟩
        ·
          refine Ag.aw_skip ?_
          refine Ag.nrm_inB ?_
          refine Ag.nrm_thn ?_
          refine Ag.aw_region [⟨.pure, [], none, true⟩, ⟨.pure, [0], none, true⟩]
            (fun L26 => ⟨[some (.slice (some ⟨g, 0, none⟩) (4) (4)), some (undef), some (.int .i64 (0)), some (undef), some (.int .i64 (e3)), some (.slice (some ⟨g, 0, none⟩) (4) (4)), some (.int .i64 (4)), some (.int .i64 (4)), some (.bool (true)), some (.pointer (some ⟨g, 3, none⟩)), some (.int .i64 (e3)), some (.int .i64 (e3)), some (.bool ((e3) != (0))), some (undef), some (.int .i64 (4))], [.blk (g) [.int .i64 (e0), .int .i64 (e1), .int .i64 (e2), .int .i64 (e3)] 28 false], []⟩)
            (fun L26 => [])
            Ag.fol (by kernel_rfl) (fun _ => by kernel_rfl) (fun L26 => trivial) (fun L26 => ?_)
          refine Ag.nrm_thn ?_
          refine Ag.aw_round ?_
          refine Ag.aw_sr [⟨.pure, [], none, true⟩]
            (fun L27 => ⟨[some (.slice (some ⟨g, 0, none⟩) (4) (4)), some (undef), some (.int .i64 (0)), some (undef), some (.int .i64 (e3)), some (.slice (some ⟨g, 0, none⟩) (4) (4)), some (.int .i64 (4)), some (.int .i64 (4)), some (.bool (false)), some (.pointer (some ⟨g, 3, none⟩)), some (.int .i64 (e3)), some (.int .i64 (e3)), some (.bool ((e3) != (0))), some (undef), some (.int .i64 (4))], [.blk (g) [.int .i64 (e0), .int .i64 (e1), .int .i64 (e2), .int .i64 (e3)] 28 false], []⟩)
            (fun L27 => [])
            Ag.fol (by kernel_rfl) (fun _ => by kernel_rfl) (fun L27 => trivial) (fun L27 => ?_)
          refine Ag.aw_seq ?_
          refine Ag.aw_false (false) rfl rfl ?_
          refine Ag.aw_exit ?_
          refine Ag.ex_thn ?_
          refine Ag.ex_thn ?_
          refine Ag.ex_hit ?_
          refine Ag.nrm_thn ?_
          refine Ag.aw_sr [⟨.pure, [], none, true⟩]
            (fun L28 => ⟨[some (.slice (some ⟨g, 0, none⟩) (4) (4)), some (undef), some (.int .i64 (0)), some (undef), some (.int .i64 (e3)), some (.slice (some ⟨g, 0, none⟩) (4) (4)), some (.int .i64 (4)), some (.int .i64 (4)), some (.bool (false)), some (.pointer (some ⟨g, 3, none⟩)), some (.int .i64 (e3)), some (.int .i64 (e3)), some (.bool ((e3) != (0))), some (undef), some (.int .i64 (4))], [.blk (g) [.int .i64 (e0), .int .i64 (e1), .int .i64 (e2), .int .i64 (e3)] 28 false], []⟩)
            (fun L28 => [])
            Ag.fol (by kernel_rfl) (fun _ => by kernel_rfl) (fun L28 => trivial) (fun L28 => ?_)
          refine Ag.aw_ret ?_
          refine Ag.fin_ret none [0] (.int .i64 (0)) [] (.inr rfl) rfl (by kernel_rfl) trivial (fun w' hb => ?_)
          exact ⟨by simp only [Sb.frst, *, if_true, if_false, Bool.false_eq_true], hb⟩

set_option maxRecDepth 100000 in
set_option maxHeartbeats 400000 in
theorem Sb.rangeError (n a b : Int) : Ag.CallOb Try.prog 27 #[.int .i64 (n), .int .i64 (a), .int .i64 (b)] [] (.int .i64 (Sb.unl (Sb.inB n a b) 2)) := by
  intro w hw
  refine Ag.calls_aw [some (.int .i64 (n)), some (.int .i64 (a)), some (.int .i64 (b)), some (undef), some (undef), some (undef), some (undef), some (undef), some (undef), some (undef), some (undef), some (undef)] [] Try.func27 rfl (by kernel_rfl) (fun e x h => by cases h) ?_
  refine Ag.aw_sr [⟨.pure, [], none, true⟩]
    (fun L1 => ⟨[some (.int .i64 (n)), some (.int .i64 (a)), some (.int .i64 (b)), some (undef), some (undef), some (undef), some (.int .i64 (0)), some (undef), some (undef), some (undef), some (undef), some (undef)], [], []⟩)
    (fun L1 => [])
    Ag.fol (by kernel_rfl) (fun _ => by kernel_rfl) (fun L1 => trivial) (fun L1 => ?_)
  refine Ag.aw_sr [⟨.pure, [], none, true⟩, ⟨.pure, [], none, true⟩, ⟨.pure, [], none, true⟩, ⟨(.call [] (.bool (Sb.inB (n) (a) (b)))), [0, 1, 2], none, true⟩, ⟨(.call [] (.int .i64 (Sb.unl (Sb.inB (n) (a) (b)) (2)))), [0, 1, 2, 3], none, true⟩, ⟨.pure, [0, 1, 2, 3, 4], none, true⟩]
    (fun L2 => ⟨[some (.int .i64 (n)), some (.int .i64 (a)), some (.int .i64 (b)), some (undef), some (undef), some (undef), some (.int .i64 (Sb.unl (Sb.inB (n) (a) (b)) (2))), some (.int .i64 (n)), some (.int .i64 (a)), some (.int .i64 (b)), some (.bool (Sb.inB (n) (a) (b))), some (.int .i64 (Sb.unl (Sb.inB (n) (a) (b)) (2)))], [], []⟩)
    (fun L2 => [Ag.CallOb Try.prog 41 #[.int .i64 (n), .int .i64 (a), .int .i64 (b)] [] (.bool (Sb.inB (n) (a) (b))), Ag.CallOb Try.prog 24 #[.bool (Sb.inB (n) (a) (b)), .int .i64 (2)] [] (.int .i64 (Sb.unl (Sb.inB (n) (a) (b)) (2)))])
    Ag.fol (by kernel_rfl) (fun _ => by kernel_rfl) (fun L2 => ⟨(Sb.within _ _ _), (Sb.unless _ _), trivial⟩) (fun L2 => ?_)
  refine Ag.aw_ret ?_
  refine Ag.fin_ret none [0] (.int .i64 (Sb.unl (Sb.inB (n) (a) (b)) (2))) [] (.inr rfl) rfl (by kernel_rfl) trivial (fun w' hb => ?_)
  exact ⟨rfl, hb⟩

theorem Sb.small_unl (b : Bool) {e M : Int} (h : 0 ≤ e ∧ e ≤ M) : 0 ≤ Sb.unl b e ∧ Sb.unl b e ≤ M := by
  unfold Sb.unl; split <;> omega
theorem Sb.small_frst {M : Int} (hM : 0 ≤ M) : ∀ {l : List Int}, (∀ e ∈ l, 0 ≤ e ∧ e ≤ M) → 0 ≤ Sb.frst l ∧ Sb.frst l ≤ M
  | [], _ => ⟨Int.le_refl _, hM⟩
  | e :: l, h => by
    unfold Sb.frst
    split
    · exact h e (by simp)
    · exact Sb.small_frst hM fun x hx => h x (List.mem_cons_of_mem _ hx)
theorem Sb.small_endsE (l h a b : Int) : 0 ≤ Sb.endsE l h a b ∧ Sb.endsE l h a b ≤ 9 := by
  refine Sb.small_frst (by omega) ?_
  intro e he
  simp only [List.mem_cons, List.not_mem_nil, or_false] at he
  rcases he with rfl | rfl | rfl <;> exact Sb.small_unl _ (by omega)
theorem Sb.wrap_small {e : Int} (h : 0 ≤ e ∧ e ≤ 1000) : IntKind.i64.wrap e = e := IntWalk.i64_in _ (by omega)
end Go.Proofs.Ytlpjnhoafaamkaa
