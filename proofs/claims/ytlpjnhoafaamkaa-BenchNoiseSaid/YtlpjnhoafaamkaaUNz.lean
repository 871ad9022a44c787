/-
  BENCHNOISE: the walks.
-/
import Derived.Test.YtlpjnhoafaamkaaSb
import Derived.Test.YtlpjnhoafaamkaaAgL
import Derived.Test.YtlpjnhoafaamkaaAgE
import Derived.Test.YtlpjnhoafaamkaaAgS
import Derived.Test.YtlpjnhoafaamkaaUB
set_option linter.unusedVariables false
set_option linter.unusedSimpArgs false
namespace Go.Proofs.Ytlpjnhoafaamkaa
open Go Go.RowKit

open Ag
namespace Nz
def st (s : Int) : Nat → Int
  | 0 => s
  | k + 1 => Int.tmod (IntKind.i64.wrap ((IntKind.i64.wrap ((1103515245) * (st s k))) + (12345))) (2147483648)
def dv (z : Int) : Int := IntKind.i64.wrap ((IntKind.i64.wrap ((2) * (z))) + (1))
def el (s z : Int) (k : Nat) : Int := IntKind.i64.wrap ((Int.tmod (IntKind.i64.wrap (Int.tdiv (st s (k + 1)) (65536))) (IntKind.i64.wrap ((IntKind.i64.wrap ((2) * (z))) + (1)))) - (z))
def ls (s z : Int) : Nat → List Int
  | 0 => []
  | k + 1 => ls s z k ++ [el s z k]
theorem ls_len (s z : Int) : ∀ k, (ls s z k).length = k
  | 0 => rfl
  | k + 1 => by simp [ls, ls_len s z k]
theorem ls_succ (s z : Int) (k : Nat) : ls s z (k + 1) = ls s z k ++ [el s z k] := rfl
def nerr (s z : Int) : Int := Sb.unl (Sb.inB s 0 2147483647 && Sb.inB z 0 200) 2
theorem wrap_succ {k : Nat} (h : k < 4611686018427387904) : Value.int .i64 (IntKind.i64.wrap (((k : Nat) : Int) + 1)) = .int .i64 (((k + 1 : Nat)) : Int) := by
  rw [IntWalk.i64_in _ (by omega)]; rfl
end Nz
set_option maxRecDepth 100000 in
set_option maxHeartbeats 400000 in
theorem Nz.noiseE (s z c : Int) (hE : (Sb.frst [Sb.unl (Sb.inB (s) (0) (2147483647)) 2, Sb.unl (Sb.inB (z) (0) (200)) 2, Sb.unl (Sb.inB (c) (0) (16384)) 2] != 0) = true) : CallOb Try.prog 11 #[aN s, aN z, aN c] [] (.tuple #[.slice none 0 0, .int .i64 (Sb.frst [Sb.unl (Sb.inB (s) (0) (2147483647)) 2, Sb.unl (Sb.inB (z) (0) (200)) 2, Sb.unl (Sb.inB (c) (0) (16384)) 2])]) := by
  intro w hw
  refine calls_aw [aI s, aI z, aI c, aU, aU, aU, aU, aU, aU, aU, aU, aU, aU, aU, aU, aU, aU, aU, aU, aU, aU, aU, aU, aU, aU, aU, aU, aU, aU, aU, aU, aU, aU, aU, aU, aU, aU, aU, aU, aU, aU, aU, aU] [] Try.func11 rfl (by kernel_rfl) (fun e x h => by cases h) ?_
  refine aw_sr [⟨.pure, [], none, true⟩, ⟨.pure, [0], none, true⟩]
    (fun L1 => ⟨[aI s, aI z, aI c, aU, aU, aU, some (.slice none 0 0), aI 0, aU, aU, aU, aU, aU, aU, aU, aU, aU, aU, aU, aU, aU, aU, aU, aU, aU, aU, aU, aU, aU, aU, aU, aU, aU, aU, aU, aU, aU, aU, aU, aU, aU, aU, aU], [], []⟩)
    (fun L1 => [])
    fol (by kernel_rfl) (fun _ => by kernel_rfl) (fun L1 => trivial) (fun L1 => ?_)
  refine aw_sr [⟨.pure, [], none, true⟩, ⟨(.call [] (.int .i64 (Sb.unl (Sb.inB (s) (0) (2147483647)) 2))), [0], none, true⟩, ⟨.pure, [], none, true⟩, ⟨(.call [] (.int .i64 (Sb.unl (Sb.inB (z) (0) (200)) 2))), [0, 1, 2], none, true⟩, ⟨.pure, [], none, true⟩, ⟨(.call [] (.int .i64 (Sb.unl (Sb.inB (c) (0) (16384)) 2))), [0, 1, 2, 3, 4], none, true⟩, ⟨.new, [0, 1, 2, 3, 4, 5], none, true⟩, ⟨(.call [6] (.int .i64 (Sb.frst [Sb.unl (Sb.inB (s) (0) (2147483647)) 2, Sb.unl (Sb.inB (z) (0) (200)) 2, Sb.unl (Sb.inB (c) (0) (16384)) 2]))), [0, 1, 2, 3, 4, 5, 6], none, true⟩, ⟨.pure, [0, 1, 2, 3, 4, 5, 6, 7], none, true⟩]
    (fun L2 => ⟨[aI s, aI z, aI c, aU, aU, aU, some (.slice none 0 0), aI 0, some (.int .i64 (Sb.frst [Sb.unl (Sb.inB (s) (0) (2147483647)) 2, Sb.unl (Sb.inB (z) (0) (200)) 2, Sb.unl (Sb.inB (c) (0) (16384)) 2])), aU, aU, aI s, some (.int .i64 (Sb.unl (Sb.inB (s) (0) (2147483647)) 2)), aI z, some (.int .i64 (Sb.unl (Sb.inB (z) (0) (200)) 2)), aI c, some (.int .i64 (Sb.unl (Sb.inB (c) (0) (16384)) 2)), aS (L2 6).b 0 3 3, some (.int .i64 (Sb.frst [Sb.unl (Sb.inB (s) (0) (2147483647)) 2, Sb.unl (Sb.inB (z) (0) (200)) 2, Sb.unl (Sb.inB (c) (0) (16384)) 2])), aU, aU, aU, aU, aU, aU, aU, aU, aU, aU, aU, aU, aU, aU, aU, aU, aU, aU, aU, aU, aU, aU, aU, aU], [.blk ((L2 6).b) [.int .i64 (Sb.unl (Sb.inB (s) (0) (2147483647)) 2), .int .i64 (Sb.unl (Sb.inB (z) (0) (200)) 2), .int .i64 (Sb.unl (Sb.inB (c) (0) (16384)) 2)] 28 true], []⟩)
    (fun L2 => [CallOb Try.prog 27 #[aN s, aN 0, aN 2147483647] [] (.int .i64 (Sb.unl (Sb.inB (s) (0) (2147483647)) 2)), CallOb Try.prog 27 #[aN z, aN 0, aN 200] [] (.int .i64 (Sb.unl (Sb.inB (z) (0) (200)) 2)), CallOb Try.prog 27 #[aN c, aN 0, aN 16384] [] (.int .i64 (Sb.unl (Sb.inB (c) (0) (16384)) 2)), CallOb Try.prog 23 #[.slice (some ⟨(L2 6).b, 0, none⟩) (3) (3)] [.blk ((L2 6).b) [.int .i64 (Sb.unl (Sb.inB (s) (0) (2147483647)) 2), .int .i64 (Sb.unl (Sb.inB (z) (0) (200)) 2), .int .i64 (Sb.unl (Sb.inB (c) (0) (16384)) 2)] 28 true] (.int .i64 (Sb.frst [Sb.unl (Sb.inB (s) (0) (2147483647)) 2, Sb.unl (Sb.inB (z) (0) (200)) 2, Sb.unl (Sb.inB (c) (0) (16384)) 2]))])
    fol (by kernel_rfl) (fun _ => by kernel_rfl) (fun L2 => ⟨(Sb.rangeError _ _ _), (Sb.rangeError _ _ _), (Sb.rangeError _ _ _), (callOb_frz (Sb.firstOf3 _ _ _ _)), trivial⟩) (fun L2 => ?_)
  refine aw_seq ?_
  refine aw_sr [⟨.pure, [], none, true⟩, ⟨.pure, [0], none, true⟩]
    (fun L3 => ⟨[aI s, aI z, aI c, aU, aU, aU, some (.slice none 0 0), aI 0, some (.int .i64 (Sb.frst [Sb.unl (Sb.inB (s) (0) (2147483647)) 2, Sb.unl (Sb.inB (z) (0) (200)) 2, Sb.unl (Sb.inB (c) (0) (16384)) 2])), aU, aU, aI s, some (.int .i64 (Sb.unl (Sb.inB (s) (0) (2147483647)) 2)), aI z, some (.int .i64 (Sb.unl (Sb.inB (z) (0) (200)) 2)), aI c, some (.int .i64 (Sb.unl (Sb.inB (c) (0) (16384)) 2)), aS (L2 6).b 0 3 3, some (.int .i64 (Sb.frst [Sb.unl (Sb.inB (s) (0) (2147483647)) 2, Sb.unl (Sb.inB (z) (0) (200)) 2, Sb.unl (Sb.inB (c) (0) (16384)) 2])), some (.int .i64 (Sb.frst [Sb.unl (Sb.inB (s) (0) (2147483647)) 2, Sb.unl (Sb.inB (z) (0) (200)) 2, Sb.unl (Sb.inB (c) (0) (16384)) 2])), some (.bool ((Sb.frst [Sb.unl (Sb.inB (s) (0) (2147483647)) 2, Sb.unl (Sb.inB (z) (0) (200)) 2, Sb.unl (Sb.inB (c) (0) (16384)) 2]) != (0))), aU, aU, aU, aU, aU, aU, aU, aU, aU, aU, aU, aU, aU, aU, aU, aU, aU, aU, aU, aU, aU, aU], [.blk ((L2 6).b) [.int .i64 (Sb.unl (Sb.inB (s) (0) (2147483647)) 2), .int .i64 (Sb.unl (Sb.inB (z) (0) (200)) 2), .int .i64 (Sb.unl (Sb.inB (c) (0) (16384)) 2)] 28 true], []⟩)
    (fun L3 => [])
    fol (by kernel_rfl) (fun _ => by kernel_rfl) (fun L3 => trivial) (fun L3 => ?_)
  refine aw_true ((Sb.frst [Sb.unl (Sb.inB (s) (0) (2147483647)) 2, Sb.unl (Sb.inB (z) (0) (200)) 2, Sb.unl (Sb.inB (c) (0) (16384)) 2]) != (0)) rfl hE ?_
  refine aw_sr [⟨.pure, [], none, true⟩, ⟨.pure, [], none, true⟩, ⟨.pure, [0, 1], none, true⟩]
    (fun L4 => ⟨[aI s, aI z, aI c, aU, aU, aU, some (.slice none 0 0), some (.int .i64 (Sb.frst [Sb.unl (Sb.inB (s) (0) (2147483647)) 2, Sb.unl (Sb.inB (z) (0) (200)) 2, Sb.unl (Sb.inB (c) (0) (16384)) 2])), some (.int .i64 (Sb.frst [Sb.unl (Sb.inB (s) (0) (2147483647)) 2, Sb.unl (Sb.inB (z) (0) (200)) 2, Sb.unl (Sb.inB (c) (0) (16384)) 2])), aU, aU, aI s, some (.int .i64 (Sb.unl (Sb.inB (s) (0) (2147483647)) 2)), aI z, some (.int .i64 (Sb.unl (Sb.inB (z) (0) (200)) 2)), aI c, some (.int .i64 (Sb.unl (Sb.inB (c) (0) (16384)) 2)), aS (L2 6).b 0 3 3, some (.int .i64 (Sb.frst [Sb.unl (Sb.inB (s) (0) (2147483647)) 2, Sb.unl (Sb.inB (z) (0) (200)) 2, Sb.unl (Sb.inB (c) (0) (16384)) 2])), some (.int .i64 (Sb.frst [Sb.unl (Sb.inB (s) (0) (2147483647)) 2, Sb.unl (Sb.inB (z) (0) (200)) 2, Sb.unl (Sb.inB (c) (0) (16384)) 2])), some (.bool ((Sb.frst [Sb.unl (Sb.inB (s) (0) (2147483647)) 2, Sb.unl (Sb.inB (z) (0) (200)) 2, Sb.unl (Sb.inB (c) (0) (16384)) 2]) != (0))), some (.int .i64 (Sb.frst [Sb.unl (Sb.inB (s) (0) (2147483647)) 2, Sb.unl (Sb.inB (z) (0) (200)) 2, Sb.unl (Sb.inB (c) (0) (16384)) 2])), aU, aU, aU, aU, aU, aU, aU, aU, aU, aU, aU, aU, aU, aU, aU, aU, aU, aU, aU, aU, aU], [.blk ((L2 6).b) [.int .i64 (Sb.unl (Sb.inB (s) (0) (2147483647)) 2), .int .i64 (Sb.unl (Sb.inB (z) (0) (200)) 2), .int .i64 (Sb.unl (Sb.inB (c) (0) (16384)) 2)] 28 true], []⟩)
    (fun L4 => [])
    fol (by kernel_rfl) (fun _ => by kernel_rfl) (fun L4 => trivial) (fun L4 => ?_)
  refine aw_ret ?_
  refine ret_thn ?_
  refine fin_ret none [0, 0] (.tuple #[.slice none 0 0, .int .i64 (Sb.frst [Sb.unl (Sb.inB (s) (0) (2147483647)) 2, Sb.unl (Sb.inB (z) (0) (200)) 2, Sb.unl (Sb.inB (c) (0) (16384)) 2])]) [] (.inr rfl) rfl (by kernel_rfl) trivial (fun w' hb => ?_)
  exact ⟨rfl, hb⟩

set_option maxRecDepth 100000 in
set_option maxHeartbeats 400000 in
theorem Nz.noiseO (s z : Int) (N : Nat) (hN : N ≤ 16384) (hd : IntKind.i64.wrap ((IntKind.i64.wrap ((2) * (z))) + (1)) ≠ 0) (hE : (Sb.frst [Sb.unl (Sb.inB (s) (0) (2147483647)) 2, Sb.unl (Sb.inB (z) (0) (200)) 2, Sb.unl (Sb.inB (((N : Nat) : Int)) (0) (16384)) 2] != 0) = false) : CallN Try.prog 11 #[aN s, aN z, .int .i64 (((N : Nat) : Int))] [] (fun l => .tuple #[.slice (l.a) (N) (l.n), aN 0]) (fun l => .row (l.a) (N) (l.n) 1 (iv (Nz.ls s z N)) 3 true) := by
  intro w hw
  refine calls_aw [aI s, aI z, some (.int .i64 (((N : Nat) : Int))), aU, aU, aU, aU, aU, aU, aU, aU, aU, aU, aU, aU, aU, aU, aU, aU, aU, aU, aU, aU, aU, aU, aU, aU, aU, aU, aU, aU, aU, aU, aU, aU, aU, aU, aU, aU, aU, aU, aU, aU] [] Try.func11 rfl (by kernel_rfl) (fun e x h => by cases h) ?_
  refine aw_sr [⟨.pure, [], none, true⟩, ⟨.pure, [0], none, true⟩]
    (fun L1 => ⟨[aI s, aI z, some (.int .i64 (((N : Nat) : Int))), aU, aU, aU, some (.slice none 0 0), aI 0, aU, aU, aU, aU, aU, aU, aU, aU, aU, aU, aU, aU, aU, aU, aU, aU, aU, aU, aU, aU, aU, aU, aU, aU, aU, aU, aU, aU, aU, aU, aU, aU, aU, aU, aU], [], []⟩)
    (fun L1 => [])
    fol (by kernel_rfl) (fun _ => by kernel_rfl) (fun L1 => trivial) (fun L1 => ?_)
  refine aw_sr [⟨.pure, [], none, true⟩, ⟨(.call [] (.int .i64 (Sb.unl (Sb.inB (s) (0) (2147483647)) 2))), [0], none, true⟩, ⟨.pure, [], none, true⟩, ⟨(.call [] (.int .i64 (Sb.unl (Sb.inB (z) (0) (200)) 2))), [0, 1, 2], none, true⟩, ⟨.pure, [], none, true⟩, ⟨(.call [] (.int .i64 (Sb.unl (Sb.inB (((N : Nat) : Int)) (0) (16384)) 2))), [0, 1, 2, 3, 4], none, true⟩, ⟨.new, [0, 1, 2, 3, 4, 5], none, true⟩, ⟨(.call [6] (.int .i64 (Sb.frst [Sb.unl (Sb.inB (s) (0) (2147483647)) 2, Sb.unl (Sb.inB (z) (0) (200)) 2, Sb.unl (Sb.inB (((N : Nat) : Int)) (0) (16384)) 2]))), [0, 1, 2, 3, 4, 5, 6], none, true⟩, ⟨.pure, [0, 1, 2, 3, 4, 5, 6, 7], none, true⟩]
    (fun L2 => ⟨[aI s, aI z, some (.int .i64 (((N : Nat) : Int))), aU, aU, aU, some (.slice none 0 0), aI 0, some (.int .i64 (Sb.frst [Sb.unl (Sb.inB (s) (0) (2147483647)) 2, Sb.unl (Sb.inB (z) (0) (200)) 2, Sb.unl (Sb.inB (((N : Nat) : Int)) (0) (16384)) 2])), aU, aU, aI s, some (.int .i64 (Sb.unl (Sb.inB (s) (0) (2147483647)) 2)), aI z, some (.int .i64 (Sb.unl (Sb.inB (z) (0) (200)) 2)), some (.int .i64 (((N : Nat) : Int))), some (.int .i64 (Sb.unl (Sb.inB (((N : Nat) : Int)) (0) (16384)) 2)), aS (L2 6).b 0 3 3, some (.int .i64 (Sb.frst [Sb.unl (Sb.inB (s) (0) (2147483647)) 2, Sb.unl (Sb.inB (z) (0) (200)) 2, Sb.unl (Sb.inB (((N : Nat) : Int)) (0) (16384)) 2])), aU, aU, aU, aU, aU, aU, aU, aU, aU, aU, aU, aU, aU, aU, aU, aU, aU, aU, aU, aU, aU, aU, aU, aU], [.blk ((L2 6).b) [.int .i64 (Sb.unl (Sb.inB (s) (0) (2147483647)) 2), .int .i64 (Sb.unl (Sb.inB (z) (0) (200)) 2), .int .i64 (Sb.unl (Sb.inB (((N : Nat) : Int)) (0) (16384)) 2)] 28 true], []⟩)
    (fun L2 => [CallOb Try.prog 27 #[aN s, aN 0, aN 2147483647] [] (.int .i64 (Sb.unl (Sb.inB (s) (0) (2147483647)) 2)), CallOb Try.prog 27 #[aN z, aN 0, aN 200] [] (.int .i64 (Sb.unl (Sb.inB (z) (0) (200)) 2)), CallOb Try.prog 27 #[.int .i64 (((N : Nat) : Int)), aN 0, aN 16384] [] (.int .i64 (Sb.unl (Sb.inB (((N : Nat) : Int)) (0) (16384)) 2)), CallOb Try.prog 23 #[.slice (some ⟨(L2 6).b, 0, none⟩) (3) (3)] [.blk ((L2 6).b) [.int .i64 (Sb.unl (Sb.inB (s) (0) (2147483647)) 2), .int .i64 (Sb.unl (Sb.inB (z) (0) (200)) 2), .int .i64 (Sb.unl (Sb.inB (((N : Nat) : Int)) (0) (16384)) 2)] 28 true] (.int .i64 (Sb.frst [Sb.unl (Sb.inB (s) (0) (2147483647)) 2, Sb.unl (Sb.inB (z) (0) (200)) 2, Sb.unl (Sb.inB (((N : Nat) : Int)) (0) (16384)) 2]))])
    fol (by kernel_rfl) (fun _ => by kernel_rfl) (fun L2 => ⟨(Sb.rangeError _ _ _), (Sb.rangeError _ _ _), (Sb.rangeError _ _ _), (callOb_frz (Sb.firstOf3 _ _ _ _)), trivial⟩) (fun L2 => ?_)
  refine aw_seq ?_
  refine aw_sr [⟨.pure, [], none, true⟩, ⟨.pure, [0], none, true⟩]
    (fun L3 => ⟨[aI s, aI z, some (.int .i64 (((N : Nat) : Int))), aU, aU, aU, some (.slice none 0 0), aI 0, some (.int .i64 (Sb.frst [Sb.unl (Sb.inB (s) (0) (2147483647)) 2, Sb.unl (Sb.inB (z) (0) (200)) 2, Sb.unl (Sb.inB (((N : Nat) : Int)) (0) (16384)) 2])), aU, aU, aI s, some (.int .i64 (Sb.unl (Sb.inB (s) (0) (2147483647)) 2)), aI z, some (.int .i64 (Sb.unl (Sb.inB (z) (0) (200)) 2)), some (.int .i64 (((N : Nat) : Int))), some (.int .i64 (Sb.unl (Sb.inB (((N : Nat) : Int)) (0) (16384)) 2)), aS (L2 6).b 0 3 3, some (.int .i64 (Sb.frst [Sb.unl (Sb.inB (s) (0) (2147483647)) 2, Sb.unl (Sb.inB (z) (0) (200)) 2, Sb.unl (Sb.inB (((N : Nat) : Int)) (0) (16384)) 2])), some (.int .i64 (Sb.frst [Sb.unl (Sb.inB (s) (0) (2147483647)) 2, Sb.unl (Sb.inB (z) (0) (200)) 2, Sb.unl (Sb.inB (((N : Nat) : Int)) (0) (16384)) 2])), some (.bool ((Sb.frst [Sb.unl (Sb.inB (s) (0) (2147483647)) 2, Sb.unl (Sb.inB (z) (0) (200)) 2, Sb.unl (Sb.inB (((N : Nat) : Int)) (0) (16384)) 2]) != (0))), aU, aU, aU, aU, aU, aU, aU, aU, aU, aU, aU, aU, aU, aU, aU, aU, aU, aU, aU, aU, aU, aU], [.blk ((L2 6).b) [.int .i64 (Sb.unl (Sb.inB (s) (0) (2147483647)) 2), .int .i64 (Sb.unl (Sb.inB (z) (0) (200)) 2), .int .i64 (Sb.unl (Sb.inB (((N : Nat) : Int)) (0) (16384)) 2)] 28 true], []⟩)
    (fun L3 => [])
    fol (by kernel_rfl) (fun _ => by kernel_rfl) (fun L3 => trivial) (fun L3 => ?_)
  refine aw_false ((Sb.frst [Sb.unl (Sb.inB (s) (0) (2147483647)) 2, Sb.unl (Sb.inB (z) (0) (200)) 2, Sb.unl (Sb.inB (((N : Nat) : Int)) (0) (16384)) 2]) != (0)) rfl hE ?_
  refine aw_skip ?_
  refine nrm_thn ?_
  refine aw_sr [⟨.pure, [], none, true⟩]
    (fun L4 => ⟨[aI s, aI z, some (.int .i64 (((N : Nat) : Int))), aU, aU, aU, some (.slice none 0 0), aI 0, some (.int .i64 (Sb.frst [Sb.unl (Sb.inB (s) (0) (2147483647)) 2, Sb.unl (Sb.inB (z) (0) (200)) 2, Sb.unl (Sb.inB (((N : Nat) : Int)) (0) (16384)) 2])), some (.slice none 0 0), aU, aI s, some (.int .i64 (Sb.unl (Sb.inB (s) (0) (2147483647)) 2)), aI z, some (.int .i64 (Sb.unl (Sb.inB (z) (0) (200)) 2)), some (.int .i64 (((N : Nat) : Int))), some (.int .i64 (Sb.unl (Sb.inB (((N : Nat) : Int)) (0) (16384)) 2)), aS (L2 6).b 0 3 3, some (.int .i64 (Sb.frst [Sb.unl (Sb.inB (s) (0) (2147483647)) 2, Sb.unl (Sb.inB (z) (0) (200)) 2, Sb.unl (Sb.inB (((N : Nat) : Int)) (0) (16384)) 2])), some (.int .i64 (Sb.frst [Sb.unl (Sb.inB (s) (0) (2147483647)) 2, Sb.unl (Sb.inB (z) (0) (200)) 2, Sb.unl (Sb.inB (((N : Nat) : Int)) (0) (16384)) 2])), some (.bool ((Sb.frst [Sb.unl (Sb.inB (s) (0) (2147483647)) 2, Sb.unl (Sb.inB (z) (0) (200)) 2, Sb.unl (Sb.inB (((N : Nat) : Int)) (0) (16384)) 2]) != (0))), aU, aU, aU, aU, aU, aU, aU, aU, aU, aU, aU, aU, aU, aU, aU, aU, aU, aU, aU, aU, aU, aU], [.blk ((L2 6).b) [.int .i64 (Sb.unl (Sb.inB (s) (0) (2147483647)) 2), .int .i64 (Sb.unl (Sb.inB (z) (0) (200)) 2), .int .i64 (Sb.unl (Sb.inB (((N : Nat) : Int)) (0) (16384)) 2)] 28 true], []⟩)
    (fun L4 => [])
    fol (by kernel_rfl) (fun _ => by kernel_rfl) (fun L4 => trivial) (fun L4 => ?_)
  refine aw_sr [⟨.pure, [], none, true⟩, ⟨.pure, [0], none, true⟩]
    (fun L5 => ⟨[aI s, aI z, some (.int .i64 (((N : Nat) : Int))), aU, aU, aU, some (.slice none 0 0), aI 0, some (.int .i64 (Sb.frst [Sb.unl (Sb.inB (s) (0) (2147483647)) 2, Sb.unl (Sb.inB (z) (0) (200)) 2, Sb.unl (Sb.inB (((N : Nat) : Int)) (0) (16384)) 2])), some (.slice none 0 0), aI s, aI s, some (.int .i64 (Sb.unl (Sb.inB (s) (0) (2147483647)) 2)), aI z, some (.int .i64 (Sb.unl (Sb.inB (z) (0) (200)) 2)), some (.int .i64 (((N : Nat) : Int))), some (.int .i64 (Sb.unl (Sb.inB (((N : Nat) : Int)) (0) (16384)) 2)), aS (L2 6).b 0 3 3, some (.int .i64 (Sb.frst [Sb.unl (Sb.inB (s) (0) (2147483647)) 2, Sb.unl (Sb.inB (z) (0) (200)) 2, Sb.unl (Sb.inB (((N : Nat) : Int)) (0) (16384)) 2])), some (.int .i64 (Sb.frst [Sb.unl (Sb.inB (s) (0) (2147483647)) 2, Sb.unl (Sb.inB (z) (0) (200)) 2, Sb.unl (Sb.inB (((N : Nat) : Int)) (0) (16384)) 2])), some (.bool ((Sb.frst [Sb.unl (Sb.inB (s) (0) (2147483647)) 2, Sb.unl (Sb.inB (z) (0) (200)) 2, Sb.unl (Sb.inB (((N : Nat) : Int)) (0) (16384)) 2]) != (0))), aU, aI s, aU, aU, aU, aU, aU, aU, aU, aU, aU, aU, aU, aU, aU, aU, aU, aU, aU, aU, aU, aU], [.blk ((L2 6).b) [.int .i64 (Sb.unl (Sb.inB (s) (0) (2147483647)) 2), .int .i64 (Sb.unl (Sb.inB (z) (0) (200)) 2), .int .i64 (Sb.unl (Sb.inB (((N : Nat) : Int)) (0) (16384)) 2)] 28 true], []⟩)
    (fun L5 => [])
    fol (by kernel_rfl) (fun _ => by kernel_rfl) (fun L5 => trivial) (fun L5 => ?_)
  refine aw_seq ?_
  refine aw_sr [⟨.pure, [], none, true⟩, ⟨.pure, [], none, true⟩]
    (fun L6 => ⟨[aI s, aI z, some (.int .i64 (((N : Nat) : Int))), aU, aU, aU, some (.slice none 0 0), aI 0, some (.int .i64 (Sb.frst [Sb.unl (Sb.inB (s) (0) (2147483647)) 2, Sb.unl (Sb.inB (z) (0) (200)) 2, Sb.unl (Sb.inB (((N : Nat) : Int)) (0) (16384)) 2])), some (.slice none 0 0), aI s, aI s, some (.int .i64 (Sb.unl (Sb.inB (s) (0) (2147483647)) 2)), aI z, some (.int .i64 (Sb.unl (Sb.inB (z) (0) (200)) 2)), some (.int .i64 (((N : Nat) : Int))), some (.int .i64 (Sb.unl (Sb.inB (((N : Nat) : Int)) (0) (16384)) 2)), aS (L2 6).b 0 3 3, some (.int .i64 (Sb.frst [Sb.unl (Sb.inB (s) (0) (2147483647)) 2, Sb.unl (Sb.inB (z) (0) (200)) 2, Sb.unl (Sb.inB (((N : Nat) : Int)) (0) (16384)) 2])), some (.int .i64 (Sb.frst [Sb.unl (Sb.inB (s) (0) (2147483647)) 2, Sb.unl (Sb.inB (z) (0) (200)) 2, Sb.unl (Sb.inB (((N : Nat) : Int)) (0) (16384)) 2])), some (.bool ((Sb.frst [Sb.unl (Sb.inB (s) (0) (2147483647)) 2, Sb.unl (Sb.inB (z) (0) (200)) 2, Sb.unl (Sb.inB (((N : Nat) : Int)) (0) (16384)) 2]) != (0))), aU, aI s, some (.int .i64 (((N : Nat) : Int))), aI 0, aU, aU, aU, aU, aU, aU, aU, aU, aU, aU, aU, aU, aU, aU, aU, aU, aU, aU], [.blk ((L2 6).b) [.int .i64 (Sb.unl (Sb.inB (s) (0) (2147483647)) 2), .int .i64 (Sb.unl (Sb.inB (z) (0) (200)) 2), .int .i64 (Sb.unl (Sb.inB (((N : Nat) : Int)) (0) (16384)) 2)] 28 true], []⟩)
    (fun L6 => [])
    fol (by kernel_rfl) (fun _ => by kernel_rfl) (fun L6 => trivial) (fun L6 => ?_)
  refine aw_block ?_
  refine aw_weak (weak_nil _ 1 3) ?_
  refine aw_loop (ι := {i : Ix // i.k ≤ N ∧ (True)}) (fun i => ⟨[none, aI z, none, none, none, none, none, none, none, some (.slice (i.1.a) (i.1.k) (i.1.c)), some (.int .i64 (Nz.st s i.1.k)), none, none, none, none, none, none, none, none, none, none, none, none, some (.int .i64 (((N : Nat) : Int))), some (.int .i64 (((i.1.k : Nat) : Int))), none, none, none, none, none, none, none, none, none, none, none, none, none, none, none, none, none, none], [.row (i.1.a) (i.1.k) (i.1.c) 1 (iv (Nz.ls s z i.1.k)) 3 true], []⟩) (fun i => N - i.1.k) ⟨⟨0, none, 0⟩, Nat.zero_le _, trivial⟩ (weak_to [false, true, false, false, false, false, false, false, false, true, true, false, false, false, false, false, false, false, false, false, false, false, false, true, true, false, false, false, false, false, false, false, false, false, false, false, false, false, false, false, false, false, false] [1] (by decide) (by kernel_rfl)) ?_
  rintro ⟨⟨k, a, c⟩, hkn, hk⟩
  show Aw _ _ _ _ ⟨[none, aI z, none, none, none, none, none, none, none, some (.slice (a) (k) (c)), some (.int .i64 (Nz.st s k)), none, none, none, none, none, none, none, none, none, none, none, none, some (.int .i64 (((N : Nat) : Int))), some (.int .i64 (((k : Nat) : Int))), none, none, none, none, none, none, none, none, none, none, none, none, none, none, none, none, none, none], [.row (a) (k) (c) 1 (iv (Nz.ls s z k)) 3 true], []⟩ _
  simp only at hk hkn
  refine aw_sr [⟨.pure, [], none, true⟩]
    (fun L7 => ⟨[none, aI z, none, none, none, none, none, none, none, some (.slice (a) (k) (c)), some (.int .i64 (Nz.st s k)), none, none, none, none, none, none, none, none, none, none, none, none, some (.int .i64 (((N : Nat) : Int))), some (.int .i64 (((k : Nat) : Int))), some (.bool (decide ((((k : Nat) : Int)) < (((N : Nat) : Int))))), none, none, none, none, none, none, none, none, none, none, none, none, none, none, none, none, none], [.row (a) (k) (c) 1 (iv (Nz.ls s z k)) 3 true], []⟩)
    (fun L7 => [])
    fol (by kernel_rfl) (fun _ => by kernel_rfl) (fun L7 => trivial) (fun L7 => ?_)
  refine aw_seq ?_
  refine aw_cond (decide ((((k : Nat) : Int)) < (((N : Nat) : Int)))) rfl (fun h8 => ?_) (fun h8 => ?_)
  ·
    have h8' := of_decide_eq_true h8
    refine aw_skip ?_
    refine nrm_thn ?_
    refine aw_seq ?_
    refine aw_block ?_
    refine aw_sr [⟨.pure, [], none, true⟩, ⟨.pure, [0], none, true⟩, ⟨.pure, [0, 1], none, true⟩, ⟨.pure, [0, 1, 2], none, true⟩, ⟨.pure, [0, 1, 2, 3], none, true⟩]
      (fun L9 => ⟨[none, aI z, none, none, none, none, none, none, none, some (.slice (a) (k) (c)), some (.int .i64 (Int.tmod (IntKind.i64.wrap ((IntKind.i64.wrap ((1103515245) * (Nz.st s k))) + (12345))) (2147483648))), none, none, none, none, none, none, none, none, none, none, none, none, some (.int .i64 (((N : Nat) : Int))), some (.int .i64 (((k : Nat) : Int))), some (.bool (decide ((((k : Nat) : Int)) < (((N : Nat) : Int))))), some (.int .i64 (Nz.st s k)), some (.int .i64 (IntKind.i64.wrap ((1103515245) * (Nz.st s k)))), some (.int .i64 (IntKind.i64.wrap ((IntKind.i64.wrap ((1103515245) * (Nz.st s k))) + (12345)))), some (.int .i64 (Int.tmod (IntKind.i64.wrap ((IntKind.i64.wrap ((1103515245) * (Nz.st s k))) + (12345))) (2147483648))), none, none, none, none, none, none, none, none, none, none, none, none, none], [.row (a) (k) (c) 1 (iv (Nz.ls s z k)) 3 true], []⟩)
      (fun L9 => [])
      fol (by kernel_rfl) (fun _ => by kernel_rfl) (fun L9 => trivial) (fun L9 => ?_)
    refine aw_region [⟨.pure, [], none, true⟩, ⟨.pure, [], none, true⟩, ⟨.pure, [1], none, true⟩, ⟨.pure, [], none, true⟩, ⟨.pure, [3], none, true⟩, ⟨.pure, [3, 4], none, true⟩, ⟨(.sem (.int .i64 (Int.tmod (IntKind.i64.wrap (Int.tdiv (Int.tmod (IntKind.i64.wrap ((IntKind.i64.wrap ((1103515245) * (Nz.st s k))) + (12345))) (2147483648)) (65536))) (IntKind.i64.wrap ((IntKind.i64.wrap ((2) * (z))) + (1)))))), [1, 2, 3, 4, 5], none, true⟩, ⟨.pure, [], none, true⟩, ⟨.pure, [1, 2, 3, 4, 5, 6, 7], none, true⟩, ⟨.new, [1, 2, 3, 4, 5, 6, 7, 8], none, true⟩, ⟨(.app 0 10), [0, 1, 2, 3, 4, 5, 6, 7, 8, 9], none, true⟩, ⟨.pure, [0, 1, 2, 3, 4, 5, 6, 7, 8, 9, 10], none, true⟩]
      (fun L10 => ⟨[none, aI z, none, none, none, none, none, none, none, some (.slice ((L10 10).a) (k + 1) ((L10 10).n)), some (.int .i64 (Int.tmod (IntKind.i64.wrap ((IntKind.i64.wrap ((1103515245) * (Nz.st s k))) + (12345))) (2147483648))), none, none, none, none, none, none, none, none, none, none, none, none, some (.int .i64 (((N : Nat) : Int))), some (.int .i64 (((k : Nat) : Int))), some (.bool (decide ((((k : Nat) : Int)) < (((N : Nat) : Int))))), some (.int .i64 (Nz.st s k)), some (.int .i64 (IntKind.i64.wrap ((1103515245) * (Nz.st s k)))), some (.int .i64 (IntKind.i64.wrap ((IntKind.i64.wrap ((1103515245) * (Nz.st s k))) + (12345)))), some (.int .i64 (Int.tmod (IntKind.i64.wrap ((IntKind.i64.wrap ((1103515245) * (Nz.st s k))) + (12345))) (2147483648))), some (.slice (a) (k) (c)), some (.int .i64 (Int.tmod (IntKind.i64.wrap ((IntKind.i64.wrap ((1103515245) * (Nz.st s k))) + (12345))) (2147483648))), some (.int .i64 (IntKind.i64.wrap (Int.tdiv (Int.tmod (IntKind.i64.wrap ((IntKind.i64.wrap ((1103515245) * (Nz.st s k))) + (12345))) (2147483648)) (65536)))), aI z, some (.int .i64 (IntKind.i64.wrap ((2) * (z)))), some (.int .i64 (IntKind.i64.wrap ((IntKind.i64.wrap ((2) * (z))) + (1)))), some (.int .i64 (Int.tmod (IntKind.i64.wrap (Int.tdiv (Int.tmod (IntKind.i64.wrap ((IntKind.i64.wrap ((1103515245) * (Nz.st s k))) + (12345))) (2147483648)) (65536))) (IntKind.i64.wrap ((IntKind.i64.wrap ((2) * (z))) + (1))))), aI z, some (.int .i64 (IntKind.i64.wrap ((Int.tmod (IntKind.i64.wrap (Int.tdiv (Int.tmod (IntKind.i64.wrap ((IntKind.i64.wrap ((1103515245) * (Nz.st s k))) + (12345))) (2147483648)) (65536))) (IntKind.i64.wrap ((IntKind.i64.wrap ((2) * (z))) + (1)))) - (z)))), aS (L10 9).b 0 1 1, some (.slice ((L10 10).a) (k + 1) ((L10 10).n)), none, none], [.row ((L10 10).a) (k + 1) ((L10 10).n) 1 ((iv (Nz.ls s z k)) ++ [.int .i64 (IntKind.i64.wrap ((Int.tmod (IntKind.i64.wrap (Int.tdiv (Int.tmod (IntKind.i64.wrap ((IntKind.i64.wrap ((1103515245) * (Nz.st s k))) + (12345))) (2147483648)) (65536))) (IntKind.i64.wrap ((IntKind.i64.wrap ((2) * (z))) + (1)))) - (z)))]) 3 true, .blk ((L10 9).b) [.int .i64 (IntKind.i64.wrap ((Int.tmod (IntKind.i64.wrap (Int.tdiv (Int.tmod (IntKind.i64.wrap ((IntKind.i64.wrap ((1103515245) * (Nz.st s k))) + (12345))) (2147483648)) (65536))) (IntKind.i64.wrap ((IntKind.i64.wrap ((2) * (z))) + (1)))) - (z)))] 3 true], []⟩)
      (fun L10 => [SemOb Try.prog (do Go.eqGuard .rem 3 (.tmp 32) (.tmp 35) (.int .i64 (IntKind.i64.wrap (Int.tdiv (Int.tmod (IntKind.i64.wrap ((IntKind.i64.wrap ((1103515245) * (Nz.st s k))) + (12345))) (2147483648)) (65536)))) (.int .i64 (IntKind.i64.wrap ((IntKind.i64.wrap ((2) * (z))) + (1)))); Go.binOp .rem 3 (.int .i64 (IntKind.i64.wrap (Int.tdiv (Int.tmod (IntKind.i64.wrap ((IntKind.i64.wrap ((1103515245) * (Nz.st s k))) + (12345))) (2147483648)) (65536)))) (.int .i64 (IntKind.i64.wrap ((IntKind.i64.wrap ((2) * (z))) + (1))))) (.int .i64 (Int.tmod (IntKind.i64.wrap (Int.tdiv (Int.tmod (IntKind.i64.wrap ((IntKind.i64.wrap ((1103515245) * (Nz.st s k))) + (12345))) (2147483648)) (65536))) (IntKind.i64.wrap ((IntKind.i64.wrap ((2) * (z))) + (1))))), 38 = 38, 3 = 3, (a : Option Addr) = a, k = k, c = c, (L10 9).b = (L10 9).b, 1 = 1, some 1 = some 1, 0 < 1, 0 + 1 * 1 ≤ 1, ∀ u ∈ ([.int .i64 (IntKind.i64.wrap ((Int.tmod (IntKind.i64.wrap (Int.tdiv (Int.tmod (IntKind.i64.wrap ((IntKind.i64.wrap ((1103515245) * (Nz.st s k))) + (12345))) (2147483648)) (65536))) (IntKind.i64.wrap ((IntKind.i64.wrap ((2) * (z))) + (1)))) - (z)))] : List Value), u.oneCell' = true, k + 1 ≤ maxLen, (k + 1) * 8 ≤ 140737488355328])
      fol (by kernel_rfl) (fun _ => by kernel_rfl) (fun L10 => ⟨(sem_rem (by assumption)), rfl, rfl, rfl, rfl, rfl, rfl, rfl, rfl, (by decide), (by decide), (by simp [Value.oneCell']), (by unfold maxLen; omega), (by omega), trivial⟩) (fun L10 => ?_)
    refine nrm_inB ?_
    refine nrm_thn ?_
    refine aw_region [⟨.pure, [], some (.int .i64 (((k + 1 : Nat) : Int))), true⟩, ⟨.pure, [0], none, true⟩]
      (fun L11 => ⟨[none, aI z, none, none, none, none, none, none, none, some (.slice ((L10 10).a) (k + 1) ((L10 10).n)), some (.int .i64 (Int.tmod (IntKind.i64.wrap ((IntKind.i64.wrap ((1103515245) * (Nz.st s k))) + (12345))) (2147483648))), none, none, none, none, none, none, none, none, none, none, none, none, some (.int .i64 (((N : Nat) : Int))), some (.int .i64 (((k + 1 : Nat) : Int))), some (.bool (decide ((((k : Nat) : Int)) < (((N : Nat) : Int))))), some (.int .i64 (Nz.st s k)), some (.int .i64 (IntKind.i64.wrap ((1103515245) * (Nz.st s k)))), some (.int .i64 (IntKind.i64.wrap ((IntKind.i64.wrap ((1103515245) * (Nz.st s k))) + (12345)))), some (.int .i64 (Int.tmod (IntKind.i64.wrap ((IntKind.i64.wrap ((1103515245) * (Nz.st s k))) + (12345))) (2147483648))), some (.slice (a) (k) (c)), some (.int .i64 (Int.tmod (IntKind.i64.wrap ((IntKind.i64.wrap ((1103515245) * (Nz.st s k))) + (12345))) (2147483648))), some (.int .i64 (IntKind.i64.wrap (Int.tdiv (Int.tmod (IntKind.i64.wrap ((IntKind.i64.wrap ((1103515245) * (Nz.st s k))) + (12345))) (2147483648)) (65536)))), aI z, some (.int .i64 (IntKind.i64.wrap ((2) * (z)))), some (.int .i64 (IntKind.i64.wrap ((IntKind.i64.wrap ((2) * (z))) + (1)))), some (.int .i64 (Int.tmod (IntKind.i64.wrap (Int.tdiv (Int.tmod (IntKind.i64.wrap ((IntKind.i64.wrap ((1103515245) * (Nz.st s k))) + (12345))) (2147483648)) (65536))) (IntKind.i64.wrap ((IntKind.i64.wrap ((2) * (z))) + (1))))), aI z, some (.int .i64 (IntKind.i64.wrap ((Int.tmod (IntKind.i64.wrap (Int.tdiv (Int.tmod (IntKind.i64.wrap ((IntKind.i64.wrap ((1103515245) * (Nz.st s k))) + (12345))) (2147483648)) (65536))) (IntKind.i64.wrap ((IntKind.i64.wrap ((2) * (z))) + (1)))) - (z)))), aS (L10 9).b 0 1 1, some (.slice ((L10 10).a) (k + 1) ((L10 10).n)), some (.int .i64 (((k + 1 : Nat) : Int))), none], [.row ((L10 10).a) (k + 1) ((L10 10).n) 1 ((iv (Nz.ls s z k)) ++ [.int .i64 (IntKind.i64.wrap ((Int.tmod (IntKind.i64.wrap (Int.tdiv (Int.tmod (IntKind.i64.wrap ((IntKind.i64.wrap ((1103515245) * (Nz.st s k))) + (12345))) (2147483648)) (65536))) (IntKind.i64.wrap ((IntKind.i64.wrap ((2) * (z))) + (1)))) - (z)))]) 3 true, .blk ((L10 9).b) [.int .i64 (IntKind.i64.wrap ((Int.tmod (IntKind.i64.wrap (Int.tdiv (Int.tmod (IntKind.i64.wrap ((IntKind.i64.wrap ((1103515245) * (Nz.st s k))) + (12345))) (2147483648)) (65536))) (IntKind.i64.wrap ((IntKind.i64.wrap ((2) * (z))) + (1)))) - (z)))] 3 true], []⟩)
      (fun L11 => [(.int .i64 (IntKind.i64.wrap ((((k : Nat) : Int)) + (1))) : Value) = .int .i64 (((k + 1 : Nat) : Int))])
      fol (by kernel_rfl) (fun _ => by kernel_rfl) (fun L11 => ⟨(Nz.wrap_succ (by omega)), trivial⟩) (fun L11 => ?_)
    refine nrm_thn ?_
    refine ⟨⟨⟨k + 1, (L10 10).a, (L10 10).n⟩, by simp only; omega, by first | exact True.intro | (simp only; trivial)⟩, ?_, by simp only; omega⟩
    show Weak ⟨[none, aI z, none, none, none, none, none, none, none, some (.slice ((L10 10).a) (k + 1) ((L10 10).n)), some (.int .i64 (Int.tmod (IntKind.i64.wrap ((IntKind.i64.wrap ((1103515245) * (Nz.st s k))) + (12345))) (2147483648))), none, none, none, none, none, none, none, none, none, none, none, none, some (.int .i64 (((N : Nat) : Int))), some (.int .i64 (((k + 1 : Nat) : Int))), some (.bool (decide ((((k : Nat) : Int)) < (((N : Nat) : Int))))), some (.int .i64 (Nz.st s k)), some (.int .i64 (IntKind.i64.wrap ((1103515245) * (Nz.st s k)))), some (.int .i64 (IntKind.i64.wrap ((IntKind.i64.wrap ((1103515245) * (Nz.st s k))) + (12345)))), some (.int .i64 (Int.tmod (IntKind.i64.wrap ((IntKind.i64.wrap ((1103515245) * (Nz.st s k))) + (12345))) (2147483648))), some (.slice (a) (k) (c)), some (.int .i64 (Int.tmod (IntKind.i64.wrap ((IntKind.i64.wrap ((1103515245) * (Nz.st s k))) + (12345))) (2147483648))), some (.int .i64 (IntKind.i64.wrap (Int.tdiv (Int.tmod (IntKind.i64.wrap ((IntKind.i64.wrap ((1103515245) * (Nz.st s k))) + (12345))) (2147483648)) (65536)))), aI z, some (.int .i64 (IntKind.i64.wrap ((2) * (z)))), some (.int .i64 (IntKind.i64.wrap ((IntKind.i64.wrap ((2) * (z))) + (1)))), some (.int .i64 (Int.tmod (IntKind.i64.wrap (Int.tdiv (Int.tmod (IntKind.i64.wrap ((IntKind.i64.wrap ((1103515245) * (Nz.st s k))) + (12345))) (2147483648)) (65536))) (IntKind.i64.wrap ((IntKind.i64.wrap ((2) * (z))) + (1))))), aI z, some (.int .i64 (IntKind.i64.wrap ((Int.tmod (IntKind.i64.wrap (Int.tdiv (Int.tmod (IntKind.i64.wrap ((IntKind.i64.wrap ((1103515245) * (Nz.st s k))) + (12345))) (2147483648)) (65536))) (IntKind.i64.wrap ((IntKind.i64.wrap ((2) * (z))) + (1)))) - (z)))), aS (L10 9).b 0 1 1, some (.slice ((L10 10).a) (k + 1) ((L10 10).n)), some (.int .i64 (((k + 1 : Nat) : Int))), none], [.row ((L10 10).a) (k + 1) ((L10 10).n) 1 ((iv (Nz.ls s z k)) ++ [.int .i64 (IntKind.i64.wrap ((Int.tmod (IntKind.i64.wrap (Int.tdiv (Int.tmod (IntKind.i64.wrap ((IntKind.i64.wrap ((1103515245) * (Nz.st s k))) + (12345))) (2147483648)) (65536))) (IntKind.i64.wrap ((IntKind.i64.wrap ((2) * (z))) + (1)))) - (z)))]) 3 true, .blk ((L10 9).b) [.int .i64 (IntKind.i64.wrap ((Int.tmod (IntKind.i64.wrap (Int.tdiv (Int.tmod (IntKind.i64.wrap ((IntKind.i64.wrap ((1103515245) * (Nz.st s k))) + (12345))) (2147483648)) (65536))) (IntKind.i64.wrap ((IntKind.i64.wrap ((2) * (z))) + (1)))) - (z)))] 3 true], []⟩ ⟨[none, aI z, none, none, none, none, none, none, none, some (.slice ((L10 10).a) ((k + 1)) ((L10 10).n)), some (.int .i64 (Nz.st s ((k + 1)))), none, none, none, none, none, none, none, none, none, none, none, none, some (.int .i64 (((N : Nat) : Int))), some (.int .i64 ((((k + 1) : Nat) : Int))), none, none, none, none, none, none, none, none, none, none, none, none, none, none, none, none, none, none], [.row ((L10 10).a) ((k + 1)) ((L10 10).n) 1 (iv (Nz.ls s z ((k + 1)))) 3 true], []⟩
    rw [Nz.ls_succ, iv_snoc]
    exact weak_to [false, true, false, false, false, false, false, false, false, true, true, false, false, false, false, false, false, false, false, false, false, false, false, true, true, false, false, false, false, false, false, false, false, false, false, false, false, false, false, false, false, false, false] [0] (by decide) (by kernel_rfl)
  ·
    have h8' := of_decide_eq_false h8
    refine aw_exit ?_
    refine ex_thn ?_
    refine ex_thn ?_
    refine ex_hit ?_
    refine nrm_thn ?_
    refine aw_sr [⟨.pure, [], none, true⟩, ⟨.pure, [0], none, true⟩, ⟨.pure, [0, 1], none, true⟩]
      (fun L12 => ⟨[none, aI z, none, none, none, none, some (.slice (a) (k) (c)), aI 0, none, some (.slice (a) (k) (c)), some (.int .i64 (Nz.st s k)), none, none, none, none, none, none, none, none, none, none, none, none, some (.int .i64 (((N : Nat) : Int))), some (.int .i64 (((k : Nat) : Int))), some (.bool (decide ((((k : Nat) : Int)) < (((N : Nat) : Int))))), none, none, none, none, none, none, none, none, none, none, none, none, none, none, none, none, some (.slice (a) (k) (c))], [.row (a) (k) (c) 1 (iv (Nz.ls s z k)) 3 true], []⟩)
      (fun L12 => [])
      fol (by kernel_rfl) (fun _ => by kernel_rfl) (fun L12 => trivial) (fun L12 => ?_)
    refine aw_ret ?_
    have hkk : k = N := by omega
    subst hkk
    exact fin_new none [0, 0] (.tuple #[.slice (a) (k) (c), aN 0]) [] (⟨0, a, c⟩) (fun l => .tuple #[.slice (l.a) (k) (l.n), aN 0]) (fun l => .row (l.a) (k) (l.n) 1 (iv (Nz.ls s z k)) 3 true) 0 (.inr rfl) rfl (by kernel_rfl) trivial rfl rfl rfl

set_option maxRecDepth 100000 in
set_option maxHeartbeats 400000 in
theorem Nz.nerr_ob (s z : Int) : CallOb Try.prog 29 #[aN s, aN z] [] (.int .i64 (Nz.nerr (s) (z))) := by
  intro w hw
  refine calls_aw [aI s, aI z, aU, aU, aU, aU, aU, aU, aU, aU, aU, aU, aU] [] Try.func29 rfl (by kernel_rfl) (fun e x h => by cases h) ?_
  refine aw_sr [⟨.pure, [], none, true⟩]
    (fun L1 => ⟨[aI s, aI z, aU, aU, aI 0, aU, aU, aU, aU, aU, aU, aU, aU], [], []⟩)
    (fun L1 => [])
    fol (by kernel_rfl) (fun _ => by kernel_rfl) (fun L1 => trivial) (fun L1 => ?_)
  refine aw_seq ?_
  rcases Bool.eq_false_or_eq_true (!(Sb.inB (s) (0) (2147483647))) with h3 | h3
  ·
    refine aw_sr [⟨.pure, [], none, true⟩, ⟨(.call [] (.bool (Sb.inB (s) (0) (2147483647)))), [0], none, true⟩, ⟨.pure, [0, 1], none, true⟩, ⟨.pure, [0, 1, 2], none, true⟩, ⟨.pure, [0, 1, 2, 3], none, false⟩, ⟨.pure, [0, 1, 2, 3, 4], none, false⟩, ⟨.pure, [0, 1, 2, 3, 4, 5], none, false⟩, ⟨.pure, [0, 1, 2, 3, 4, 5, 6], aT, true⟩]
      (fun L4 => ⟨[aI s, aI z, aU, aU, aI 0, aI s, some (.bool (Sb.inB (s) (0) (2147483647))), some (.bool (!(Sb.inB (s) (0) (2147483647)))), some (.bool (!(Sb.inB (s) (0) (2147483647)))), aU, aU, aU, aT], [], []⟩)
      (fun L4 => [CallOb Try.prog 14 #[aN s, aN 0, aN 2147483647] [] (.bool (Sb.inB (s) (0) (2147483647))), (!(Sb.inB (s) (0) (2147483647))) = true, (!(Sb.inB (s) (0) (2147483647))) = true, (!(Sb.inB (s) (0) (2147483647))) = true, (if (!(Sb.inB (s) (0) (2147483647))) = true then (.bool (true) : Value) else undef) = .bool (true)])
      fol (by kernel_rfl) (fun _ => by kernel_rfl) (fun L4 => ⟨(Sb.withinR _ _ _), h3, h3, h3, (by rw [h3]; rfl), trivial⟩) (fun L4 => ?_)
    refine aw_true (true) rfl rfl ?_
    refine aw_sr [⟨.pure, [], none, true⟩]
      (fun L5 => ⟨[aI s, aI z, aU, aU, aI 2, aI s, some (.bool (Sb.inB (s) (0) (2147483647))), some (.bool (!(Sb.inB (s) (0) (2147483647)))), some (.bool (!(Sb.inB (s) (0) (2147483647)))), aU, aU, aU, aT], [], []⟩)
      (fun L5 => [])
      fol (by kernel_rfl) (fun _ => by kernel_rfl) (fun L5 => trivial) (fun L5 => ?_)
    refine aw_ret ?_
    refine ret_thn ?_
    refine fin_ret none [0] (aN 2) [] (.inr rfl) rfl (by kernel_rfl) trivial (fun w' hb => ?_)
    exact ⟨by simp_all [Nz.nerr, Sb.unl], hb⟩
  ·
    refine aw_sr [⟨.pure, [], none, true⟩, ⟨(.call [] (.bool (Sb.inB (s) (0) (2147483647)))), [0], none, true⟩, ⟨.pure, [0, 1], none, true⟩, ⟨.pure, [0, 1, 2], none, true⟩, ⟨.pure, [0, 1, 2, 3], none, true⟩, ⟨(.call [] (.bool (Sb.inB (z) (0) (200)))), [0, 1, 2, 3, 4], none, true⟩, ⟨.pure, [0, 1, 2, 3, 4, 5], none, true⟩, ⟨.pure, [0, 1, 2, 3, 4, 5, 6], some (.bool (!(Sb.inB (z) (0) (200)))), true⟩]
      (fun L6 => ⟨[aI s, aI z, aU, aU, aI 0, aI s, some (.bool (Sb.inB (s) (0) (2147483647))), some (.bool (!(Sb.inB (s) (0) (2147483647)))), some (.bool (!(Sb.inB (s) (0) (2147483647)))), aI z, some (.bool (Sb.inB (z) (0) (200))), some (.bool (!(Sb.inB (z) (0) (200)))), some (.bool (!(Sb.inB (z) (0) (200))))], [], []⟩)
      (fun L6 => [CallOb Try.prog 14 #[aN s, aN 0, aN 2147483647] [] (.bool (Sb.inB (s) (0) (2147483647))), (!(Sb.inB (s) (0) (2147483647))) = false, (!(Sb.inB (s) (0) (2147483647))) = false, CallOb Try.prog 14 #[aN z, aN 0, aN 200] [] (.bool (Sb.inB (z) (0) (200))), (!(Sb.inB (s) (0) (2147483647))) = false, (if (!(Sb.inB (s) (0) (2147483647))) = true then (.bool (true) : Value) else .bool (!(Sb.inB (z) (0) (200)))) = .bool (!(Sb.inB (z) (0) (200)))])
      fol (by kernel_rfl) (fun _ => by kernel_rfl) (fun L6 => ⟨(Sb.withinR _ _ _), h3, h3, (Sb.withinR _ _ _), h3, (by rw [h3]; rfl), trivial⟩) (fun L6 => ?_)
    refine aw_cond (!(Sb.inB (z) (0) (200))) rfl (fun h7 => ?_) (fun h7 => ?_)
    ·
      refine aw_sr [⟨.pure, [], none, true⟩]
        (fun L8 => ⟨[aI s, aI z, aU, aU, aI 2, aI s, some (.bool (Sb.inB (s) (0) (2147483647))), some (.bool (!(Sb.inB (s) (0) (2147483647)))), some (.bool (!(Sb.inB (s) (0) (2147483647)))), aI z, some (.bool (Sb.inB (z) (0) (200))), some (.bool (!(Sb.inB (z) (0) (200)))), some (.bool (!(Sb.inB (z) (0) (200))))], [], []⟩)
        (fun L8 => [])
        fol (by kernel_rfl) (fun _ => by kernel_rfl) (fun L8 => trivial) (fun L8 => ?_)
      refine aw_ret ?_
      refine ret_thn ?_
      refine fin_ret none [0] (aN 2) [] (.inr rfl) rfl (by kernel_rfl) trivial (fun w' hb => ?_)
      exact ⟨by simp_all [Nz.nerr, Sb.unl], hb⟩
    ·
      refine aw_skip ?_
      refine nrm_thn ?_
      refine aw_sr [⟨.pure, [], none, true⟩]
        (fun L9 => ⟨[aI s, aI z, aU, aU, aI 0, aI s, some (.bool (Sb.inB (s) (0) (2147483647))), some (.bool (!(Sb.inB (s) (0) (2147483647)))), some (.bool (!(Sb.inB (s) (0) (2147483647)))), aI z, some (.bool (Sb.inB (z) (0) (200))), some (.bool (!(Sb.inB (z) (0) (200)))), some (.bool (!(Sb.inB (z) (0) (200))))], [], []⟩)
        (fun L9 => [])
        fol (by kernel_rfl) (fun _ => by kernel_rfl) (fun L9 => trivial) (fun L9 => ?_)
      refine aw_ret ?_
      refine fin_ret none [0] (aN 0) [] (.inr rfl) rfl (by kernel_rfl) trivial (fun w' hb => ?_)
      exact ⟨by simp_all [Nz.nerr, Sb.unl], hb⟩

set_option maxRecDepth 100000 in
set_option maxHeartbeats 400000 in
theorem Nz.rnoise (s z : Int) (N : Nat) (hN : N ≤ 16384) (hd : IntKind.i64.wrap ((IntKind.i64.wrap ((2) * (z))) + (1)) ≠ 0) : CallN Try.prog 30 #[aN s, aN z, .int .i64 (((N : Nat) : Int))] [] (fun l => .slice (l.a) (N) (l.n)) (fun l => .row (l.a) (N) (l.n) 1 (iv (Nz.ls s z N)) 3 true) := by
  intro w hw
  refine calls_aw [aI s, aI z, some (.int .i64 (((N : Nat) : Int))), aU, aU, aU, aU, aU, aU, aU, aU, aU, aU, aU, aU, aU, aU, aU, aU, aU, aU, aU, aU, aU, aU, aU, aU, aU, aU, aU, aU, aU] [] Try.func30 rfl (by kernel_rfl) (fun e x h => by cases h) ?_
  refine aw_sr [⟨.pure, [], none, true⟩]
    (fun L1 => ⟨[aI s, aI z, some (.int .i64 (((N : Nat) : Int))), aU, aU, aU, some (.slice none 0 0), aU, aU, aU, aU, aU, aU, aU, aU, aU, aU, aU, aU, aU, aU, aU, aU, aU, aU, aU, aU, aU, aU, aU, aU, aU], [], []⟩)
    (fun L1 => [])
    fol (by kernel_rfl) (fun _ => by kernel_rfl) (fun L1 => trivial) (fun L1 => ?_)
  refine aw_sr [⟨.pure, [], none, true⟩]
    (fun L2 => ⟨[aI s, aI z, some (.int .i64 (((N : Nat) : Int))), aU, aU, aU, some (.slice none 0 0), some (.slice none 0 0), aU, aU, aU, aU, aU, aU, aU, aU, aU, aU, aU, aU, aU, aU, aU, aU, aU, aU, aU, aU, aU, aU, aU, aU], [], []⟩)
    (fun L2 => [])
    fol (by kernel_rfl) (fun _ => by kernel_rfl) (fun L2 => trivial) (fun L2 => ?_)
  refine aw_sr [⟨.pure, [], none, true⟩, ⟨.pure, [0], none, true⟩]
    (fun L3 => ⟨[aI s, aI z, some (.int .i64 (((N : Nat) : Int))), aU, aU, aU, some (.slice none 0 0), some (.slice none 0 0), aI s, aU, aI s, aU, aU, aU, aU, aU, aU, aU, aU, aU, aU, aU, aU, aU, aU, aU, aU, aU, aU, aU, aU, aU], [], []⟩)
    (fun L3 => [])
    fol (by kernel_rfl) (fun _ => by kernel_rfl) (fun L3 => trivial) (fun L3 => ?_)
  refine aw_seq ?_
  refine aw_sr [⟨.pure, [], none, true⟩]
    (fun L4 => ⟨[aI s, aI z, some (.int .i64 (((N : Nat) : Int))), aU, aU, aU, some (.slice none 0 0), some (.slice none 0 0), aI s, aI 0, aI s, aU, aU, aU, aU, aU, aU, aU, aU, aU, aU, aU, aU, aU, aU, aU, aU, aU, aU, aU, aU, aU], [], []⟩)
    (fun L4 => [])
    fol (by kernel_rfl) (fun _ => by kernel_rfl) (fun L4 => trivial) (fun L4 => ?_)
  refine aw_block ?_
  refine aw_weak (weak_nil _ 1 3) ?_
  refine aw_loop (ι := {i : Ix // i.k ≤ N ∧ (True)}) (fun i => ⟨[none, aI z, some (.int .i64 (((N : Nat) : Int))), none, none, none, none, some (.slice (i.1.a) (i.1.k) (i.1.c)), some (.int .i64 (Nz.st s i.1.k)), some (.int .i64 (((i.1.k : Nat) : Int))), none, none, none, none, none, none, none, none, none, none, none, none, none, none, none, none, none, none, none, none, none, none], [.row (i.1.a) (i.1.k) (i.1.c) 1 (iv (Nz.ls s z i.1.k)) 3 true], []⟩) (fun i => N - i.1.k) ⟨⟨0, none, 0⟩, Nat.zero_le _, trivial⟩ (weak_to [false, true, true, false, false, false, false, true, true, true, false, false, false, false, false, false, false, false, false, false, false, false, false, false, false, false, false, false, false, false, false, false] [0] (by decide) (by kernel_rfl)) ?_
  rintro ⟨⟨k, a, c⟩, hkn, hk⟩
  show Aw _ _ _ _ ⟨[none, aI z, some (.int .i64 (((N : Nat) : Int))), none, none, none, none, some (.slice (a) (k) (c)), some (.int .i64 (Nz.st s k)), some (.int .i64 (((k : Nat) : Int))), none, none, none, none, none, none, none, none, none, none, none, none, none, none, none, none, none, none, none, none, none, none], [.row (a) (k) (c) 1 (iv (Nz.ls s z k)) 3 true], []⟩ _
  simp only at hk hkn
  refine aw_seq ?_
  refine aw_sr [⟨.pure, [], none, true⟩, ⟨.pure, [], none, true⟩, ⟨.pure, [0, 1], none, true⟩]
    (fun L5 => ⟨[none, aI z, some (.int .i64 (((N : Nat) : Int))), none, none, none, none, some (.slice (a) (k) (c)), some (.int .i64 (Nz.st s k)), some (.int .i64 (((k : Nat) : Int))), none, some (.int .i64 (((k : Nat) : Int))), some (.int .i64 (((N : Nat) : Int))), some (.bool (decide ((((k : Nat) : Int)) < (((N : Nat) : Int))))), none, none, none, none, none, none, none, none, none, none, none, none, none, none, none, none, none, none], [.row (a) (k) (c) 1 (iv (Nz.ls s z k)) 3 true], []⟩)
    (fun L5 => [])
    fol (by kernel_rfl) (fun _ => by kernel_rfl) (fun L5 => trivial) (fun L5 => ?_)
  refine aw_cond (decide ((((k : Nat) : Int)) < (((N : Nat) : Int)))) rfl (fun h6 => ?_) (fun h6 => ?_)
  ·
    have h6' := of_decide_eq_true h6
    refine aw_skip ?_
    refine nrm_thn ?_
    refine aw_seq ?_
    refine aw_block ?_
    refine aw_sr [⟨.pure, [], none, true⟩, ⟨.pure, [0], none, true⟩, ⟨.pure, [0, 1], none, true⟩, ⟨.pure, [0, 1, 2], none, true⟩, ⟨.pure, [0, 1, 2, 3], none, true⟩]
      (fun L7 => ⟨[none, aI z, some (.int .i64 (((N : Nat) : Int))), none, none, none, none, some (.slice (a) (k) (c)), some (.int .i64 (Int.tmod (IntKind.i64.wrap ((IntKind.i64.wrap ((1103515245) * (Nz.st s k))) + (12345))) (2147483648))), some (.int .i64 (((k : Nat) : Int))), none, some (.int .i64 (((k : Nat) : Int))), some (.int .i64 (((N : Nat) : Int))), some (.bool (decide ((((k : Nat) : Int)) < (((N : Nat) : Int))))), none, none, some (.int .i64 (Nz.st s k)), some (.int .i64 (IntKind.i64.wrap ((1103515245) * (Nz.st s k)))), some (.int .i64 (IntKind.i64.wrap ((IntKind.i64.wrap ((1103515245) * (Nz.st s k))) + (12345)))), some (.int .i64 (Int.tmod (IntKind.i64.wrap ((IntKind.i64.wrap ((1103515245) * (Nz.st s k))) + (12345))) (2147483648))), none, none, none, none, none, none, none, none, none, none, none, none], [.row (a) (k) (c) 1 (iv (Nz.ls s z k)) 3 true], []⟩)
      (fun L7 => [])
      fol (by kernel_rfl) (fun _ => by kernel_rfl) (fun L7 => trivial) (fun L7 => ?_)
    refine aw_region [⟨.pure, [], none, true⟩, ⟨.pure, [], none, true⟩, ⟨.pure, [1], none, true⟩, ⟨.pure, [], none, true⟩, ⟨.pure, [3], none, true⟩, ⟨.pure, [3, 4], none, true⟩, ⟨(.sem (.int .i64 (Int.tmod (IntKind.i64.wrap (Int.tdiv (Int.tmod (IntKind.i64.wrap ((IntKind.i64.wrap ((1103515245) * (Nz.st s k))) + (12345))) (2147483648)) (65536))) (IntKind.i64.wrap ((IntKind.i64.wrap ((2) * (z))) + (1)))))), [1, 2, 3, 4, 5], none, true⟩, ⟨.pure, [], none, true⟩, ⟨.pure, [1, 2, 3, 4, 5, 6, 7], none, true⟩, ⟨.new, [1, 2, 3, 4, 5, 6, 7, 8], none, true⟩, ⟨(.app 0 10), [0, 1, 2, 3, 4, 5, 6, 7, 8, 9], none, true⟩, ⟨.pure, [0, 1, 2, 3, 4, 5, 6, 7, 8, 9, 10], none, true⟩]
      (fun L8 => ⟨[none, aI z, some (.int .i64 (((N : Nat) : Int))), none, none, none, none, some (.slice ((L8 10).a) (k + 1) ((L8 10).n)), some (.int .i64 (Int.tmod (IntKind.i64.wrap ((IntKind.i64.wrap ((1103515245) * (Nz.st s k))) + (12345))) (2147483648))), some (.int .i64 (((k : Nat) : Int))), none, some (.int .i64 (((k : Nat) : Int))), some (.int .i64 (((N : Nat) : Int))), some (.bool (decide ((((k : Nat) : Int)) < (((N : Nat) : Int))))), none, none, some (.int .i64 (Nz.st s k)), some (.int .i64 (IntKind.i64.wrap ((1103515245) * (Nz.st s k)))), some (.int .i64 (IntKind.i64.wrap ((IntKind.i64.wrap ((1103515245) * (Nz.st s k))) + (12345)))), some (.int .i64 (Int.tmod (IntKind.i64.wrap ((IntKind.i64.wrap ((1103515245) * (Nz.st s k))) + (12345))) (2147483648))), some (.slice (a) (k) (c)), some (.int .i64 (Int.tmod (IntKind.i64.wrap ((IntKind.i64.wrap ((1103515245) * (Nz.st s k))) + (12345))) (2147483648))), some (.int .i64 (IntKind.i64.wrap (Int.tdiv (Int.tmod (IntKind.i64.wrap ((IntKind.i64.wrap ((1103515245) * (Nz.st s k))) + (12345))) (2147483648)) (65536)))), aI z, some (.int .i64 (IntKind.i64.wrap ((2) * (z)))), some (.int .i64 (IntKind.i64.wrap ((IntKind.i64.wrap ((2) * (z))) + (1)))), some (.int .i64 (Int.tmod (IntKind.i64.wrap (Int.tdiv (Int.tmod (IntKind.i64.wrap ((IntKind.i64.wrap ((1103515245) * (Nz.st s k))) + (12345))) (2147483648)) (65536))) (IntKind.i64.wrap ((IntKind.i64.wrap ((2) * (z))) + (1))))), aI z, some (.int .i64 (IntKind.i64.wrap ((Int.tmod (IntKind.i64.wrap (Int.tdiv (Int.tmod (IntKind.i64.wrap ((IntKind.i64.wrap ((1103515245) * (Nz.st s k))) + (12345))) (2147483648)) (65536))) (IntKind.i64.wrap ((IntKind.i64.wrap ((2) * (z))) + (1)))) - (z)))), aS (L8 9).b 0 1 1, some (.slice ((L8 10).a) (k + 1) ((L8 10).n)), none], [.row ((L8 10).a) (k + 1) ((L8 10).n) 1 ((iv (Nz.ls s z k)) ++ [.int .i64 (IntKind.i64.wrap ((Int.tmod (IntKind.i64.wrap (Int.tdiv (Int.tmod (IntKind.i64.wrap ((IntKind.i64.wrap ((1103515245) * (Nz.st s k))) + (12345))) (2147483648)) (65536))) (IntKind.i64.wrap ((IntKind.i64.wrap ((2) * (z))) + (1)))) - (z)))]) 3 true, .blk ((L8 9).b) [.int .i64 (IntKind.i64.wrap ((Int.tmod (IntKind.i64.wrap (Int.tdiv (Int.tmod (IntKind.i64.wrap ((IntKind.i64.wrap ((1103515245) * (Nz.st s k))) + (12345))) (2147483648)) (65536))) (IntKind.i64.wrap ((IntKind.i64.wrap ((2) * (z))) + (1)))) - (z)))] 3 true], []⟩)
      (fun L8 => [SemOb Try.prog (do Go.eqGuard .rem 3 (.tmp 22) (.tmp 25) (.int .i64 (IntKind.i64.wrap (Int.tdiv (Int.tmod (IntKind.i64.wrap ((IntKind.i64.wrap ((1103515245) * (Nz.st s k))) + (12345))) (2147483648)) (65536)))) (.int .i64 (IntKind.i64.wrap ((IntKind.i64.wrap ((2) * (z))) + (1)))); Go.binOp .rem 3 (.int .i64 (IntKind.i64.wrap (Int.tdiv (Int.tmod (IntKind.i64.wrap ((IntKind.i64.wrap ((1103515245) * (Nz.st s k))) + (12345))) (2147483648)) (65536)))) (.int .i64 (IntKind.i64.wrap ((IntKind.i64.wrap ((2) * (z))) + (1))))) (.int .i64 (Int.tmod (IntKind.i64.wrap (Int.tdiv (Int.tmod (IntKind.i64.wrap ((IntKind.i64.wrap ((1103515245) * (Nz.st s k))) + (12345))) (2147483648)) (65536))) (IntKind.i64.wrap ((IntKind.i64.wrap ((2) * (z))) + (1))))), 38 = 38, 3 = 3, (a : Option Addr) = a, k = k, c = c, (L8 9).b = (L8 9).b, 1 = 1, some 1 = some 1, 0 < 1, 0 + 1 * 1 ≤ 1, ∀ u ∈ ([.int .i64 (IntKind.i64.wrap ((Int.tmod (IntKind.i64.wrap (Int.tdiv (Int.tmod (IntKind.i64.wrap ((IntKind.i64.wrap ((1103515245) * (Nz.st s k))) + (12345))) (2147483648)) (65536))) (IntKind.i64.wrap ((IntKind.i64.wrap ((2) * (z))) + (1)))) - (z)))] : List Value), u.oneCell' = true, k + 1 ≤ maxLen, (k + 1) * 8 ≤ 140737488355328])
      fol (by kernel_rfl) (fun _ => by kernel_rfl) (fun L8 => ⟨(sem_rem (by assumption)), rfl, rfl, rfl, rfl, rfl, rfl, rfl, rfl, (by decide), (by decide), (by simp [Value.oneCell']), (by unfold maxLen; omega), (by omega), trivial⟩) (fun L8 => ?_)
    refine nrm_inB ?_
    refine nrm_thn ?_
    refine aw_region [⟨.pure, [], none, true⟩, ⟨.pure, [0], some (.int .i64 (((k + 1 : Nat) : Int))), true⟩, ⟨.pure, [0, 1], none, true⟩]
      (fun L9 => ⟨[none, aI z, some (.int .i64 (((N : Nat) : Int))), none, none, none, none, some (.slice ((L8 10).a) (k + 1) ((L8 10).n)), some (.int .i64 (Int.tmod (IntKind.i64.wrap ((IntKind.i64.wrap ((1103515245) * (Nz.st s k))) + (12345))) (2147483648))), some (.int .i64 (((k + 1 : Nat) : Int))), none, some (.int .i64 (((k : Nat) : Int))), some (.int .i64 (((N : Nat) : Int))), some (.bool (decide ((((k : Nat) : Int)) < (((N : Nat) : Int))))), some (.int .i64 (((k : Nat) : Int))), some (.int .i64 (((k + 1 : Nat) : Int))), some (.int .i64 (Nz.st s k)), some (.int .i64 (IntKind.i64.wrap ((1103515245) * (Nz.st s k)))), some (.int .i64 (IntKind.i64.wrap ((IntKind.i64.wrap ((1103515245) * (Nz.st s k))) + (12345)))), some (.int .i64 (Int.tmod (IntKind.i64.wrap ((IntKind.i64.wrap ((1103515245) * (Nz.st s k))) + (12345))) (2147483648))), some (.slice (a) (k) (c)), some (.int .i64 (Int.tmod (IntKind.i64.wrap ((IntKind.i64.wrap ((1103515245) * (Nz.st s k))) + (12345))) (2147483648))), some (.int .i64 (IntKind.i64.wrap (Int.tdiv (Int.tmod (IntKind.i64.wrap ((IntKind.i64.wrap ((1103515245) * (Nz.st s k))) + (12345))) (2147483648)) (65536)))), aI z, some (.int .i64 (IntKind.i64.wrap ((2) * (z)))), some (.int .i64 (IntKind.i64.wrap ((IntKind.i64.wrap ((2) * (z))) + (1)))), some (.int .i64 (Int.tmod (IntKind.i64.wrap (Int.tdiv (Int.tmod (IntKind.i64.wrap ((IntKind.i64.wrap ((1103515245) * (Nz.st s k))) + (12345))) (2147483648)) (65536))) (IntKind.i64.wrap ((IntKind.i64.wrap ((2) * (z))) + (1))))), aI z, some (.int .i64 (IntKind.i64.wrap ((Int.tmod (IntKind.i64.wrap (Int.tdiv (Int.tmod (IntKind.i64.wrap ((IntKind.i64.wrap ((1103515245) * (Nz.st s k))) + (12345))) (2147483648)) (65536))) (IntKind.i64.wrap ((IntKind.i64.wrap ((2) * (z))) + (1)))) - (z)))), aS (L8 9).b 0 1 1, some (.slice ((L8 10).a) (k + 1) ((L8 10).n)), none], [.row ((L8 10).a) (k + 1) ((L8 10).n) 1 ((iv (Nz.ls s z k)) ++ [.int .i64 (IntKind.i64.wrap ((Int.tmod (IntKind.i64.wrap (Int.tdiv (Int.tmod (IntKind.i64.wrap ((IntKind.i64.wrap ((1103515245) * (Nz.st s k))) + (12345))) (2147483648)) (65536))) (IntKind.i64.wrap ((IntKind.i64.wrap ((2) * (z))) + (1)))) - (z)))]) 3 true, .blk ((L8 9).b) [.int .i64 (IntKind.i64.wrap ((Int.tmod (IntKind.i64.wrap (Int.tdiv (Int.tmod (IntKind.i64.wrap ((IntKind.i64.wrap ((1103515245) * (Nz.st s k))) + (12345))) (2147483648)) (65536))) (IntKind.i64.wrap ((IntKind.i64.wrap ((2) * (z))) + (1)))) - (z)))] 3 true], []⟩)
      (fun L9 => [(.int .i64 (IntKind.i64.wrap ((((k : Nat) : Int)) + (1))) : Value) = .int .i64 (((k + 1 : Nat) : Int))])
      fol (by kernel_rfl) (fun _ => by kernel_rfl) (fun L9 => ⟨(Nz.wrap_succ (by omega)), trivial⟩) (fun L9 => ?_)
    refine nrm_thn ?_
    refine ⟨⟨⟨k + 1, (L8 10).a, (L8 10).n⟩, by simp only; omega, by first | exact True.intro | (simp only; trivial)⟩, ?_, by simp only; omega⟩
    show Weak ⟨[none, aI z, some (.int .i64 (((N : Nat) : Int))), none, none, none, none, some (.slice ((L8 10).a) (k + 1) ((L8 10).n)), some (.int .i64 (Int.tmod (IntKind.i64.wrap ((IntKind.i64.wrap ((1103515245) * (Nz.st s k))) + (12345))) (2147483648))), some (.int .i64 (((k + 1 : Nat) : Int))), none, some (.int .i64 (((k : Nat) : Int))), some (.int .i64 (((N : Nat) : Int))), some (.bool (decide ((((k : Nat) : Int)) < (((N : Nat) : Int))))), some (.int .i64 (((k : Nat) : Int))), some (.int .i64 (((k + 1 : Nat) : Int))), some (.int .i64 (Nz.st s k)), some (.int .i64 (IntKind.i64.wrap ((1103515245) * (Nz.st s k)))), some (.int .i64 (IntKind.i64.wrap ((IntKind.i64.wrap ((1103515245) * (Nz.st s k))) + (12345)))), some (.int .i64 (Int.tmod (IntKind.i64.wrap ((IntKind.i64.wrap ((1103515245) * (Nz.st s k))) + (12345))) (2147483648))), some (.slice (a) (k) (c)), some (.int .i64 (Int.tmod (IntKind.i64.wrap ((IntKind.i64.wrap ((1103515245) * (Nz.st s k))) + (12345))) (2147483648))), some (.int .i64 (IntKind.i64.wrap (Int.tdiv (Int.tmod (IntKind.i64.wrap ((IntKind.i64.wrap ((1103515245) * (Nz.st s k))) + (12345))) (2147483648)) (65536)))), aI z, some (.int .i64 (IntKind.i64.wrap ((2) * (z)))), some (.int .i64 (IntKind.i64.wrap ((IntKind.i64.wrap ((2) * (z))) + (1)))), some (.int .i64 (Int.tmod (IntKind.i64.wrap (Int.tdiv (Int.tmod (IntKind.i64.wrap ((IntKind.i64.wrap ((1103515245) * (Nz.st s k))) + (12345))) (2147483648)) (65536))) (IntKind.i64.wrap ((IntKind.i64.wrap ((2) * (z))) + (1))))), aI z, some (.int .i64 (IntKind.i64.wrap ((Int.tmod (IntKind.i64.wrap (Int.tdiv (Int.tmod (IntKind.i64.wrap ((IntKind.i64.wrap ((1103515245) * (Nz.st s k))) + (12345))) (2147483648)) (65536))) (IntKind.i64.wrap ((IntKind.i64.wrap ((2) * (z))) + (1)))) - (z)))), aS (L8 9).b 0 1 1, some (.slice ((L8 10).a) (k + 1) ((L8 10).n)), none], [.row ((L8 10).a) (k + 1) ((L8 10).n) 1 ((iv (Nz.ls s z k)) ++ [.int .i64 (IntKind.i64.wrap ((Int.tmod (IntKind.i64.wrap (Int.tdiv (Int.tmod (IntKind.i64.wrap ((IntKind.i64.wrap ((1103515245) * (Nz.st s k))) + (12345))) (2147483648)) (65536))) (IntKind.i64.wrap ((IntKind.i64.wrap ((2) * (z))) + (1)))) - (z)))]) 3 true, .blk ((L8 9).b) [.int .i64 (IntKind.i64.wrap ((Int.tmod (IntKind.i64.wrap (Int.tdiv (Int.tmod (IntKind.i64.wrap ((IntKind.i64.wrap ((1103515245) * (Nz.st s k))) + (12345))) (2147483648)) (65536))) (IntKind.i64.wrap ((IntKind.i64.wrap ((2) * (z))) + (1)))) - (z)))] 3 true], []⟩ ⟨[none, aI z, some (.int .i64 (((N : Nat) : Int))), none, none, none, none, some (.slice ((L8 10).a) ((k + 1)) ((L8 10).n)), some (.int .i64 (Nz.st s ((k + 1)))), some (.int .i64 ((((k + 1) : Nat) : Int))), none, none, none, none, none, none, none, none, none, none, none, none, none, none, none, none, none, none, none, none, none, none], [.row ((L8 10).a) ((k + 1)) ((L8 10).n) 1 (iv (Nz.ls s z ((k + 1)))) 3 true], []⟩
    rw [Nz.ls_succ, iv_snoc]
    exact weak_to [false, true, true, false, false, false, false, true, true, true, false, false, false, false, false, false, false, false, false, false, false, false, false, false, false, false, false, false, false, false, false, false] [0] (by decide) (by kernel_rfl)
  ·
    have h6' := of_decide_eq_false h6
    refine aw_exit ?_
    refine ex_thn ?_
    refine ex_thn ?_
    refine ex_hit ?_
    refine nrm_thn ?_
    refine aw_sr [⟨.pure, [], none, true⟩, ⟨.pure, [0], none, true⟩]
      (fun L10 => ⟨[none, aI z, some (.int .i64 (((N : Nat) : Int))), none, none, none, some (.slice (a) (k) (c)), some (.slice (a) (k) (c)), some (.int .i64 (Nz.st s k)), some (.int .i64 (((k : Nat) : Int))), none, some (.int .i64 (((k : Nat) : Int))), some (.int .i64 (((N : Nat) : Int))), some (.bool (decide ((((k : Nat) : Int)) < (((N : Nat) : Int))))), none, none, none, none, none, none, none, none, none, none, none, none, none, none, none, none, none, some (.slice (a) (k) (c))], [.row (a) (k) (c) 1 (iv (Nz.ls s z k)) 3 true], []⟩)
      (fun L10 => [])
      fol (by kernel_rfl) (fun _ => by kernel_rfl) (fun L10 => trivial) (fun L10 => ?_)
    refine aw_ret ?_
    have hkk : k = N := by omega
    subst hkk
    exact fin_new none [0] (.slice (a) (k) (c)) [] (⟨0, a, c⟩) (fun l => .slice (l.a) (k) (l.n)) (fun l => .row (l.a) (k) (l.n) 1 (iv (Nz.ls s z k)) 3 true) 0 (.inr rfl) rfl (by kernel_rfl) trivial rfl rfl rfl

set_option maxRecDepth 100000 in
set_option maxHeartbeats 400000 in
theorem Nz.refE1 (s z c : Int) (hE : ((Nz.nerr (s) (z)) != (0)) = true) : CallOb Try.prog 12 #[aN s, aN z, aN c] [] (.tuple #[.slice none 0 0, .int .i64 (Nz.nerr (s) (z))]) := by
  intro w hw
  refine calls_aw [aI s, aI z, aI c, aU, aU, aU, aU, aU, aU, aU, aU, aU, aU, aU, aU, aU, aU, aU, aU, aU, aU, aU] [] Try.func12 rfl (by kernel_rfl) (fun e x h => by cases h) ?_
  refine aw_sr [⟨.pure, [], none, true⟩, ⟨.pure, [0], none, true⟩]
    (fun L1 => ⟨[aI s, aI z, aI c, aU, aU, aU, some (.slice none 0 0), aI 0, aU, aU, aU, aU, aU, aU, aU, aU, aU, aU, aU, aU, aU, aU], [], []⟩)
    (fun L1 => [])
    fol (by kernel_rfl) (fun _ => by kernel_rfl) (fun L1 => trivial) (fun L1 => ?_)
  refine aw_seq ?_
  refine aw_sr [⟨.pure, [], none, true⟩, ⟨.pure, [], none, true⟩, ⟨(.call [] (.int .i64 (Nz.nerr (s) (z)))), [0, 1], none, true⟩, ⟨.pure, [0, 1, 2], none, true⟩]
    (fun L2 => ⟨[aI s, aI z, aI c, aU, aU, aU, some (.slice none 0 0), aI 0, some (.int .i64 (Nz.nerr (s) (z))), aI s, aI z, some (.int .i64 (Nz.nerr (s) (z))), aU, aU, aU, aU, aU, aU, aU, aU, aU, aU], [], []⟩)
    (fun L2 => [CallOb Try.prog 29 #[aN s, aN z] [] (.int .i64 (Nz.nerr (s) (z)))])
    fol (by kernel_rfl) (fun _ => by kernel_rfl) (fun L2 => ⟨(Nz.nerr_ob _ _), trivial⟩) (fun L2 => ?_)
  refine aw_sr [⟨.pure, [], none, true⟩, ⟨.pure, [0], none, true⟩]
    (fun L3 => ⟨[aI s, aI z, aI c, aU, aU, aU, some (.slice none 0 0), aI 0, some (.int .i64 (Nz.nerr (s) (z))), aI s, aI z, some (.int .i64 (Nz.nerr (s) (z))), some (.int .i64 (Nz.nerr (s) (z))), some (.bool ((Nz.nerr (s) (z)) != (0))), aU, aU, aU, aU, aU, aU, aU, aU], [], []⟩)
    (fun L3 => [])
    fol (by kernel_rfl) (fun _ => by kernel_rfl) (fun L3 => trivial) (fun L3 => ?_)
  refine aw_true ((Nz.nerr (s) (z)) != (0)) rfl hE ?_
  refine aw_sr [⟨.pure, [], none, true⟩, ⟨.pure, [], none, true⟩, ⟨.pure, [0, 1], none, true⟩]
    (fun L4 => ⟨[aI s, aI z, aI c, aU, aU, aU, some (.slice none 0 0), some (.int .i64 (Nz.nerr (s) (z))), some (.int .i64 (Nz.nerr (s) (z))), aI s, aI z, some (.int .i64 (Nz.nerr (s) (z))), some (.int .i64 (Nz.nerr (s) (z))), some (.bool ((Nz.nerr (s) (z)) != (0))), some (.int .i64 (Nz.nerr (s) (z))), aU, aU, aU, aU, aU, aU, aU], [], []⟩)
    (fun L4 => [])
    fol (by kernel_rfl) (fun _ => by kernel_rfl) (fun L4 => trivial) (fun L4 => ?_)
  refine aw_ret ?_
  refine ret_thn ?_
  refine fin_ret none [0, 0] (.tuple #[.slice none 0 0, .int .i64 (Nz.nerr (s) (z))]) [] (.inr rfl) rfl (by kernel_rfl) trivial (fun w' hb => ?_)
  exact ⟨rfl, hb⟩

set_option maxRecDepth 100000 in
set_option maxHeartbeats 400000 in
theorem Nz.refE2 (s z c : Int) (hE : ((Nz.nerr (s) (z)) != (0)) = false) (hc : Sb.inB (c) (0) (16384) = false) : CallOb Try.prog 12 #[aN s, aN z, aN c] [] (.tuple #[.slice none 0 0, aN 2]) := by
  intro w hw
  refine calls_aw [aI s, aI z, aI c, aU, aU, aU, aU, aU, aU, aU, aU, aU, aU, aU, aU, aU, aU, aU, aU, aU, aU, aU] [] Try.func12 rfl (by kernel_rfl) (fun e x h => by cases h) ?_
  refine aw_sr [⟨.pure, [], none, true⟩, ⟨.pure, [0], none, true⟩]
    (fun L1 => ⟨[aI s, aI z, aI c, aU, aU, aU, some (.slice none 0 0), aI 0, aU, aU, aU, aU, aU, aU, aU, aU, aU, aU, aU, aU, aU, aU], [], []⟩)
    (fun L1 => [])
    fol (by kernel_rfl) (fun _ => by kernel_rfl) (fun L1 => trivial) (fun L1 => ?_)
  refine aw_seq ?_
  refine aw_sr [⟨.pure, [], none, true⟩, ⟨.pure, [], none, true⟩, ⟨(.call [] (.int .i64 (Nz.nerr (s) (z)))), [0, 1], none, true⟩, ⟨.pure, [0, 1, 2], none, true⟩]
    (fun L2 => ⟨[aI s, aI z, aI c, aU, aU, aU, some (.slice none 0 0), aI 0, some (.int .i64 (Nz.nerr (s) (z))), aI s, aI z, some (.int .i64 (Nz.nerr (s) (z))), aU, aU, aU, aU, aU, aU, aU, aU, aU, aU], [], []⟩)
    (fun L2 => [CallOb Try.prog 29 #[aN s, aN z] [] (.int .i64 (Nz.nerr (s) (z)))])
    fol (by kernel_rfl) (fun _ => by kernel_rfl) (fun L2 => ⟨(Nz.nerr_ob _ _), trivial⟩) (fun L2 => ?_)
  refine aw_sr [⟨.pure, [], none, true⟩, ⟨.pure, [0], none, true⟩]
    (fun L3 => ⟨[aI s, aI z, aI c, aU, aU, aU, some (.slice none 0 0), aI 0, some (.int .i64 (Nz.nerr (s) (z))), aI s, aI z, some (.int .i64 (Nz.nerr (s) (z))), some (.int .i64 (Nz.nerr (s) (z))), some (.bool ((Nz.nerr (s) (z)) != (0))), aU, aU, aU, aU, aU, aU, aU, aU], [], []⟩)
    (fun L3 => [])
    fol (by kernel_rfl) (fun _ => by kernel_rfl) (fun L3 => trivial) (fun L3 => ?_)
  refine aw_false ((Nz.nerr (s) (z)) != (0)) rfl hE ?_
  refine aw_skip ?_
  refine nrm_thn ?_
  refine aw_seq ?_
  refine aw_sr [⟨.pure, [], none, true⟩, ⟨(.call [] (.bool (Sb.inB (c) (0) (16384)))), [0], none, true⟩, ⟨.pure, [0, 1], none, true⟩]
    (fun L4 => ⟨[aI s, aI z, aI c, aU, aU, aU, some (.slice none 0 0), aI 0, some (.int .i64 (Nz.nerr (s) (z))), aI s, aI z, some (.int .i64 (Nz.nerr (s) (z))), some (.int .i64 (Nz.nerr (s) (z))), some (.bool ((Nz.nerr (s) (z)) != (0))), aU, aI c, some (.bool (Sb.inB (c) (0) (16384))), some (.bool (!(Sb.inB (c) (0) (16384)))), aU, aU, aU, aU], [], []⟩)
    (fun L4 => [CallOb Try.prog 14 #[aN c, aN 0, aN 16384] [] (.bool (Sb.inB (c) (0) (16384)))])
    fol (by kernel_rfl) (fun _ => by kernel_rfl) (fun L4 => ⟨(Sb.withinR _ _ _), trivial⟩) (fun L4 => ?_)
  refine aw_true (!(Sb.inB (c) (0) (16384))) rfl (by rw [hc]; rfl) ?_
  refine aw_sr [⟨.pure, [], none, true⟩, ⟨.pure, [0], none, true⟩]
    (fun L5 => ⟨[aI s, aI z, aI c, aU, aU, aU, some (.slice none 0 0), aI 2, some (.int .i64 (Nz.nerr (s) (z))), aI s, aI z, some (.int .i64 (Nz.nerr (s) (z))), some (.int .i64 (Nz.nerr (s) (z))), some (.bool ((Nz.nerr (s) (z)) != (0))), aU, aI c, some (.bool (Sb.inB (c) (0) (16384))), some (.bool (!(Sb.inB (c) (0) (16384)))), aU, aU, aU, aU], [], []⟩)
    (fun L5 => [])
    fol (by kernel_rfl) (fun _ => by kernel_rfl) (fun L5 => trivial) (fun L5 => ?_)
  refine aw_ret ?_
  refine ret_thn ?_
  refine fin_ret none [0, 0] (.tuple #[.slice none 0 0, aN 2]) [] (.inr rfl) rfl (by kernel_rfl) trivial (fun w' hb => ?_)
  exact ⟨rfl, hb⟩

set_option maxRecDepth 100000 in
set_option maxHeartbeats 400000 in
theorem Nz.refO (s z : Int) (N : Nat) (hN : N ≤ 16384) (hd : IntKind.i64.wrap ((IntKind.i64.wrap ((2) * (z))) + (1)) ≠ 0) (hE : ((Nz.nerr (s) (z)) != (0)) = false) (hc : Sb.inB (((N : Nat) : Int)) (0) (16384) = true) : CallN Try.prog 12 #[aN s, aN z, .int .i64 (((N : Nat) : Int))] [] (fun l => .tuple #[.slice (l.a) (N) (l.n), aN 0]) (fun l => .row (l.a) (N) (l.n) 1 (iv (Nz.ls s z N)) 3 true) := by
  intro w hw
  refine calls_aw [aI s, aI z, some (.int .i64 (((N : Nat) : Int))), aU, aU, aU, aU, aU, aU, aU, aU, aU, aU, aU, aU, aU, aU, aU, aU, aU, aU, aU] [] Try.func12 rfl (by kernel_rfl) (fun e x h => by cases h) ?_
  refine aw_sr [⟨.pure, [], none, true⟩, ⟨.pure, [0], none, true⟩]
    (fun L1 => ⟨[aI s, aI z, some (.int .i64 (((N : Nat) : Int))), aU, aU, aU, some (.slice none 0 0), aI 0, aU, aU, aU, aU, aU, aU, aU, aU, aU, aU, aU, aU, aU, aU], [], []⟩)
    (fun L1 => [])
    fol (by kernel_rfl) (fun _ => by kernel_rfl) (fun L1 => trivial) (fun L1 => ?_)
  refine aw_seq ?_
  refine aw_sr [⟨.pure, [], none, true⟩, ⟨.pure, [], none, true⟩, ⟨(.call [] (.int .i64 (Nz.nerr (s) (z)))), [0, 1], none, true⟩, ⟨.pure, [0, 1, 2], none, true⟩]
    (fun L2 => ⟨[aI s, aI z, some (.int .i64 (((N : Nat) : Int))), aU, aU, aU, some (.slice none 0 0), aI 0, some (.int .i64 (Nz.nerr (s) (z))), aI s, aI z, some (.int .i64 (Nz.nerr (s) (z))), aU, aU, aU, aU, aU, aU, aU, aU, aU, aU], [], []⟩)
    (fun L2 => [CallOb Try.prog 29 #[aN s, aN z] [] (.int .i64 (Nz.nerr (s) (z)))])
    fol (by kernel_rfl) (fun _ => by kernel_rfl) (fun L2 => ⟨(Nz.nerr_ob _ _), trivial⟩) (fun L2 => ?_)
  refine aw_sr [⟨.pure, [], none, true⟩, ⟨.pure, [0], none, true⟩]
    (fun L3 => ⟨[aI s, aI z, some (.int .i64 (((N : Nat) : Int))), aU, aU, aU, some (.slice none 0 0), aI 0, some (.int .i64 (Nz.nerr (s) (z))), aI s, aI z, some (.int .i64 (Nz.nerr (s) (z))), some (.int .i64 (Nz.nerr (s) (z))), some (.bool ((Nz.nerr (s) (z)) != (0))), aU, aU, aU, aU, aU, aU, aU, aU], [], []⟩)
    (fun L3 => [])
    fol (by kernel_rfl) (fun _ => by kernel_rfl) (fun L3 => trivial) (fun L3 => ?_)
  refine aw_false ((Nz.nerr (s) (z)) != (0)) rfl hE ?_
  refine aw_skip ?_
  refine nrm_thn ?_
  refine aw_seq ?_
  refine aw_sr [⟨.pure, [], none, true⟩, ⟨(.call [] (.bool (Sb.inB (((N : Nat) : Int)) (0) (16384)))), [0], none, true⟩, ⟨.pure, [0, 1], none, true⟩]
    (fun L4 => ⟨[aI s, aI z, some (.int .i64 (((N : Nat) : Int))), aU, aU, aU, some (.slice none 0 0), aI 0, some (.int .i64 (Nz.nerr (s) (z))), aI s, aI z, some (.int .i64 (Nz.nerr (s) (z))), some (.int .i64 (Nz.nerr (s) (z))), some (.bool ((Nz.nerr (s) (z)) != (0))), aU, some (.int .i64 (((N : Nat) : Int))), some (.bool (Sb.inB (((N : Nat) : Int)) (0) (16384))), some (.bool (!(Sb.inB (((N : Nat) : Int)) (0) (16384)))), aU, aU, aU, aU], [], []⟩)
    (fun L4 => [CallOb Try.prog 14 #[.int .i64 (((N : Nat) : Int)), aN 0, aN 16384] [] (.bool (Sb.inB (((N : Nat) : Int)) (0) (16384)))])
    fol (by kernel_rfl) (fun _ => by kernel_rfl) (fun L4 => ⟨(Sb.withinR _ _ _), trivial⟩) (fun L4 => ?_)
  refine aw_false (!(Sb.inB (((N : Nat) : Int)) (0) (16384))) rfl (by rw [hc]; rfl) ?_
  refine aw_skip ?_
  refine nrm_thn ?_
  refine aw_sr [⟨.pure, [], none, true⟩, ⟨.pure, [], none, true⟩, ⟨.pure, [], none, true⟩, ⟨(.callN [] (fun l => .slice (l.a) (N) (l.n)) (fun l => .row (l.a) (N) (l.n) 1 (iv (Nz.ls s z N)) 3 true)), [0, 1, 2], none, true⟩, ⟨.pure, [0, 1, 2, 3], none, true⟩, ⟨.pure, [0, 1, 2, 3, 4], none, true⟩]
    (fun L5 => ⟨[aI s, aI z, some (.int .i64 (((N : Nat) : Int))), aU, aU, aU, some (.slice ((L5 3).a) (N) ((L5 3).n)), aI 0, some (.int .i64 (Nz.nerr (s) (z))), aI s, aI z, some (.int .i64 (Nz.nerr (s) (z))), some (.int .i64 (Nz.nerr (s) (z))), some (.bool ((Nz.nerr (s) (z)) != (0))), aU, some (.int .i64 (((N : Nat) : Int))), some (.bool (Sb.inB (((N : Nat) : Int)) (0) (16384))), some (.bool (!(Sb.inB (((N : Nat) : Int)) (0) (16384)))), aI s, aI z, some (.int .i64 (((N : Nat) : Int))), some (.slice ((L5 3).a) (N) ((L5 3).n))], [.row ((L5 3).a) (N) ((L5 3).n) 1 (iv (Nz.ls s z N)) 3 true], []⟩)
    (fun L5 => [CallN Try.prog 30 #[aN s, aN z, .int .i64 (((N : Nat) : Int))] [] (fun l => .slice (l.a) (N) (l.n)) (fun l => .row (l.a) (N) (l.n) 1 (iv (Nz.ls s z N)) 3 true)])
    fol (by kernel_rfl) (fun _ => by kernel_rfl) (fun L5 => ⟨(Nz.rnoise _ _ N (by omega) hd), trivial⟩) (fun L5 => ?_)
  refine aw_ret ?_
  exact fin_new none [0, 0] (.tuple #[.slice ((L5 3).a) (N) ((L5 3).n), aN 0]) [] (⟨0, (L5 3).a, (L5 3).n⟩) (fun l => .tuple #[.slice (l.a) (N) (l.n), aN 0]) (fun l => .row (l.a) (N) (l.n) 1 (iv (Nz.ls s z N)) 3 true) 0 (.inr rfl) rfl (by kernel_rfl) trivial rfl rfl rfl

set_option maxRecDepth 100000 in
set_option maxHeartbeats 400000 in
theorem Nz.ints1 (g1 o1 c1 g2 o2 c2 N : Nat) (f : List Int) (hf : f.length = N) (hl : N ≤ 1000000) : CallOb Try.prog 13 #[.slice (some ⟨g1, o1, none⟩) (N) (c1), .slice (some ⟨g2, o2, none⟩) (N) (c2)] [.vue (g1) (o1) (iv (f)), .vue (g2) (o2) (iv (f))] (.bool (true)) := by
  intro w hw
  refine calls_aw [some (.slice (some ⟨g1, o1, none⟩) (N) (c1)), some (.slice (some ⟨g2, o2, none⟩) (N) (c2)), aU, aU, aU, aU, aU, aU, aU, aU, aU, aU, aU, aU, aU, aU, aU, aU, aU, aU, aU, aU, aU, aU, aU, aU] [.vue (g1) (o1) (iv (f)), .vue (g2) (o2) (iv (f))] Try.func13 rfl (by kernel_rfl) (esOk hw (by simp [Cel.mine])) ?_
  refine aw_sr [⟨.pure, [], none, true⟩]
    (fun L1 => ⟨[some (.slice (some ⟨g1, o1, none⟩) (N) (c1)), some (.slice (some ⟨g2, o2, none⟩) (N) (c2)), aU, aU, aF, aU, aU, aU, aU, aU, aU, aU, aU, aU, aU, aU, aU, aU, aU, aU, aU, aU, aU, aU, aU, aU], [.vue (g1) (o1) (iv (f)), .vue (g2) (o2) (iv (f))], []⟩)
    (fun L1 => [])
    fol (by kernel_rfl) (fun _ => by kernel_rfl) (fun L1 => trivial) (fun L1 => ?_)
  refine aw_seq ?_
  refine aw_sr [⟨.pure, [], none, true⟩, ⟨.pure, [0], none, true⟩, ⟨.pure, [], none, true⟩, ⟨.pure, [2], none, true⟩, ⟨.pure, [0, 1, 2, 3], none, true⟩]
    (fun L2 => ⟨[some (.slice (some ⟨g1, o1, none⟩) (N) (c1)), some (.slice (some ⟨g2, o2, none⟩) (N) (c2)), aU, aU, aF, aU, some (.slice (some ⟨g1, o1, none⟩) (N) (c1)), some (.int .i64 (((N : Nat) : Int))), some (.slice (some ⟨g2, o2, none⟩) (N) (c2)), some (.int .i64 (((N : Nat) : Int))), some (.bool ((((N : Nat) : Int)) != (((N : Nat) : Int)))), aU, aU, aU, aU, aU, aU, aU, aU, aU, aU, aU, aU, aU, aU, aU], [.vue (g1) (o1) (iv (f)), .vue (g2) (o2) (iv (f))], []⟩)
    (fun L2 => [])
    fol (by kernel_rfl) (fun _ => by kernel_rfl) (fun L2 => trivial) (fun L2 => ?_)
  refine aw_false ((((N : Nat) : Int)) != (((N : Nat) : Int))) rfl (bne_self_eq_false _) ?_
  refine aw_skip ?_
  refine nrm_thn ?_
  refine aw_seq ?_
  refine aw_sr [⟨.pure, [], none, true⟩]
    (fun L3 => ⟨[some (.slice (some ⟨g1, o1, none⟩) (N) (c1)), some (.slice (some ⟨g2, o2, none⟩) (N) (c2)), aU, aU, aF, aI 0, some (.slice (some ⟨g1, o1, none⟩) (N) (c1)), some (.int .i64 (((N : Nat) : Int))), some (.slice (some ⟨g2, o2, none⟩) (N) (c2)), some (.int .i64 (((N : Nat) : Int))), some (.bool ((((N : Nat) : Int)) != (((N : Nat) : Int)))), aU, aU, aU, aU, aU, aU, aU, aU, aU, aU, aU, aU, aU, aU, aU], [.vue (g1) (o1) (iv (f)), .vue (g2) (o2) (iv (f))], []⟩)
    (fun L3 => [])
    fol (by kernel_rfl) (fun _ => by kernel_rfl) (fun L3 => trivial) (fun L3 => ?_)
  refine aw_block ?_
  refine aw_loop (ι := {i : Ix // i.k ≤ N ∧ (True)}) (fun i => ⟨[some (.slice (some ⟨g1, o1, none⟩) (N) (c1)), some (.slice (some ⟨g2, o2, none⟩) (N) (c2)), none, none, none, some (.int .i64 (((i.1.k : Nat) : Int))), none, none, none, none, none, none, none, none, none, none, none, none, none, none, none, none, none, none, none, none], [.vue (g1) (o1) (iv (f)), .vue (g2) (o2) (iv (f))], []⟩) (fun i => N - i.1.k) ⟨⟨0, none, 0⟩, Nat.zero_le _, trivial⟩ (weak_to [true, true, false, false, false, true, false, false, false, false, false, false, false, false, false, false, false, false, false, false, false, false, false, false, false, false] [0, 1] (by decide) (by kernel_rfl)) ?_
  rintro ⟨⟨k, a, c⟩, hkn, hk⟩
  show Aw _ _ _ _ ⟨[some (.slice (some ⟨g1, o1, none⟩) (N) (c1)), some (.slice (some ⟨g2, o2, none⟩) (N) (c2)), none, none, none, some (.int .i64 (((k : Nat) : Int))), none, none, none, none, none, none, none, none, none, none, none, none, none, none, none, none, none, none, none, none], [.vue (g1) (o1) (iv (f)), .vue (g2) (o2) (iv (f))], []⟩ _
  simp only at hk hkn
  refine aw_seq ?_
  refine aw_sr [⟨.pure, [], none, true⟩, ⟨.pure, [], none, true⟩, ⟨.pure, [1], none, true⟩, ⟨.pure, [0, 1, 2], none, true⟩]
    (fun L4 => ⟨[some (.slice (some ⟨g1, o1, none⟩) (N) (c1)), some (.slice (some ⟨g2, o2, none⟩) (N) (c2)), none, none, none, some (.int .i64 (((k : Nat) : Int))), none, none, none, none, none, some (.int .i64 (((k : Nat) : Int))), some (.slice (some ⟨g1, o1, none⟩) (N) (c1)), some (.int .i64 (((N : Nat) : Int))), some (.bool (decide ((((k : Nat) : Int)) < (((N : Nat) : Int))))), none, none, none, none, none, none, none, none, none, none, none], [.vue (g1) (o1) (iv (f)), .vue (g2) (o2) (iv (f))], []⟩)
    (fun L4 => [])
    fol (by kernel_rfl) (fun _ => by kernel_rfl) (fun L4 => trivial) (fun L4 => ?_)
  refine aw_cond (decide ((((k : Nat) : Int)) < (((N : Nat) : Int)))) rfl (fun h5 => ?_) (fun h5 => ?_)
  ·
    have h5' := of_decide_eq_true h5
    refine aw_skip ?_
    refine nrm_thn ?_
    refine aw_seq ?_
    refine aw_block ?_
    refine aw_sr [⟨.pure, [], none, true⟩, ⟨.pure, [], none, true⟩, ⟨.idx, [0, 1], some (.pointer (some ⟨g1, o1 + k, none⟩)), true⟩, ⟨(.read 0), [0, 1, 2], some (.int .i64 ((f).getD k 0)), true⟩, ⟨.pure, [], none, true⟩, ⟨.pure, [], none, true⟩, ⟨.idx, [4, 5], some (.pointer (some ⟨g2, o2 + k, none⟩)), true⟩, ⟨(.read 1), [4, 5, 6], some (.int .i64 ((f).getD k 0)), true⟩, ⟨.pure, [0, 1, 2, 3, 4, 5, 6, 7], none, true⟩]
      (fun L6 => ⟨[some (.slice (some ⟨g1, o1, none⟩) (N) (c1)), some (.slice (some ⟨g2, o2, none⟩) (N) (c2)), none, none, none, some (.int .i64 (((k : Nat) : Int))), none, none, none, none, none, some (.int .i64 (((k : Nat) : Int))), some (.slice (some ⟨g1, o1, none⟩) (N) (c1)), some (.int .i64 (((N : Nat) : Int))), some (.bool (decide ((((k : Nat) : Int)) < (((N : Nat) : Int))))), none, none, some (.slice (some ⟨g1, o1, none⟩) (N) (c1)), some (.int .i64 (((k : Nat) : Int))), some (.pointer (some ⟨g1, o1 + k, none⟩)), some (.int .i64 ((f).getD k 0)), some (.slice (some ⟨g2, o2, none⟩) (N) (c2)), some (.int .i64 (((k : Nat) : Int))), some (.pointer (some ⟨g2, o2 + k, none⟩)), some (.int .i64 ((f).getD k 0)), some (.bool (((f).getD k 0) != ((f).getD k 0)))], [.vue (g1) (o1) (iv (f)), .vue (g2) (o2) (iv (f))], []⟩)
      (fun L6 => [(.pointer (some ⟨g1, o1 + Int.toNat (((k : Nat) : Int)) * 1, none⟩) : Value) = .pointer (some ⟨g1, o1 + k, none⟩), (0 : Int) ≤ ((k : Nat) : Int), (((k : Nat) : Int)) < ((N : Nat) : Int), (.int .i64 ((f).getD k 0) : Value) = .int .i64 ((f).getD k 0), g1 = g1, ∃ j, o1 + k = o1 + j ∧ (iv (f))[j]? = some (.int .i64 ((f).getD k 0)), (.pointer (some ⟨g2, o2 + Int.toNat (((k : Nat) : Int)) * 1, none⟩) : Value) = .pointer (some ⟨g2, o2 + k, none⟩), (0 : Int) ≤ ((k : Nat) : Int), (((k : Nat) : Int)) < ((N : Nat) : Int), (.int .i64 ((f).getD k 0) : Value) = .int .i64 ((f).getD k 0), g2 = g2, ∃ j, o2 + k = o2 + j ∧ (iv (f))[j]? = some (.int .i64 ((f).getD k 0))])
      fol (by kernel_rfl) (fun _ => by kernel_rfl) (fun L6 => ⟨(ptr_eq (by simp <;> omega)), (by omega), (by omega), rfl, rfl, ⟨k, rfl, iv_get (by omega)⟩, (ptr_eq (by simp <;> omega)), (by omega), (by omega), rfl, rfl, ⟨k, rfl, iv_get (by omega)⟩, trivial⟩) (fun L6 => ?_)
    refine aw_false (((f).getD k 0) != ((f).getD k 0)) rfl (bne_self_eq_false _) ?_
    refine aw_skip ?_
    refine nrm_inB ?_
    refine nrm_thn ?_
    refine aw_region [⟨.pure, [], none, true⟩, ⟨.pure, [0], some (.int .i64 (((k + 1 : Nat) : Int))), true⟩, ⟨.pure, [0, 1], none, true⟩]
      (fun L7 => ⟨[some (.slice (some ⟨g1, o1, none⟩) (N) (c1)), some (.slice (some ⟨g2, o2, none⟩) (N) (c2)), none, none, none, some (.int .i64 (((k + 1 : Nat) : Int))), none, none, none, none, none, some (.int .i64 (((k : Nat) : Int))), some (.slice (some ⟨g1, o1, none⟩) (N) (c1)), some (.int .i64 (((N : Nat) : Int))), some (.bool (decide ((((k : Nat) : Int)) < (((N : Nat) : Int))))), some (.int .i64 (((k : Nat) : Int))), some (.int .i64 (((k + 1 : Nat) : Int))), some (.slice (some ⟨g1, o1, none⟩) (N) (c1)), some (.int .i64 (((k : Nat) : Int))), some (.pointer (some ⟨g1, o1 + k, none⟩)), some (.int .i64 ((f).getD k 0)), some (.slice (some ⟨g2, o2, none⟩) (N) (c2)), some (.int .i64 (((k : Nat) : Int))), some (.pointer (some ⟨g2, o2 + k, none⟩)), some (.int .i64 ((f).getD k 0)), some (.bool (((f).getD k 0) != ((f).getD k 0)))], [.vue (g1) (o1) (iv (f)), .vue (g2) (o2) (iv (f))], []⟩)
      (fun L7 => [(.int .i64 (IntKind.i64.wrap ((((k : Nat) : Int)) + (1))) : Value) = .int .i64 (((k + 1 : Nat) : Int))])
      fol (by kernel_rfl) (fun _ => by kernel_rfl) (fun L7 => ⟨(Nz.wrap_succ (by omega)), trivial⟩) (fun L7 => ?_)
    refine nrm_thn ?_
    refine ⟨⟨⟨k + 1, none, 0⟩, by simp only; omega, by first | exact True.intro | (simp only; trivial)⟩, ?_, by simp only; omega⟩
    show Weak ⟨[some (.slice (some ⟨g1, o1, none⟩) (N) (c1)), some (.slice (some ⟨g2, o2, none⟩) (N) (c2)), none, none, none, some (.int .i64 (((k + 1 : Nat) : Int))), none, none, none, none, none, some (.int .i64 (((k : Nat) : Int))), some (.slice (some ⟨g1, o1, none⟩) (N) (c1)), some (.int .i64 (((N : Nat) : Int))), some (.bool (decide ((((k : Nat) : Int)) < (((N : Nat) : Int))))), some (.int .i64 (((k : Nat) : Int))), some (.int .i64 (((k + 1 : Nat) : Int))), some (.slice (some ⟨g1, o1, none⟩) (N) (c1)), some (.int .i64 (((k : Nat) : Int))), some (.pointer (some ⟨g1, o1 + k, none⟩)), some (.int .i64 ((f).getD k 0)), some (.slice (some ⟨g2, o2, none⟩) (N) (c2)), some (.int .i64 (((k : Nat) : Int))), some (.pointer (some ⟨g2, o2 + k, none⟩)), some (.int .i64 ((f).getD k 0)), some (.bool (((f).getD k 0) != ((f).getD k 0)))], [.vue (g1) (o1) (iv (f)), .vue (g2) (o2) (iv (f))], []⟩ ⟨[some (.slice (some ⟨g1, o1, none⟩) (N) (c1)), some (.slice (some ⟨g2, o2, none⟩) (N) (c2)), none, none, none, some (.int .i64 ((((k + 1) : Nat) : Int))), none, none, none, none, none, none, none, none, none, none, none, none, none, none, none, none, none, none, none, none], [.vue (g1) (o1) (iv (f)), .vue (g2) (o2) (iv (f))], []⟩
    exact weak_to [true, true, false, false, false, true, false, false, false, false, false, false, false, false, false, false, false, false, false, false, false, false, false, false, false, false] [0, 1] (by decide) (by kernel_rfl)
  ·
    have h5' := of_decide_eq_false h5
    refine aw_exit ?_
    refine ex_thn ?_
    refine ex_thn ?_
    refine ex_hit ?_
    refine nrm_thn ?_
    refine aw_sr [⟨.pure, [], none, true⟩]
      (fun L8 => ⟨[some (.slice (some ⟨g1, o1, none⟩) (N) (c1)), some (.slice (some ⟨g2, o2, none⟩) (N) (c2)), none, none, aT, some (.int .i64 (((k : Nat) : Int))), none, none, none, none, none, some (.int .i64 (((k : Nat) : Int))), some (.slice (some ⟨g1, o1, none⟩) (N) (c1)), some (.int .i64 (((N : Nat) : Int))), some (.bool (decide ((((k : Nat) : Int)) < (((N : Nat) : Int))))), none, none, none, none, none, none, none, none, none, none, none], [.vue (g1) (o1) (iv (f)), .vue (g2) (o2) (iv (f))], []⟩)
      (fun L8 => [])
      fol (by kernel_rfl) (fun _ => by kernel_rfl) (fun L8 => trivial) (fun L8 => ?_)
    refine aw_ret ?_
    refine fin_ret none [0] (.bool (true)) [] (.inr rfl) rfl (by kernel_rfl) trivial (fun w' hb => ?_)
    exact ⟨rfl, hb⟩

set_option maxRecDepth 100000 in
set_option maxHeartbeats 400000 in
theorem Nz.ints0 (a1 a2 : Option Addr) (c1 c2 : Nat) : CallOb Try.prog 13 #[.slice (a1) (0) (c1), .slice (a2) (0) (c2)] [] (.bool (true)) := by
  intro w hw
  refine calls_aw [some (.slice (a1) (0) (c1)), some (.slice (a2) (0) (c2)), aU, aU, aU, aU, aU, aU, aU, aU, aU, aU, aU, aU, aU, aU, aU, aU, aU, aU, aU, aU, aU, aU, aU, aU] [] Try.func13 rfl (by kernel_rfl) (fun e x h => by cases h) ?_
  refine aw_sr [⟨.pure, [], none, true⟩]
    (fun L1 => ⟨[some (.slice (a1) (0) (c1)), some (.slice (a2) (0) (c2)), aU, aU, aF, aU, aU, aU, aU, aU, aU, aU, aU, aU, aU, aU, aU, aU, aU, aU, aU, aU, aU, aU, aU, aU], [], []⟩)
    (fun L1 => [])
    fol (by kernel_rfl) (fun _ => by kernel_rfl) (fun L1 => trivial) (fun L1 => ?_)
  refine aw_seq ?_
  refine aw_sr [⟨.pure, [], none, true⟩, ⟨.pure, [0], none, true⟩, ⟨.pure, [], none, true⟩, ⟨.pure, [2], none, true⟩, ⟨.pure, [0, 1, 2, 3], none, true⟩]
    (fun L2 => ⟨[some (.slice (a1) (0) (c1)), some (.slice (a2) (0) (c2)), aU, aU, aF, aU, some (.slice (a1) (0) (c1)), aI 0, some (.slice (a2) (0) (c2)), aI 0, aF, aU, aU, aU, aU, aU, aU, aU, aU, aU, aU, aU, aU, aU, aU, aU], [], []⟩)
    (fun L2 => [])
    fol (by kernel_rfl) (fun _ => by kernel_rfl) (fun L2 => trivial) (fun L2 => ?_)
  refine aw_false (false) rfl rfl ?_
  refine aw_skip ?_
  refine nrm_thn ?_
  refine aw_seq ?_
  refine aw_sr [⟨.pure, [], none, true⟩]
    (fun L3 => ⟨[some (.slice (a1) (0) (c1)), some (.slice (a2) (0) (c2)), aU, aU, aF, aI 0, some (.slice (a1) (0) (c1)), aI 0, some (.slice (a2) (0) (c2)), aI 0, aF, aU, aU, aU, aU, aU, aU, aU, aU, aU, aU, aU, aU, aU, aU, aU], [], []⟩)
    (fun L3 => [])
    fol (by kernel_rfl) (fun _ => by kernel_rfl) (fun L3 => trivial) (fun L3 => ?_)
  refine aw_block ?_
  refine aw_rounds 1 ?_
  refine aw_round ?_
  refine aw_seq ?_
  refine aw_sr [⟨.pure, [], none, true⟩, ⟨.pure, [], none, true⟩, ⟨.pure, [1], none, true⟩, ⟨.pure, [0, 1, 2], none, true⟩]
    (fun L4 => ⟨[some (.slice (a1) (0) (c1)), some (.slice (a2) (0) (c2)), aU, aU, aF, aI 0, some (.slice (a1) (0) (c1)), aI 0, some (.slice (a2) (0) (c2)), aI 0, aF, aI 0, some (.slice (a1) (0) (c1)), aI 0, aF, aU, aU, aU, aU, aU, aU, aU, aU, aU, aU, aU], [], []⟩)
    (fun L4 => [])
    fol (by kernel_rfl) (fun _ => by kernel_rfl) (fun L4 => trivial) (fun L4 => ?_)
  refine aw_false (false) rfl rfl ?_
  refine aw_exit ?_
  refine ex_thn ?_
  refine ex_thn ?_
  refine ex_hit ?_
  refine nrm_thn ?_
  refine aw_sr [⟨.pure, [], none, true⟩]
    (fun L5 => ⟨[some (.slice (a1) (0) (c1)), some (.slice (a2) (0) (c2)), aU, aU, aT, aI 0, some (.slice (a1) (0) (c1)), aI 0, some (.slice (a2) (0) (c2)), aI 0, aF, aI 0, some (.slice (a1) (0) (c1)), aI 0, aF, aU, aU, aU, aU, aU, aU, aU, aU, aU, aU, aU], [], []⟩)
    (fun L5 => [])
    fol (by kernel_rfl) (fun _ => by kernel_rfl) (fun L5 => trivial) (fun L5 => ?_)
  refine aw_ret ?_
  refine fin_ret none [0] (.bool (true)) [] (.inr rfl) rfl (by kernel_rfl) trivial (fun w' hb => ?_)
  exact ⟨rfl, hb⟩

theorem Nz.ints {f : List Int} {N : Nat} (hf : f.length = N) (hl : N ≤ 1000000) (a1 a2 : Option Addr) (c1 c2 : Nat) : CallOb Try.prog 13 #[.slice a1 N c1, .slice a2 N c2] [.row a1 N c1 1 (iv f) 3 true, .row a2 N c2 1 (iv f) 3 true] (.bool true) := by
  intro W hw
  rcases Nat.eq_zero_or_pos N with h0 | h0
  · subst h0
    exact Nz.ints0 a1 a2 c1 c2 W (fun e he => by cases he)
  · obtain ⟨g1, rfl⟩ := row_at (hw (.row a1 N c1 1 (iv f) 3 true) (by simp)) h0
    obtain ⟨g2, rfl⟩ := row_at (hw (.row a2 N c2 1 (iv f) 3 true) (by simp)) h0
    refine Nz.ints1 g1 0 c1 g2 0 c2 N f hf hl W fun e he => ?_
    rcases List.mem_cons.1 he with rfl | he
    · exact row_vue (hw (.row (some ⟨g1, 0, none⟩) N c1 1 (iv f) 3 true) (by simp)) fun _ _ h => h
    · rw [List.mem_singleton.1 he]
      exact row_vue (hw (.row (some ⟨g2, 0, none⟩) N c2 1 (iv f) 3 true) (by simp)) fun _ _ h => h
theorem Nz.intsP {f : List Int} (y : Int) {N : Nat} (hf : f.length = N) (hl : N ≤ 1000000) (g : Nat) (a2 : Option Addr) (c1 c2 : Nat) : CallOb Try.prog 13 #[.slice (some ⟨g, 0, none⟩) N c1, .slice a2 N c2] [.row (some ⟨g, 0, none⟩) (N + 1) c1 1 (iv (f ++ [y])) 3 true, .row a2 N c2 1 (iv f) 3 true] (.bool true) := by
  intro W hw
  rcases Nat.eq_zero_or_pos N with h0 | h0
  · subst h0
    exact Nz.ints0 _ a2 c1 c2 W (fun e he => by cases he)
  · obtain ⟨g2, rfl⟩ := row_at (hw (.row a2 N c2 1 (iv f) 3 true) (by simp)) h0
    refine Nz.ints1 g 0 c1 g2 0 c2 N f hf hl W fun e he => ?_
    rcases List.mem_cons.1 he with rfl | he
    · exact row_vue (hw (.row (some ⟨g, 0, none⟩) (N + 1) c1 1 (iv (f ++ [y])) 3 true) (by simp)) (iv_pre f y)
    · rw [List.mem_singleton.1 he]
      exact row_vue (hw (.row (some ⟨g2, 0, none⟩) N c2 1 (iv f) 3 true) (by simp)) fun _ _ h => h
set_option maxRecDepth 100000 in
set_option maxHeartbeats 400000 in
theorem Nz.law1 (s z c : Int) (h1 : decide (c > 60) = true) (h2 : decide (c ≤ 16384) = true) : CallOb Try.prog 4 #[aN s, aN z, aN c] [] (.bool (true)) := by
  intro w hw
  refine calls_aw [aI s, aI z, aI c, aU, aU, aU, aU, aU, aU, aU, aU, aU, aU, aU, aU, aU, aU, aU, aU, aU, aU, aU, aU, aU, aU, aU, aU, aU, aU, aU, aU, aU, aU, aU, aU, aU, aU, aU, aU, aU, aU, aU, aU, aU, aU, aU, aU, aU, aU, aU, aU, aU, aU, aU, aU, aU, aU, aU, aU, aU, aU, aU, aU, aU, aU, aU, aU, aU, aU, aU, aU, aU, aU, aU, aU, aU, aU, aU, aU] [] Try.func4 rfl (by kernel_rfl) (fun e x h => by cases h) ?_
  refine aw_sr [⟨.pure, [], none, true⟩]
    (fun L1 => ⟨[aI s, aI z, aI c, aU, aU, aU, aF, aU, aU, aU, aU, aU, aU, aU, aU, aU, aU, aU, aU, aU, aU, aU, aU, aU, aU, aU, aU, aU, aU, aU, aU, aU, aU, aU, aU, aU, aU, aU, aU, aU, aU, aU, aU, aU, aU, aU, aU, aU, aU, aU, aU, aU, aU, aU, aU, aU, aU, aU, aU, aU, aU, aU, aU, aU, aU, aU, aU, aU, aU, aU, aU, aU, aU, aU, aU, aU, aU, aU, aU], [], []⟩)
    (fun L1 => [])
    fol (by kernel_rfl) (fun _ => by kernel_rfl) (fun L1 => trivial) (fun L1 => ?_)
  refine aw_seq ?_
  refine aw_sr [⟨(.call [] (.bool (true))), [], none, true⟩, ⟨.pure, [0], none, true⟩]
    (fun L2 => ⟨[aI s, aI z, aI c, aU, aU, aU, aF, aU, aU, aU, aU, aU, aU, aT, aF, aU, aU, aU, aU, aU, aU, aU, aU, aU, aU, aU, aU, aU, aU, aU, aU, aU, aU, aU, aU, aU, aU, aU, aU, aU, aU, aU, aU, aU, aU, aU, aU, aU, aU, aU, aU, aU, aU, aU, aU, aU, aU, aU, aU, aU, aU, aU, aU, aU, aU, aU, aU, aU, aU, aU, aU, aU, aU, aU, aU, aU, aU, aU, aU], [], []⟩)
    (fun L2 => [CallOb Try.prog 5 #[] [] (.bool (true))])
    fol (by kernel_rfl) (fun _ => by kernel_rfl) (fun L2 => ⟨(UB.awake), trivial⟩) (fun L2 => ?_)
  refine aw_false (false) rfl rfl ?_
  refine aw_skip ?_
  refine nrm_thn ?_
  refine aw_seq ?_
  refine aw_sr [⟨.pure, [], none, true⟩, ⟨.pure, [0], none, true⟩, ⟨.pure, [0, 1], none, true⟩, ⟨.pure, [0, 1, 2], none, true⟩, ⟨.pure, [0, 1, 2, 3], none, true⟩, ⟨.pure, [0, 1, 2, 3, 4], some (.bool (decide (c ≤ 16384))), true⟩]
    (fun L3 => ⟨[aI s, aI z, aI c, aU, aU, aU, aF, aU, aU, aU, aU, aU, aU, aT, aF, aI c, some (.bool (decide (c > 60))), some (.bool (decide (c > 60))), aI c, some (.bool (decide (c ≤ 16384))), some (.bool (decide (c ≤ 16384))), aU, aU, aU, aU, aU, aU, aU, aU, aU, aU, aU, aU, aU, aU, aU, aU, aU, aU, aU, aU, aU, aU, aU, aU, aU, aU, aU, aU, aU, aU, aU, aU, aU, aU, aU, aU, aU, aU, aU, aU, aU, aU, aU, aU, aU, aU, aU, aU, aU, aU, aU, aU, aU, aU, aU, aU, aU, aU], [], []⟩)
    (fun L3 => [(decide (c > 60)) = true, (decide (c > 60)) = true, (if (decide (c > 60)) = true then (.bool (decide (c ≤ 16384)) : Value) else .bool (false)) = .bool (decide (c ≤ 16384))])
    fol (by kernel_rfl) (fun _ => by kernel_rfl) (fun L3 => ⟨h1, h1, (by rw [h1]; rfl), trivial⟩) (fun L3 => ?_)
  refine aw_true (decide (c ≤ 16384)) rfl h2 ?_
  refine aw_sr [⟨.pure, [], none, true⟩]
    (fun L4 => ⟨[aI s, aI z, aI c, aU, aU, aU, aT, aU, aU, aU, aU, aU, aU, aT, aF, aI c, some (.bool (decide (c > 60))), some (.bool (decide (c > 60))), aI c, some (.bool (decide (c ≤ 16384))), some (.bool (decide (c ≤ 16384))), aU, aU, aU, aU, aU, aU, aU, aU, aU, aU, aU, aU, aU, aU, aU, aU, aU, aU, aU, aU, aU, aU, aU, aU, aU, aU, aU, aU, aU, aU, aU, aU, aU, aU, aU, aU, aU, aU, aU, aU, aU, aU, aU, aU, aU, aU, aU, aU, aU, aU, aU, aU, aU, aU, aU, aU, aU, aU], [], []⟩)
    (fun L4 => [])
    fol (by kernel_rfl) (fun _ => by kernel_rfl) (fun L4 => trivial) (fun L4 => ?_)
  refine aw_ret ?_
  refine ret_thn ?_
  refine fin_ret none [0] (.bool (true)) [] (.inr rfl) rfl (by kernel_rfl) trivial (fun w' hb => ?_)
  exact ⟨rfl, hb⟩

set_option maxRecDepth 100000 in
set_option maxHeartbeats 400000 in
theorem Nz.law2 (s z c e : Int) (h1 : decide (c > 60) = false) (hs : IntKind.i64.wrap e = e) (hne : (e != 0) = true) (H1 : CallOb Try.prog 11 #[aN s, aN z, aN c] [] (.tuple #[.slice none 0 0, aN e])) (H2 : CallOb Try.prog 12 #[aN s, aN z, aN c] [] (.tuple #[.slice none 0 0, aN e])) : CallOb Try.prog 4 #[aN s, aN z, aN c] [] (.bool (true)) := by
  intro w hw
  refine calls_aw [aI s, aI z, aI c, aU, aU, aU, aU, aU, aU, aU, aU, aU, aU, aU, aU, aU, aU, aU, aU, aU, aU, aU, aU, aU, aU, aU, aU, aU, aU, aU, aU, aU, aU, aU, aU, aU, aU, aU, aU, aU, aU, aU, aU, aU, aU, aU, aU, aU, aU, aU, aU, aU, aU, aU, aU, aU, aU, aU, aU, aU, aU, aU, aU, aU, aU, aU, aU, aU, aU, aU, aU, aU, aU, aU, aU, aU, aU, aU, aU] [] Try.func4 rfl (by kernel_rfl) (fun e x h => by cases h) ?_
  refine aw_sr [⟨.pure, [], none, true⟩]
    (fun L1 => ⟨[aI s, aI z, aI c, aU, aU, aU, aF, aU, aU, aU, aU, aU, aU, aU, aU, aU, aU, aU, aU, aU, aU, aU, aU, aU, aU, aU, aU, aU, aU, aU, aU, aU, aU, aU, aU, aU, aU, aU, aU, aU, aU, aU, aU, aU, aU, aU, aU, aU, aU, aU, aU, aU, aU, aU, aU, aU, aU, aU, aU, aU, aU, aU, aU, aU, aU, aU, aU, aU, aU, aU, aU, aU, aU, aU, aU, aU, aU, aU, aU], [], []⟩)
    (fun L1 => [])
    fol (by kernel_rfl) (fun _ => by kernel_rfl) (fun L1 => trivial) (fun L1 => ?_)
  refine aw_seq ?_
  refine aw_sr [⟨(.call [] (.bool (true))), [], none, true⟩, ⟨.pure, [0], none, true⟩]
    (fun L2 => ⟨[aI s, aI z, aI c, aU, aU, aU, aF, aU, aU, aU, aU, aU, aU, aT, aF, aU, aU, aU, aU, aU, aU, aU, aU, aU, aU, aU, aU, aU, aU, aU, aU, aU, aU, aU, aU, aU, aU, aU, aU, aU, aU, aU, aU, aU, aU, aU, aU, aU, aU, aU, aU, aU, aU, aU, aU, aU, aU, aU, aU, aU, aU, aU, aU, aU, aU, aU, aU, aU, aU, aU, aU, aU, aU, aU, aU, aU, aU, aU, aU], [], []⟩)
    (fun L2 => [CallOb Try.prog 5 #[] [] (.bool (true))])
    fol (by kernel_rfl) (fun _ => by kernel_rfl) (fun L2 => ⟨(UB.awake), trivial⟩) (fun L2 => ?_)
  refine aw_false (false) rfl rfl ?_
  refine aw_skip ?_
  refine nrm_thn ?_
  refine aw_seq ?_
  refine aw_sr [⟨.pure, [], none, true⟩, ⟨.pure, [0], none, true⟩, ⟨.pure, [0, 1], none, true⟩, ⟨.pure, [0, 1, 2], none, false⟩, ⟨.pure, [0, 1, 2, 3], none, false⟩, ⟨.pure, [0, 1, 2, 3, 4], aF, true⟩]
    (fun L3 => ⟨[aI s, aI z, aI c, aU, aU, aU, aF, aU, aU, aU, aU, aU, aU, aT, aF, aI c, some (.bool (decide (c > 60))), some (.bool (decide (c > 60))), aU, aU, aF, aU, aU, aU, aU, aU, aU, aU, aU, aU, aU, aU, aU, aU, aU, aU, aU, aU, aU, aU, aU, aU, aU, aU, aU, aU, aU, aU, aU, aU, aU, aU, aU, aU, aU, aU, aU, aU, aU, aU, aU, aU, aU, aU, aU, aU, aU, aU, aU, aU, aU, aU, aU, aU, aU, aU, aU, aU, aU], [], []⟩)
    (fun L3 => [(decide (c > 60)) = false, (decide (c > 60)) = false, (if (decide (c > 60)) = true then (undef : Value) else .bool (false)) = .bool (false)])
    fol (by kernel_rfl) (fun _ => by kernel_rfl) (fun L3 => ⟨h1, h1, (by rw [h1]; rfl), trivial⟩) (fun L3 => ?_)
  refine aw_false (false) rfl rfl ?_
  refine aw_skip ?_
  refine nrm_thn ?_
  refine aw_sr [⟨.pure, [], none, true⟩, ⟨.pure, [], none, true⟩, ⟨.pure, [], none, true⟩, ⟨(.call [] (.tuple #[.slice none 0 0, aN e])), [0, 1, 2], none, true⟩, ⟨.pure, [0, 1, 2, 3], none, true⟩, ⟨.pure, [0, 1, 2, 3, 4], none, true⟩, ⟨.pure, [0, 1, 2, 3, 4], none, true⟩, ⟨.pure, [0, 1, 2, 3, 4, 5], none, true⟩, ⟨.pure, [0, 1, 2, 3, 4, 5, 6, 7], none, true⟩]
    (fun L4 => ⟨[aI s, aI z, aI c, aU, aU, aU, aF, some (.slice none 0 0), aI e, aU, aU, aU, aU, aT, aF, aI c, some (.bool (decide (c > 60))), some (.bool (decide (c > 60))), aU, aU, aF, some (.tuple #[.slice none 0 0, aN e]), aI s, aI z, aI c, some (.tuple #[.slice none 0 0, aN e]), some (.slice none 0 0), aI e, aU, aU, aU, aU, aU, aU, aU, aU, aU, aU, aU, aU, aU, aU, aU, aU, aU, aU, aU, aU, aU, aU, aU, aU, aU, aU, aU, aU, aU, aU, aU, aU, aU, aU, aU, aU, aU, aU, aU, aU, aU, aU, aU, aU, aU, aU, aU, aU, aU, aU, aU], [], []⟩)
    (fun L4 => [CallOb Try.prog 11 #[aN s, aN z, aN c] [] (.tuple #[.slice none 0 0, aN e])])
    fol (by kernel_rfl) (fun _ => by kernel_rfl) (fun L4 => ⟨(H1), trivial⟩) (fun L4 => ?_)
  refine aw_sr [⟨.pure, [], none, true⟩, ⟨.pure, [], none, true⟩, ⟨.pure, [], none, true⟩, ⟨(.call [] (.tuple #[.slice none 0 0, aN e])), [0, 1, 2], none, true⟩, ⟨.pure, [0, 1, 2, 3], none, true⟩, ⟨.pure, [0, 1, 2, 3, 4], none, true⟩, ⟨.pure, [0, 1, 2, 3, 4], none, true⟩, ⟨.pure, [0, 1, 2, 3, 4, 5], none, true⟩, ⟨.pure, [0, 1, 2, 3, 4, 5, 6, 7], none, true⟩]
    (fun L5 => ⟨[aI s, aI z, aI c, aU, aU, aU, aF, some (.slice none 0 0), aI e, some (.slice none 0 0), aI e, aU, aU, aT, aF, aI c, some (.bool (decide (c > 60))), some (.bool (decide (c > 60))), aU, aU, aF, some (.tuple #[.slice none 0 0, aN e]), aI s, aI z, aI c, some (.tuple #[.slice none 0 0, aN e]), some (.slice none 0 0), aI e, some (.tuple #[.slice none 0 0, aN e]), aI s, aI z, aI c, some (.tuple #[.slice none 0 0, aN e]), some (.slice none 0 0), aI e, aU, aU, aU, aU, aU, aU, aU, aU, aU, aU, aU, aU, aU, aU, aU, aU, aU, aU, aU, aU, aU, aU, aU, aU, aU, aU, aU, aU, aU, aU, aU, aU, aU, aU, aU, aU, aU, aU, aU, aU, aU, aU, aU, aU], [], []⟩)
    (fun L5 => [CallOb Try.prog 12 #[aN s, aN z, aN c] [] (.tuple #[.slice none 0 0, aN e])])
    fol (by kernel_rfl) (fun _ => by kernel_rfl) (fun L5 => ⟨(H2), trivial⟩) (fun L5 => ?_)
  refine aw_seq ?_
  refine aw_sr [⟨.pure, [], none, true⟩, ⟨.pure, [], none, true⟩, ⟨.pure, [0, 1], none, true⟩, ⟨.pure, [0, 1, 2], none, true⟩, ⟨.pure, [0, 1, 2, 3], none, true⟩, ⟨.pure, [0, 1, 2, 3], none, true⟩, ⟨(.call [] (.bool (true))), [0, 1, 2, 3, 4, 5], none, true⟩, ⟨.pure, [0, 1, 2, 3, 4, 5, 6], none, true⟩, ⟨.pure, [0, 1, 2, 3, 4, 5, 6, 7], aF, true⟩]
    (fun L6 => ⟨[aI s, aI z, aI c, aU, aU, aU, aF, some (.slice none 0 0), aI e, some (.slice none 0 0), aI e, aU, aU, aT, aF, aI c, some (.bool (decide (c > 60))), some (.bool (decide (c > 60))), aU, aU, aF, some (.tuple #[.slice none 0 0, aN e]), aI s, aI z, aI c, some (.tuple #[.slice none 0 0, aN e]), some (.slice none 0 0), aI e, some (.tuple #[.slice none 0 0, aN e]), aI s, aI z, aI c, some (.tuple #[.slice none 0 0, aN e]), some (.slice none 0 0), aI e, aI e, aI e, some (.bool ((e) != (e))), some (.bool ((e) != (e))), some (.slice none 0 0), some (.slice none 0 0), aT, aF, aF, aU, aU, aU, aU, aU, aU, aU, aU, aU, aU, aU, aU, aU, aU, aU, aU, aU, aU, aU, aU, aU, aU, aU, aU, aU, aU, aU, aU, aU, aU, aU, aU, aU, aU, aU], [], []⟩)
    (fun L6 => [((e) != (e)) = false, ((e) != (e)) = false, ((e) != (e)) = false, CallOb Try.prog 13 #[.slice none 0 0, .slice none 0 0] [] (.bool (true)), ((e) != (e)) = false, (if ((e) != (e)) = true then (.bool (true) : Value) else .bool (false)) = .bool (false)])
    fol (by kernel_rfl) (fun _ => by kernel_rfl) (fun L6 => ⟨(bne_self_eq_false _), (bne_self_eq_false _), (bne_self_eq_false _), (Nz.ints0 none none 0 0), (bne_self_eq_false _), (by rw [(bne_self_eq_false _)]; rfl), trivial⟩) (fun L6 => ?_)
  refine aw_false (false) rfl rfl ?_
  refine aw_skip ?_
  refine nrm_thn ?_
  refine aw_seq ?_
  refine aw_sr [⟨.pure, [], none, true⟩, ⟨.pure, [0], none, true⟩]
    (fun L7 => ⟨[aI s, aI z, aI c, aU, aU, aU, aF, some (.slice none 0 0), aI e, some (.slice none 0 0), aI e, aU, aU, aT, aF, aI c, some (.bool (decide (c > 60))), some (.bool (decide (c > 60))), aU, aU, aF, some (.tuple #[.slice none 0 0, aN e]), aI s, aI z, aI c, some (.tuple #[.slice none 0 0, aN e]), some (.slice none 0 0), aI e, some (.tuple #[.slice none 0 0, aN e]), aI s, aI z, aI c, some (.tuple #[.slice none 0 0, aN e]), some (.slice none 0 0), aI e, aI e, aI e, some (.bool ((e) != (e))), some (.bool ((e) != (e))), some (.slice none 0 0), some (.slice none 0 0), aT, aF, aF, aI e, some (.bool ((e) != (0))), aU, aU, aU, aU, aU, aU, aU, aU, aU, aU, aU, aU, aU, aU, aU, aU, aU, aU, aU, aU, aU, aU, aU, aU, aU, aU, aU, aU, aU, aU, aU, aU, aU], [], []⟩)
    (fun L7 => [])
    fol (by kernel_rfl) (fun _ => by kernel_rfl) (fun L7 => trivial) (fun L7 => ?_)
  refine aw_true ((e) != (0)) rfl hne ?_
  refine aw_sr [⟨.pure, [], none, true⟩]
    (fun L8 => ⟨[aI s, aI z, aI c, aU, aU, aU, aT, some (.slice none 0 0), aI e, some (.slice none 0 0), aI e, aU, aU, aT, aF, aI c, some (.bool (decide (c > 60))), some (.bool (decide (c > 60))), aU, aU, aF, some (.tuple #[.slice none 0 0, aN e]), aI s, aI z, aI c, some (.tuple #[.slice none 0 0, aN e]), some (.slice none 0 0), aI e, some (.tuple #[.slice none 0 0, aN e]), aI s, aI z, aI c, some (.tuple #[.slice none 0 0, aN e]), some (.slice none 0 0), aI e, aI e, aI e, some (.bool ((e) != (e))), some (.bool ((e) != (e))), some (.slice none 0 0), some (.slice none 0 0), aT, aF, aF, aI e, some (.bool ((e) != (0))), aU, aU, aU, aU, aU, aU, aU, aU, aU, aU, aU, aU, aU, aU, aU, aU, aU, aU, aU, aU, aU, aU, aU, aU, aU, aU, aU, aU, aU, aU, aU, aU, aU], [], []⟩)
    (fun L8 => [])
    fol (by kernel_rfl) (fun _ => by kernel_rfl) (fun L8 => trivial) (fun L8 => ?_)
  refine aw_ret ?_
  refine ret_thn ?_
  refine fin_ret none [0] (.bool (true)) [] (.inr rfl) rfl (by kernel_rfl) trivial (fun w' hb => ?_)
  exact ⟨rfl, hb⟩

set_option maxRecDepth 100000 in
set_option maxHeartbeats 400000 in
theorem Nz.law3 (s z c e : Int) (h1 : decide (c > 60) = true) (h2 : decide (c ≤ 16384) = false) (hs : IntKind.i64.wrap e = e) (hne : (e != 0) = true) (H1 : CallOb Try.prog 11 #[aN s, aN z, aN c] [] (.tuple #[.slice none 0 0, aN e])) (H2 : CallOb Try.prog 12 #[aN s, aN z, aN c] [] (.tuple #[.slice none 0 0, aN e])) : CallOb Try.prog 4 #[aN s, aN z, aN c] [] (.bool (true)) := by
  intro w hw
  refine calls_aw [aI s, aI z, aI c, aU, aU, aU, aU, aU, aU, aU, aU, aU, aU, aU, aU, aU, aU, aU, aU, aU, aU, aU, aU, aU, aU, aU, aU, aU, aU, aU, aU, aU, aU, aU, aU, aU, aU, aU, aU, aU, aU, aU, aU, aU, aU, aU, aU, aU, aU, aU, aU, aU, aU, aU, aU, aU, aU, aU, aU, aU, aU, aU, aU, aU, aU, aU, aU, aU, aU, aU, aU, aU, aU, aU, aU, aU, aU, aU, aU] [] Try.func4 rfl (by kernel_rfl) (fun e x h => by cases h) ?_
  refine aw_sr [⟨.pure, [], none, true⟩]
    (fun L1 => ⟨[aI s, aI z, aI c, aU, aU, aU, aF, aU, aU, aU, aU, aU, aU, aU, aU, aU, aU, aU, aU, aU, aU, aU, aU, aU, aU, aU, aU, aU, aU, aU, aU, aU, aU, aU, aU, aU, aU, aU, aU, aU, aU, aU, aU, aU, aU, aU, aU, aU, aU, aU, aU, aU, aU, aU, aU, aU, aU, aU, aU, aU, aU, aU, aU, aU, aU, aU, aU, aU, aU, aU, aU, aU, aU, aU, aU, aU, aU, aU, aU], [], []⟩)
    (fun L1 => [])
    fol (by kernel_rfl) (fun _ => by kernel_rfl) (fun L1 => trivial) (fun L1 => ?_)
  refine aw_seq ?_
  refine aw_sr [⟨(.call [] (.bool (true))), [], none, true⟩, ⟨.pure, [0], none, true⟩]
    (fun L2 => ⟨[aI s, aI z, aI c, aU, aU, aU, aF, aU, aU, aU, aU, aU, aU, aT, aF, aU, aU, aU, aU, aU, aU, aU, aU, aU, aU, aU, aU, aU, aU, aU, aU, aU, aU, aU, aU, aU, aU, aU, aU, aU, aU, aU, aU, aU, aU, aU, aU, aU, aU, aU, aU, aU, aU, aU, aU, aU, aU, aU, aU, aU, aU, aU, aU, aU, aU, aU, aU, aU, aU, aU, aU, aU, aU, aU, aU, aU, aU, aU, aU], [], []⟩)
    (fun L2 => [CallOb Try.prog 5 #[] [] (.bool (true))])
    fol (by kernel_rfl) (fun _ => by kernel_rfl) (fun L2 => ⟨(UB.awake), trivial⟩) (fun L2 => ?_)
  refine aw_false (false) rfl rfl ?_
  refine aw_skip ?_
  refine nrm_thn ?_
  refine aw_seq ?_
  refine aw_sr [⟨.pure, [], none, true⟩, ⟨.pure, [0], none, true⟩, ⟨.pure, [0, 1], none, true⟩, ⟨.pure, [0, 1, 2], none, true⟩, ⟨.pure, [0, 1, 2, 3], none, true⟩, ⟨.pure, [0, 1, 2, 3, 4], some (.bool (decide (c ≤ 16384))), true⟩]
    (fun L3 => ⟨[aI s, aI z, aI c, aU, aU, aU, aF, aU, aU, aU, aU, aU, aU, aT, aF, aI c, some (.bool (decide (c > 60))), some (.bool (decide (c > 60))), aI c, some (.bool (decide (c ≤ 16384))), some (.bool (decide (c ≤ 16384))), aU, aU, aU, aU, aU, aU, aU, aU, aU, aU, aU, aU, aU, aU, aU, aU, aU, aU, aU, aU, aU, aU, aU, aU, aU, aU, aU, aU, aU, aU, aU, aU, aU, aU, aU, aU, aU, aU, aU, aU, aU, aU, aU, aU, aU, aU, aU, aU, aU, aU, aU, aU, aU, aU, aU, aU, aU, aU], [], []⟩)
    (fun L3 => [(decide (c > 60)) = true, (decide (c > 60)) = true, (if (decide (c > 60)) = true then (.bool (decide (c ≤ 16384)) : Value) else .bool (false)) = .bool (decide (c ≤ 16384))])
    fol (by kernel_rfl) (fun _ => by kernel_rfl) (fun L3 => ⟨h1, h1, (by rw [h1]; rfl), trivial⟩) (fun L3 => ?_)
  refine aw_false (decide (c ≤ 16384)) rfl h2 ?_
  refine aw_skip ?_
  refine nrm_thn ?_
  refine aw_sr [⟨.pure, [], none, true⟩, ⟨.pure, [], none, true⟩, ⟨.pure, [], none, true⟩, ⟨(.call [] (.tuple #[.slice none 0 0, aN e])), [0, 1, 2], none, true⟩, ⟨.pure, [0, 1, 2, 3], none, true⟩, ⟨.pure, [0, 1, 2, 3, 4], none, true⟩, ⟨.pure, [0, 1, 2, 3, 4], none, true⟩, ⟨.pure, [0, 1, 2, 3, 4, 5], none, true⟩, ⟨.pure, [0, 1, 2, 3, 4, 5, 6, 7], none, true⟩]
    (fun L4 => ⟨[aI s, aI z, aI c, aU, aU, aU, aF, some (.slice none 0 0), aI e, aU, aU, aU, aU, aT, aF, aI c, some (.bool (decide (c > 60))), some (.bool (decide (c > 60))), aI c, some (.bool (decide (c ≤ 16384))), some (.bool (decide (c ≤ 16384))), some (.tuple #[.slice none 0 0, aN e]), aI s, aI z, aI c, some (.tuple #[.slice none 0 0, aN e]), some (.slice none 0 0), aI e, aU, aU, aU, aU, aU, aU, aU, aU, aU, aU, aU, aU, aU, aU, aU, aU, aU, aU, aU, aU, aU, aU, aU, aU, aU, aU, aU, aU, aU, aU, aU, aU, aU, aU, aU, aU, aU, aU, aU, aU, aU, aU, aU, aU, aU, aU, aU, aU, aU, aU, aU], [], []⟩)
    (fun L4 => [CallOb Try.prog 11 #[aN s, aN z, aN c] [] (.tuple #[.slice none 0 0, aN e])])
    fol (by kernel_rfl) (fun _ => by kernel_rfl) (fun L4 => ⟨(H1), trivial⟩) (fun L4 => ?_)
  refine aw_sr [⟨.pure, [], none, true⟩, ⟨.pure, [], none, true⟩, ⟨.pure, [], none, true⟩, ⟨(.call [] (.tuple #[.slice none 0 0, aN e])), [0, 1, 2], none, true⟩, ⟨.pure, [0, 1, 2, 3], none, true⟩, ⟨.pure, [0, 1, 2, 3, 4], none, true⟩, ⟨.pure, [0, 1, 2, 3, 4], none, true⟩, ⟨.pure, [0, 1, 2, 3, 4, 5], none, true⟩, ⟨.pure, [0, 1, 2, 3, 4, 5, 6, 7], none, true⟩]
    (fun L5 => ⟨[aI s, aI z, aI c, aU, aU, aU, aF, some (.slice none 0 0), aI e, some (.slice none 0 0), aI e, aU, aU, aT, aF, aI c, some (.bool (decide (c > 60))), some (.bool (decide (c > 60))), aI c, some (.bool (decide (c ≤ 16384))), some (.bool (decide (c ≤ 16384))), some (.tuple #[.slice none 0 0, aN e]), aI s, aI z, aI c, some (.tuple #[.slice none 0 0, aN e]), some (.slice none 0 0), aI e, some (.tuple #[.slice none 0 0, aN e]), aI s, aI z, aI c, some (.tuple #[.slice none 0 0, aN e]), some (.slice none 0 0), aI e, aU, aU, aU, aU, aU, aU, aU, aU, aU, aU, aU, aU, aU, aU, aU, aU, aU, aU, aU, aU, aU, aU, aU, aU, aU, aU, aU, aU, aU, aU, aU, aU, aU, aU, aU, aU, aU, aU, aU, aU, aU, aU, aU, aU], [], []⟩)
    (fun L5 => [CallOb Try.prog 12 #[aN s, aN z, aN c] [] (.tuple #[.slice none 0 0, aN e])])
    fol (by kernel_rfl) (fun _ => by kernel_rfl) (fun L5 => ⟨(H2), trivial⟩) (fun L5 => ?_)
  refine aw_seq ?_
  refine aw_sr [⟨.pure, [], none, true⟩, ⟨.pure, [], none, true⟩, ⟨.pure, [0, 1], none, true⟩, ⟨.pure, [0, 1, 2], none, true⟩, ⟨.pure, [0, 1, 2, 3], none, true⟩, ⟨.pure, [0, 1, 2, 3], none, true⟩, ⟨(.call [] (.bool (true))), [0, 1, 2, 3, 4, 5], none, true⟩, ⟨.pure, [0, 1, 2, 3, 4, 5, 6], none, true⟩, ⟨.pure, [0, 1, 2, 3, 4, 5, 6, 7], aF, true⟩]
    (fun L6 => ⟨[aI s, aI z, aI c, aU, aU, aU, aF, some (.slice none 0 0), aI e, some (.slice none 0 0), aI e, aU, aU, aT, aF, aI c, some (.bool (decide (c > 60))), some (.bool (decide (c > 60))), aI c, some (.bool (decide (c ≤ 16384))), some (.bool (decide (c ≤ 16384))), some (.tuple #[.slice none 0 0, aN e]), aI s, aI z, aI c, some (.tuple #[.slice none 0 0, aN e]), some (.slice none 0 0), aI e, some (.tuple #[.slice none 0 0, aN e]), aI s, aI z, aI c, some (.tuple #[.slice none 0 0, aN e]), some (.slice none 0 0), aI e, aI e, aI e, some (.bool ((e) != (e))), some (.bool ((e) != (e))), some (.slice none 0 0), some (.slice none 0 0), aT, aF, aF, aU, aU, aU, aU, aU, aU, aU, aU, aU, aU, aU, aU, aU, aU, aU, aU, aU, aU, aU, aU, aU, aU, aU, aU, aU, aU, aU, aU, aU, aU, aU, aU, aU, aU, aU], [], []⟩)
    (fun L6 => [((e) != (e)) = false, ((e) != (e)) = false, ((e) != (e)) = false, CallOb Try.prog 13 #[.slice none 0 0, .slice none 0 0] [] (.bool (true)), ((e) != (e)) = false, (if ((e) != (e)) = true then (.bool (true) : Value) else .bool (false)) = .bool (false)])
    fol (by kernel_rfl) (fun _ => by kernel_rfl) (fun L6 => ⟨(bne_self_eq_false _), (bne_self_eq_false _), (bne_self_eq_false _), (Nz.ints0 none none 0 0), (bne_self_eq_false _), (by rw [(bne_self_eq_false _)]; rfl), trivial⟩) (fun L6 => ?_)
  refine aw_false (false) rfl rfl ?_
  refine aw_skip ?_
  refine nrm_thn ?_
  refine aw_seq ?_
  refine aw_sr [⟨.pure, [], none, true⟩, ⟨.pure, [0], none, true⟩]
    (fun L7 => ⟨[aI s, aI z, aI c, aU, aU, aU, aF, some (.slice none 0 0), aI e, some (.slice none 0 0), aI e, aU, aU, aT, aF, aI c, some (.bool (decide (c > 60))), some (.bool (decide (c > 60))), aI c, some (.bool (decide (c ≤ 16384))), some (.bool (decide (c ≤ 16384))), some (.tuple #[.slice none 0 0, aN e]), aI s, aI z, aI c, some (.tuple #[.slice none 0 0, aN e]), some (.slice none 0 0), aI e, some (.tuple #[.slice none 0 0, aN e]), aI s, aI z, aI c, some (.tuple #[.slice none 0 0, aN e]), some (.slice none 0 0), aI e, aI e, aI e, some (.bool ((e) != (e))), some (.bool ((e) != (e))), some (.slice none 0 0), some (.slice none 0 0), aT, aF, aF, aI e, some (.bool ((e) != (0))), aU, aU, aU, aU, aU, aU, aU, aU, aU, aU, aU, aU, aU, aU, aU, aU, aU, aU, aU, aU, aU, aU, aU, aU, aU, aU, aU, aU, aU, aU, aU, aU, aU], [], []⟩)
    (fun L7 => [])
    fol (by kernel_rfl) (fun _ => by kernel_rfl) (fun L7 => trivial) (fun L7 => ?_)
  refine aw_true ((e) != (0)) rfl hne ?_
  refine aw_sr [⟨.pure, [], none, true⟩]
    (fun L8 => ⟨[aI s, aI z, aI c, aU, aU, aU, aT, some (.slice none 0 0), aI e, some (.slice none 0 0), aI e, aU, aU, aT, aF, aI c, some (.bool (decide (c > 60))), some (.bool (decide (c > 60))), aI c, some (.bool (decide (c ≤ 16384))), some (.bool (decide (c ≤ 16384))), some (.tuple #[.slice none 0 0, aN e]), aI s, aI z, aI c, some (.tuple #[.slice none 0 0, aN e]), some (.slice none 0 0), aI e, some (.tuple #[.slice none 0 0, aN e]), aI s, aI z, aI c, some (.tuple #[.slice none 0 0, aN e]), some (.slice none 0 0), aI e, aI e, aI e, some (.bool ((e) != (e))), some (.bool ((e) != (e))), some (.slice none 0 0), some (.slice none 0 0), aT, aF, aF, aI e, some (.bool ((e) != (0))), aU, aU, aU, aU, aU, aU, aU, aU, aU, aU, aU, aU, aU, aU, aU, aU, aU, aU, aU, aU, aU, aU, aU, aU, aU, aU, aU, aU, aU, aU, aU, aU, aU], [], []⟩)
    (fun L8 => [])
    fol (by kernel_rfl) (fun _ => by kernel_rfl) (fun L8 => trivial) (fun L8 => ?_)
  refine aw_ret ?_
  refine ret_thn ?_
  refine fin_ret none [0] (.bool (true)) [] (.inr rfl) rfl (by kernel_rfl) trivial (fun w' hb => ?_)
  exact ⟨rfl, hb⟩

set_option maxRecDepth 100000 in
set_option maxHeartbeats 400000 in
theorem Nz.law4 (s z : Int) (N : Nat) (hN : N ≤ 60) (h1 : decide ((((N : Nat) : Int)) > 60) = false) (hlen : (Nz.ls s z (N + 1)).length = N + 1) (hin : Sb.inB ((Nz.ls s z (N + 1)).getD N 0) (IntKind.i64.wrap ((0) - (z))) (z) = true) (H1 : CallN Try.prog 11 #[aN s, aN z, .int .i64 (((N : Nat) : Int))] [] (fun l => .tuple #[.slice (l.a) (N) (l.n), aN 0]) (fun l => .row (l.a) (N) (l.n) 1 (iv (Nz.ls s z N)) 3 true)) (H2 : CallN Try.prog 12 #[aN s, aN z, .int .i64 (((N : Nat) : Int))] [] (fun l => .tuple #[.slice (l.a) (N) (l.n), aN 0]) (fun l => .row (l.a) (N) (l.n) 1 (iv (Nz.ls s z N)) 3 true)) (H3 : CallN Try.prog 11 #[aN s, aN z, .int .i64 (((N + 1 : Nat) : Int))] [] (fun l => .tuple #[.slice (l.a) (N + 1) (l.n), aN 0]) (fun l => .row (l.a) (N + 1) (l.n) 1 (iv (Nz.ls s z (N + 1))) 3 true)) : CallOb Try.prog 4 #[aN s, aN z, .int .i64 (((N : Nat) : Int))] [] (.bool (true)) := by
  intro w hw
  refine calls_aw [aI s, aI z, some (.int .i64 (((N : Nat) : Int))), aU, aU, aU, aU, aU, aU, aU, aU, aU, aU, aU, aU, aU, aU, aU, aU, aU, aU, aU, aU, aU, aU, aU, aU, aU, aU, aU, aU, aU, aU, aU, aU, aU, aU, aU, aU, aU, aU, aU, aU, aU, aU, aU, aU, aU, aU, aU, aU, aU, aU, aU, aU, aU, aU, aU, aU, aU, aU, aU, aU, aU, aU, aU, aU, aU, aU, aU, aU, aU, aU, aU, aU, aU, aU, aU, aU] [] Try.func4 rfl (by kernel_rfl) (fun e x h => by cases h) ?_
  refine aw_sr [⟨.pure, [], none, true⟩]
    (fun L1 => ⟨[aI s, aI z, some (.int .i64 (((N : Nat) : Int))), aU, aU, aU, aF, aU, aU, aU, aU, aU, aU, aU, aU, aU, aU, aU, aU, aU, aU, aU, aU, aU, aU, aU, aU, aU, aU, aU, aU, aU, aU, aU, aU, aU, aU, aU, aU, aU, aU, aU, aU, aU, aU, aU, aU, aU, aU, aU, aU, aU, aU, aU, aU, aU, aU, aU, aU, aU, aU, aU, aU, aU, aU, aU, aU, aU, aU, aU, aU, aU, aU, aU, aU, aU, aU, aU, aU], [], []⟩)
    (fun L1 => [])
    fol (by kernel_rfl) (fun _ => by kernel_rfl) (fun L1 => trivial) (fun L1 => ?_)
  refine aw_seq ?_
  refine aw_sr [⟨(.call [] (.bool (true))), [], none, true⟩, ⟨.pure, [0], none, true⟩]
    (fun L2 => ⟨[aI s, aI z, some (.int .i64 (((N : Nat) : Int))), aU, aU, aU, aF, aU, aU, aU, aU, aU, aU, aT, aF, aU, aU, aU, aU, aU, aU, aU, aU, aU, aU, aU, aU, aU, aU, aU, aU, aU, aU, aU, aU, aU, aU, aU, aU, aU, aU, aU, aU, aU, aU, aU, aU, aU, aU, aU, aU, aU, aU, aU, aU, aU, aU, aU, aU, aU, aU, aU, aU, aU, aU, aU, aU, aU, aU, aU, aU, aU, aU, aU, aU, aU, aU, aU, aU], [], []⟩)
    (fun L2 => [CallOb Try.prog 5 #[] [] (.bool (true))])
    fol (by kernel_rfl) (fun _ => by kernel_rfl) (fun L2 => ⟨(UB.awake), trivial⟩) (fun L2 => ?_)
  refine aw_false (false) rfl rfl ?_
  refine aw_skip ?_
  refine nrm_thn ?_
  refine aw_seq ?_
  refine aw_sr [⟨.pure, [], none, true⟩, ⟨.pure, [0], none, true⟩, ⟨.pure, [0, 1], none, true⟩, ⟨.pure, [0, 1, 2], none, false⟩, ⟨.pure, [0, 1, 2, 3], none, false⟩, ⟨.pure, [0, 1, 2, 3, 4], aF, true⟩]
    (fun L3 => ⟨[aI s, aI z, some (.int .i64 (((N : Nat) : Int))), aU, aU, aU, aF, aU, aU, aU, aU, aU, aU, aT, aF, some (.int .i64 (((N : Nat) : Int))), some (.bool (decide ((((N : Nat) : Int)) > 60))), some (.bool (decide ((((N : Nat) : Int)) > 60))), aU, aU, aF, aU, aU, aU, aU, aU, aU, aU, aU, aU, aU, aU, aU, aU, aU, aU, aU, aU, aU, aU, aU, aU, aU, aU, aU, aU, aU, aU, aU, aU, aU, aU, aU, aU, aU, aU, aU, aU, aU, aU, aU, aU, aU, aU, aU, aU, aU, aU, aU, aU, aU, aU, aU, aU, aU, aU, aU, aU, aU], [], []⟩)
    (fun L3 => [(decide ((((N : Nat) : Int)) > 60)) = false, (decide ((((N : Nat) : Int)) > 60)) = false, (if (decide ((((N : Nat) : Int)) > 60)) = true then (undef : Value) else .bool (false)) = .bool (false)])
    fol (by kernel_rfl) (fun _ => by kernel_rfl) (fun L3 => ⟨h1, h1, (by rw [h1]; rfl), trivial⟩) (fun L3 => ?_)
  refine aw_false (false) rfl rfl ?_
  refine aw_skip ?_
  refine nrm_thn ?_
  refine aw_sr [⟨.pure, [], none, true⟩, ⟨.pure, [], none, true⟩, ⟨.pure, [], none, true⟩, ⟨(.callN [] (fun l => .tuple #[.slice (l.a) (N) (l.n), aN 0]) (fun l => .row (l.a) (N) (l.n) 1 (iv (Nz.ls s z N)) 3 true)), [0, 1, 2], none, true⟩, ⟨.pure, [0, 1, 2, 3], none, true⟩, ⟨.pure, [0, 1, 2, 3, 4], none, true⟩, ⟨.pure, [0, 1, 2, 3, 4], none, true⟩, ⟨.pure, [0, 1, 2, 3, 4, 5], none, true⟩, ⟨.pure, [0, 1, 2, 3, 4, 5, 6, 7], none, true⟩]
    (fun L4 => ⟨[aI s, aI z, some (.int .i64 (((N : Nat) : Int))), aU, aU, aU, aF, some (.slice ((L4 3).a) (N) ((L4 3).n)), aI 0, aU, aU, aU, aU, aT, aF, some (.int .i64 (((N : Nat) : Int))), some (.bool (decide ((((N : Nat) : Int)) > 60))), some (.bool (decide ((((N : Nat) : Int)) > 60))), aU, aU, aF, some (.tuple #[.slice ((L4 3).a) (N) ((L4 3).n), aN 0]), aI s, aI z, some (.int .i64 (((N : Nat) : Int))), some (.tuple #[.slice ((L4 3).a) (N) ((L4 3).n), aN 0]), some (.slice ((L4 3).a) (N) ((L4 3).n)), aI 0, aU, aU, aU, aU, aU, aU, aU, aU, aU, aU, aU, aU, aU, aU, aU, aU, aU, aU, aU, aU, aU, aU, aU, aU, aU, aU, aU, aU, aU, aU, aU, aU, aU, aU, aU, aU, aU, aU, aU, aU, aU, aU, aU, aU, aU, aU, aU, aU, aU, aU, aU], [.row ((L4 3).a) (N) ((L4 3).n) 1 (iv (Nz.ls s z N)) 3 true], []⟩)
    (fun L4 => [CallN Try.prog 11 #[aN s, aN z, .int .i64 (((N : Nat) : Int))] [] (fun l => .tuple #[.slice (l.a) (N) (l.n), aN 0]) (fun l => .row (l.a) (N) (l.n) 1 (iv (Nz.ls s z N)) 3 true)])
    fol (by kernel_rfl) (fun _ => by kernel_rfl) (fun L4 => ⟨(H1), trivial⟩) (fun L4 => ?_)
  refine aw_sr [⟨.pure, [], none, true⟩, ⟨.pure, [], none, true⟩, ⟨.pure, [], none, true⟩, ⟨(.callN [] (fun l => .tuple #[.slice (l.a) (N) (l.n), aN 0]) (fun l => .row (l.a) (N) (l.n) 1 (iv (Nz.ls s z N)) 3 true)), [0, 1, 2], none, true⟩, ⟨.pure, [0, 1, 2, 3], none, true⟩, ⟨.pure, [0, 1, 2, 3, 4], none, true⟩, ⟨.pure, [0, 1, 2, 3, 4], none, true⟩, ⟨.pure, [0, 1, 2, 3, 4, 5], none, true⟩, ⟨.pure, [0, 1, 2, 3, 4, 5, 6, 7], none, true⟩]
    (fun L5 => ⟨[aI s, aI z, some (.int .i64 (((N : Nat) : Int))), aU, aU, aU, aF, some (.slice ((L4 3).a) (N) ((L4 3).n)), aI 0, some (.slice ((L5 3).a) (N) ((L5 3).n)), aI 0, aU, aU, aT, aF, some (.int .i64 (((N : Nat) : Int))), some (.bool (decide ((((N : Nat) : Int)) > 60))), some (.bool (decide ((((N : Nat) : Int)) > 60))), aU, aU, aF, some (.tuple #[.slice ((L4 3).a) (N) ((L4 3).n), aN 0]), aI s, aI z, some (.int .i64 (((N : Nat) : Int))), some (.tuple #[.slice ((L4 3).a) (N) ((L4 3).n), aN 0]), some (.slice ((L4 3).a) (N) ((L4 3).n)), aI 0, some (.tuple #[.slice ((L5 3).a) (N) ((L5 3).n), aN 0]), aI s, aI z, some (.int .i64 (((N : Nat) : Int))), some (.tuple #[.slice ((L5 3).a) (N) ((L5 3).n), aN 0]), some (.slice ((L5 3).a) (N) ((L5 3).n)), aI 0, aU, aU, aU, aU, aU, aU, aU, aU, aU, aU, aU, aU, aU, aU, aU, aU, aU, aU, aU, aU, aU, aU, aU, aU, aU, aU, aU, aU, aU, aU, aU, aU, aU, aU, aU, aU, aU, aU, aU, aU, aU, aU, aU, aU], [.row ((L4 3).a) (N) ((L4 3).n) 1 (iv (Nz.ls s z N)) 3 true, .row ((L5 3).a) (N) ((L5 3).n) 1 (iv (Nz.ls s z N)) 3 true], []⟩)
    (fun L5 => [CallN Try.prog 12 #[aN s, aN z, .int .i64 (((N : Nat) : Int))] [] (fun l => .tuple #[.slice (l.a) (N) (l.n), aN 0]) (fun l => .row (l.a) (N) (l.n) 1 (iv (Nz.ls s z N)) 3 true)])
    fol (by kernel_rfl) (fun _ => by kernel_rfl) (fun L5 => ⟨(H2), trivial⟩) (fun L5 => ?_)
  refine aw_seq ?_
  refine aw_sr [⟨.pure, [], none, true⟩, ⟨.pure, [], none, true⟩, ⟨.pure, [0, 1], none, true⟩, ⟨.pure, [0, 1, 2], none, true⟩, ⟨.pure, [0, 1, 2, 3], none, true⟩, ⟨.pure, [0, 1, 2, 3], none, true⟩, ⟨(.call [0, 1] (.bool (true))), [0, 1, 2, 3, 4, 5], none, true⟩, ⟨.pure, [0, 1, 2, 3, 4, 5, 6], none, true⟩, ⟨.pure, [0, 1, 2, 3, 4, 5, 6, 7], aF, true⟩]
    (fun L6 => ⟨[aI s, aI z, some (.int .i64 (((N : Nat) : Int))), aU, aU, aU, aF, some (.slice ((L4 3).a) (N) ((L4 3).n)), aI 0, some (.slice ((L5 3).a) (N) ((L5 3).n)), aI 0, aU, aU, aT, aF, some (.int .i64 (((N : Nat) : Int))), some (.bool (decide ((((N : Nat) : Int)) > 60))), some (.bool (decide ((((N : Nat) : Int)) > 60))), aU, aU, aF, some (.tuple #[.slice ((L4 3).a) (N) ((L4 3).n), aN 0]), aI s, aI z, some (.int .i64 (((N : Nat) : Int))), some (.tuple #[.slice ((L4 3).a) (N) ((L4 3).n), aN 0]), some (.slice ((L4 3).a) (N) ((L4 3).n)), aI 0, some (.tuple #[.slice ((L5 3).a) (N) ((L5 3).n), aN 0]), aI s, aI z, some (.int .i64 (((N : Nat) : Int))), some (.tuple #[.slice ((L5 3).a) (N) ((L5 3).n), aN 0]), some (.slice ((L5 3).a) (N) ((L5 3).n)), aI 0, aI 0, aI 0, aF, aF, some (.slice ((L4 3).a) (N) ((L4 3).n)), some (.slice ((L5 3).a) (N) ((L5 3).n)), aT, aF, aF, aU, aU, aU, aU, aU, aU, aU, aU, aU, aU, aU, aU, aU, aU, aU, aU, aU, aU, aU, aU, aU, aU, aU, aU, aU, aU, aU, aU, aU, aU, aU, aU, aU, aU, aU], [.row ((L4 3).a) (N) ((L4 3).n) 1 (iv (Nz.ls s z N)) 3 true, .row ((L5 3).a) (N) ((L5 3).n) 1 (iv (Nz.ls s z N)) 3 true], []⟩)
    (fun L6 => [(false) = false, (false) = false, (false) = false, CallOb Try.prog 13 #[.slice ((L4 3).a) (N) ((L4 3).n), .slice ((L5 3).a) (N) ((L5 3).n)] [.row ((L4 3).a) (N) ((L4 3).n) 1 (iv (Nz.ls s z N)) 3 true, .row ((L5 3).a) (N) ((L5 3).n) 1 (iv (Nz.ls s z N)) 3 true] (.bool (true)), (false) = false, (.bool (false) : Value) = .bool (false)])
    fol (by kernel_rfl) (fun _ => by kernel_rfl) (fun L6 => ⟨rfl, rfl, rfl, (Nz.ints (Nz.ls_len s z N) (by omega) _ _ _ _), rfl, rfl, trivial⟩) (fun L6 => ?_)
  refine aw_false (false) rfl rfl ?_
  refine aw_skip ?_
  refine nrm_thn ?_
  refine aw_seq ?_
  refine aw_sr [⟨.pure, [], none, true⟩, ⟨.pure, [0], none, true⟩]
    (fun L7 => ⟨[aI s, aI z, some (.int .i64 (((N : Nat) : Int))), aU, aU, aU, aF, some (.slice ((L4 3).a) (N) ((L4 3).n)), aI 0, some (.slice ((L5 3).a) (N) ((L5 3).n)), aI 0, aU, aU, aT, aF, some (.int .i64 (((N : Nat) : Int))), some (.bool (decide ((((N : Nat) : Int)) > 60))), some (.bool (decide ((((N : Nat) : Int)) > 60))), aU, aU, aF, some (.tuple #[.slice ((L4 3).a) (N) ((L4 3).n), aN 0]), aI s, aI z, some (.int .i64 (((N : Nat) : Int))), some (.tuple #[.slice ((L4 3).a) (N) ((L4 3).n), aN 0]), some (.slice ((L4 3).a) (N) ((L4 3).n)), aI 0, some (.tuple #[.slice ((L5 3).a) (N) ((L5 3).n), aN 0]), aI s, aI z, some (.int .i64 (((N : Nat) : Int))), some (.tuple #[.slice ((L5 3).a) (N) ((L5 3).n), aN 0]), some (.slice ((L5 3).a) (N) ((L5 3).n)), aI 0, aI 0, aI 0, aF, aF, some (.slice ((L4 3).a) (N) ((L4 3).n)), some (.slice ((L5 3).a) (N) ((L5 3).n)), aT, aF, aF, aI 0, aF, aU, aU, aU, aU, aU, aU, aU, aU, aU, aU, aU, aU, aU, aU, aU, aU, aU, aU, aU, aU, aU, aU, aU, aU, aU, aU, aU, aU, aU, aU, aU, aU, aU], [.row ((L4 3).a) (N) ((L4 3).n) 1 (iv (Nz.ls s z N)) 3 true, .row ((L5 3).a) (N) ((L5 3).n) 1 (iv (Nz.ls s z N)) 3 true], []⟩)
    (fun L7 => [])
    fol (by kernel_rfl) (fun _ => by kernel_rfl) (fun L7 => trivial) (fun L7 => ?_)
  refine aw_false (false) rfl rfl ?_
  refine aw_skip ?_
  refine nrm_thn ?_
  refine aw_sr [⟨.pure, [], none, true⟩, ⟨.pure, [], none, true⟩, ⟨.pure, [], none, true⟩, ⟨.pure, [2], some (.int .i64 (((N + 1 : Nat) : Int))), true⟩, ⟨(.callN [] (fun l => .tuple #[.slice (l.a) (N + 1) (l.n), aN 0]) (fun l => .row (l.a) (N + 1) (l.n) 1 (iv (Nz.ls s z (N + 1))) 3 true)), [0, 1, 2, 3], none, true⟩, ⟨.pure, [0, 1, 2, 3, 4], none, true⟩, ⟨.pure, [0, 1, 2, 3, 4, 5], none, true⟩, ⟨.pure, [0, 1, 2, 3, 4, 5], none, true⟩, ⟨.pure, [0, 1, 2, 3, 4, 5, 6], none, true⟩, ⟨.pure, [0, 1, 2, 3, 4, 5, 6, 7, 8], none, true⟩]
    (fun L8 => ⟨[aI s, aI z, some (.int .i64 (((N : Nat) : Int))), aU, aU, aU, aF, some (.slice ((L4 3).a) (N) ((L4 3).n)), aI 0, some (.slice ((L5 3).a) (N) ((L5 3).n)), aI 0, some (.slice ((L8 4).a) (N + 1) ((L8 4).n)), aI 0, aT, aF, some (.int .i64 (((N : Nat) : Int))), some (.bool (decide ((((N : Nat) : Int)) > 60))), some (.bool (decide ((((N : Nat) : Int)) > 60))), aU, aU, aF, some (.tuple #[.slice ((L4 3).a) (N) ((L4 3).n), aN 0]), aI s, aI z, some (.int .i64 (((N : Nat) : Int))), some (.tuple #[.slice ((L4 3).a) (N) ((L4 3).n), aN 0]), some (.slice ((L4 3).a) (N) ((L4 3).n)), aI 0, some (.tuple #[.slice ((L5 3).a) (N) ((L5 3).n), aN 0]), aI s, aI z, some (.int .i64 (((N : Nat) : Int))), some (.tuple #[.slice ((L5 3).a) (N) ((L5 3).n), aN 0]), some (.slice ((L5 3).a) (N) ((L5 3).n)), aI 0, aI 0, aI 0, aF, aF, some (.slice ((L4 3).a) (N) ((L4 3).n)), some (.slice ((L5 3).a) (N) ((L5 3).n)), aT, aF, aF, aI 0, aF, some (.tuple #[.slice ((L8 4).a) (N + 1) ((L8 4).n), aN 0]), aI s, aI z, some (.int .i64 (((N : Nat) : Int))), some (.int .i64 (((N + 1 : Nat) : Int))), some (.tuple #[.slice ((L8 4).a) (N + 1) ((L8 4).n), aN 0]), some (.slice ((L8 4).a) (N + 1) ((L8 4).n)), aI 0, aU, aU, aU, aU, aU, aU, aU, aU, aU, aU, aU, aU, aU, aU, aU, aU, aU, aU, aU, aU, aU, aU, aU, aU, aU], [.row ((L4 3).a) (N) ((L4 3).n) 1 (iv (Nz.ls s z N)) 3 true, .row ((L5 3).a) (N) ((L5 3).n) 1 (iv (Nz.ls s z N)) 3 true, .row ((L8 4).a) (N + 1) ((L8 4).n) 1 (iv (Nz.ls s z (N + 1))) 3 true], []⟩)
    (fun L8 => [(.int .i64 (IntKind.i64.wrap ((((N : Nat) : Int)) + (1))) : Value) = .int .i64 (((N + 1 : Nat) : Int)), CallN Try.prog 11 #[aN s, aN z, .int .i64 (((N + 1 : Nat) : Int))] [] (fun l => .tuple #[.slice (l.a) (N + 1) (l.n), aN 0]) (fun l => .row (l.a) (N + 1) (l.n) 1 (iv (Nz.ls s z (N + 1))) 3 true)])
    fol (by kernel_rfl) (fun _ => by kernel_rfl) (fun L8 => ⟨(Nz.wrap_succ (by omega)), (H3), trivial⟩) (fun L8 => ?_)
  refine aw_seq ?_
  refine aw_open 2 rfl (by omega) (fun g10 hg10 hcg10 hmg10 => ?_)
  rw [hg10]
  refine aw_sr [⟨.pure, [], none, true⟩, ⟨.pure, [0], none, true⟩, ⟨.pure, [0, 1], none, true⟩, ⟨.pure, [0, 1, 2], none, true⟩, ⟨.pure, [0, 1, 2, 3], none, true⟩, ⟨.pure, [0, 1, 2], none, true⟩, ⟨.pure, [0, 1, 2, 5], some (.int .i64 (((N + 1 : Nat) : Int))), true⟩, ⟨.pure, [0, 1, 2, 3, 4, 5, 6], none, true⟩, ⟨.pure, [0, 1, 2, 3, 4, 5, 6, 7], some (.bool ((((N + 1 : Nat) : Int)) != (((N + 1 : Nat) : Int)))), true⟩, ⟨.pure, [0, 1, 2, 3, 4, 5, 6, 7, 8], none, true⟩, ⟨.pure, [0, 1, 2, 3, 4, 5, 6, 7, 8, 9], none, true⟩, ⟨.pure, [0, 1, 2, 3, 4, 5, 6, 7, 8, 9], none, true⟩, ⟨(.sem (.slice (some ⟨g10, 0, none⟩) (N) ((L8 4).n))), [0, 1, 2, 3, 4, 5, 6, 7, 8, 9, 10, 11], none, true⟩, ⟨.pure, [0, 1, 2, 3, 4, 5, 6, 7, 8, 9], none, true⟩, ⟨(.call [2, 0] (.bool (true))), [0, 1, 2, 3, 4, 5, 6, 7, 8, 9, 10, 11, 12, 13], none, true⟩, ⟨.pure, [0, 1, 2, 3, 4, 5, 6, 7, 8, 9, 10, 11, 12, 13, 14], none, true⟩, ⟨.pure, [0, 1, 2, 3, 4, 5, 6, 7, 8, 9, 10, 11, 12, 13, 14, 15], aF, true⟩]
    (fun L11 => ⟨[aI s, aI z, some (.int .i64 (((N : Nat) : Int))), aU, aU, aU, aF, some (.slice ((L4 3).a) (N) ((L4 3).n)), aI 0, some (.slice ((L5 3).a) (N) ((L5 3).n)), aI 0, some (.slice (some ⟨g10, 0, none⟩) (N + 1) ((L8 4).n)), aI 0, aT, aF, some (.int .i64 (((N : Nat) : Int))), some (.bool (decide ((((N : Nat) : Int)) > 60))), some (.bool (decide ((((N : Nat) : Int)) > 60))), aU, aU, aF, some (.tuple #[.slice ((L4 3).a) (N) ((L4 3).n), aN 0]), aI s, aI z, some (.int .i64 (((N : Nat) : Int))), some (.tuple #[.slice ((L4 3).a) (N) ((L4 3).n), aN 0]), some (.slice ((L4 3).a) (N) ((L4 3).n)), aI 0, some (.tuple #[.slice ((L5 3).a) (N) ((L5 3).n), aN 0]), aI s, aI z, some (.int .i64 (((N : Nat) : Int))), some (.tuple #[.slice ((L5 3).a) (N) ((L5 3).n), aN 0]), some (.slice ((L5 3).a) (N) ((L5 3).n)), aI 0, aI 0, aI 0, aF, aF, some (.slice ((L4 3).a) (N) ((L4 3).n)), some (.slice ((L5 3).a) (N) ((L5 3).n)), aT, aF, aF, aI 0, aF, some (.tuple #[.slice (some ⟨g10, 0, none⟩) (N + 1) ((L8 4).n), aN 0]), aI s, aI z, some (.int .i64 (((N : Nat) : Int))), some (.int .i64 (((N + 1 : Nat) : Int))), some (.tuple #[.slice (some ⟨g10, 0, none⟩) (N + 1) ((L8 4).n), aN 0]), some (.slice (some ⟨g10, 0, none⟩) (N + 1) ((L8 4).n)), aI 0, aI 0, aF, aF, some (.slice (some ⟨g10, 0, none⟩) (N + 1) ((L8 4).n)), some (.int .i64 (((N + 1 : Nat) : Int))), some (.int .i64 (((N : Nat) : Int))), some (.int .i64 (((N + 1 : Nat) : Int))), some (.bool ((((N + 1 : Nat) : Int)) != (((N + 1 : Nat) : Int)))), some (.bool ((((N + 1 : Nat) : Int)) != (((N + 1 : Nat) : Int)))), some (.bool ((((N + 1 : Nat) : Int)) != (((N + 1 : Nat) : Int)))), some (.slice (some ⟨g10, 0, none⟩) (N + 1) ((L8 4).n)), some (.int .i64 (((N : Nat) : Int))), aS g10 0 N (L8 4).n, some (.slice ((L4 3).a) (N) ((L4 3).n)), aT, aF, aF, aU, aU, aU, aU, aU, aU, aU, aU], [.row ((L4 3).a) (N) ((L4 3).n) 1 (iv (Nz.ls s z N)) 3 true, .row ((L5 3).a) (N) ((L5 3).n) 1 (iv (Nz.ls s z N)) 3 true, .row (some ⟨g10, 0, none⟩) (N + 1) ((L8 4).n) 1 (iv (Nz.ls s z (N + 1))) 3 true], []⟩)
    (fun L11 => [(false) = false, (false) = false, (false) = false, (false) = false, (.int .i64 (IntKind.i64.wrap ((((N : Nat) : Int)) + (1))) : Value) = .int .i64 (((N + 1 : Nat) : Int)), (false) = false, (.bool ((((N + 1 : Nat) : Int)) != (((N + 1 : Nat) : Int))) : Value) = .bool ((((N + 1 : Nat) : Int)) != (((N + 1 : Nat) : Int))), ((((N + 1 : Nat) : Int)) != (((N + 1 : Nat) : Int))) = false, ((((N + 1 : Nat) : Int)) != (((N + 1 : Nat) : Int))) = false, ((((N + 1 : Nat) : Int)) != (((N + 1 : Nat) : Int))) = false, SemOb Try.prog (Instr.sliceAt 38 (.slice (some ⟨g10, 0, none⟩) (N + 1) ((L8 4).n)) none (some (.int .i64 (((N : Nat) : Int)))) none) (.slice (some ⟨g10, 0, none⟩) (N) ((L8 4).n)), ((((N + 1 : Nat) : Int)) != (((N + 1 : Nat) : Int))) = false, ((((N + 1 : Nat) : Int)) != (((N + 1 : Nat) : Int))) = false, CallOb Try.prog 13 #[.slice (some ⟨g10, 0, none⟩) (N) ((L8 4).n), .slice ((L4 3).a) (N) ((L4 3).n)] [.row (some ⟨g10, 0, none⟩) (N + 1) ((L8 4).n) 1 (iv (Nz.ls s z (N + 1))) 3 true, .row ((L4 3).a) (N) ((L4 3).n) 1 (iv (Nz.ls s z N)) 3 true] (.bool (true)), ((((N + 1 : Nat) : Int)) != (((N + 1 : Nat) : Int))) = false, (if ((((N + 1 : Nat) : Int)) != (((N + 1 : Nat) : Int))) = true then (.bool (true) : Value) else .bool (false)) = .bool (false)])
    fol (by kernel_rfl) (fun _ => by kernel_rfl) (fun L11 => ⟨rfl, rfl, rfl, rfl, (Nz.wrap_succ (by omega)), rfl, rfl, (bne_self_eq_false _), (bne_self_eq_false _), (bne_self_eq_false _), (sem_first (el := 3) (s := 1) (by kernel_rfl) (by kernel_rfl) (by omega) (by assumption)), (bne_self_eq_false _), (bne_self_eq_false _), (Nz.intsP (Nz.el s z N) (Nz.ls_len s z N) (by omega) _ _ _ _), (bne_self_eq_false _), (by rw [(bne_self_eq_false _)]; rfl), trivial⟩) (fun L11 => ?_)
  refine aw_false (false) rfl rfl ?_
  refine aw_skip ?_
  refine nrm_thn ?_
  refine aw_sr [⟨.pure, [], none, true⟩, ⟨.pure, [], none, true⟩, ⟨.idx, [0, 1], some (.pointer (some ⟨g10, N, none⟩)), true⟩, ⟨(.read 2), [0, 1, 2], some (.int .i64 ((Nz.ls s z (N + 1)).getD N 0)), true⟩, ⟨.pure, [], none, true⟩, ⟨.pure, [4], none, true⟩, ⟨.pure, [], none, true⟩, ⟨(.call [] (.bool (Sb.inB ((Nz.ls s z (N + 1)).getD N 0) (IntKind.i64.wrap ((0) - (z))) (z)))), [0, 1, 2, 3, 4, 5, 6], none, true⟩, ⟨.pure, [0, 1, 2, 3, 4, 5, 6, 7], none, true⟩]
    (fun L12 => ⟨[aI s, aI z, some (.int .i64 (((N : Nat) : Int))), aU, aU, aU, some (.bool (Sb.inB ((Nz.ls s z (N + 1)).getD N 0) (IntKind.i64.wrap ((0) - (z))) (z))), some (.slice ((L4 3).a) (N) ((L4 3).n)), aI 0, some (.slice ((L5 3).a) (N) ((L5 3).n)), aI 0, some (.slice (some ⟨g10, 0, none⟩) (N + 1) ((L8 4).n)), aI 0, aT, aF, some (.int .i64 (((N : Nat) : Int))), some (.bool (decide ((((N : Nat) : Int)) > 60))), some (.bool (decide ((((N : Nat) : Int)) > 60))), aU, aU, aF, some (.tuple #[.slice ((L4 3).a) (N) ((L4 3).n), aN 0]), aI s, aI z, some (.int .i64 (((N : Nat) : Int))), some (.tuple #[.slice ((L4 3).a) (N) ((L4 3).n), aN 0]), some (.slice ((L4 3).a) (N) ((L4 3).n)), aI 0, some (.tuple #[.slice ((L5 3).a) (N) ((L5 3).n), aN 0]), aI s, aI z, some (.int .i64 (((N : Nat) : Int))), some (.tuple #[.slice ((L5 3).a) (N) ((L5 3).n), aN 0]), some (.slice ((L5 3).a) (N) ((L5 3).n)), aI 0, aI 0, aI 0, aF, aF, some (.slice ((L4 3).a) (N) ((L4 3).n)), some (.slice ((L5 3).a) (N) ((L5 3).n)), aT, aF, aF, aI 0, aF, some (.tuple #[.slice (some ⟨g10, 0, none⟩) (N + 1) ((L8 4).n), aN 0]), aI s, aI z, some (.int .i64 (((N : Nat) : Int))), some (.int .i64 (((N + 1 : Nat) : Int))), some (.tuple #[.slice (some ⟨g10, 0, none⟩) (N + 1) ((L8 4).n), aN 0]), some (.slice (some ⟨g10, 0, none⟩) (N + 1) ((L8 4).n)), aI 0, aI 0, aF, aF, some (.slice (some ⟨g10, 0, none⟩) (N + 1) ((L8 4).n)), some (.int .i64 (((N + 1 : Nat) : Int))), some (.int .i64 (((N : Nat) : Int))), some (.int .i64 (((N + 1 : Nat) : Int))), some (.bool ((((N + 1 : Nat) : Int)) != (((N + 1 : Nat) : Int)))), some (.bool ((((N + 1 : Nat) : Int)) != (((N + 1 : Nat) : Int)))), some (.bool ((((N + 1 : Nat) : Int)) != (((N + 1 : Nat) : Int)))), some (.slice (some ⟨g10, 0, none⟩) (N + 1) ((L8 4).n)), some (.int .i64 (((N : Nat) : Int))), aS g10 0 N (L8 4).n, some (.slice ((L4 3).a) (N) ((L4 3).n)), aT, aF, aF, some (.slice (some ⟨g10, 0, none⟩) (N + 1) ((L8 4).n)), some (.int .i64 (((N : Nat) : Int))), some (.pointer (some ⟨g10, N, none⟩)), some (.int .i64 ((Nz.ls s z (N + 1)).getD N 0)), aI z, some (.int .i64 (IntKind.i64.wrap ((0) - (z)))), aI z, some (.bool (Sb.inB ((Nz.ls s z (N + 1)).getD N 0) (IntKind.i64.wrap ((0) - (z))) (z)))], [.row ((L4 3).a) (N) ((L4 3).n) 1 (iv (Nz.ls s z N)) 3 true, .row ((L5 3).a) (N) ((L5 3).n) 1 (iv (Nz.ls s z N)) 3 true, .row (some ⟨g10, 0, none⟩) (N + 1) ((L8 4).n) 1 (iv (Nz.ls s z (N + 1))) 3 true], []⟩)
    (fun L12 => [(.pointer (some ⟨g10, 0 + Int.toNat (((N : Nat) : Int)) * 1, none⟩) : Value) = .pointer (some ⟨g10, N, none⟩), (0 : Int) ≤ ((N : Nat) : Int), (((N : Nat) : Int)) < ((N + 1 : Nat) : Int), (.int .i64 ((Nz.ls s z (N + 1)).getD N 0) : Value) = .int .i64 ((Nz.ls s z (N + 1)).getD N 0), g10 = g10, (iv (Nz.ls s z (N + 1)))[N]? = some (.int .i64 ((Nz.ls s z (N + 1)).getD N 0)), CallOb Try.prog 14 #[.int .i64 ((Nz.ls s z (N + 1)).getD N 0), .int .i64 (IntKind.i64.wrap ((0) - (z))), aN z] [] (.bool (Sb.inB ((Nz.ls s z (N + 1)).getD N 0) (IntKind.i64.wrap ((0) - (z))) (z)))])
    fol (by kernel_rfl) (fun _ => by kernel_rfl) (fun L12 => ⟨(ptr_eq (by simp <;> omega)), (by omega), (by omega), rfl, rfl, (iv_get (by omega)), (Sb.withinR _ _ _), trivial⟩) (fun L12 => ?_)
  refine aw_ret ?_
  refine fin_ret none [0] (.bool (Sb.inB ((Nz.ls s z (N + 1)).getD N 0) (IntKind.i64.wrap ((0) - (z))) (z))) [] (.inr rfl) rfl (by kernel_rfl) trivial (fun w' hb => ?_)
  exact ⟨by rw [hin], hb⟩

theorem Nz.ef (a b c : Bool) : Sb.frst [Sb.unl a 2, Sb.unl b 2, Sb.unl c 2] = bif a && b && c then 0 else 2 := by cases a <;> cases b <;> cases c <;> rfl
theorem Nz.bad (s z c : Int) (h : (Sb.inB s 0 2147483647 && Sb.inB z 0 200 && Sb.inB c 0 16384) = false) : CallOb Try.prog 11 #[.int .i64 s, .int .i64 z, .int .i64 c] [] (.tuple #[.slice none 0 0, .int .i64 2]) ∧ CallOb Try.prog 12 #[.int .i64 s, .int .i64 z, .int .i64 c] [] (.tuple #[.slice none 0 0, .int .i64 2]) := by
  constructor
  · have := Nz.noiseE s z c (by rw [Nz.ef, h]; rfl)
    rw [Nz.ef, h] at this
    exact this
  · cases hab : (Sb.inB s 0 2147483647 && Sb.inB z 0 200) with
    | false =>
      have := Nz.refE1 s z c (by unfold Nz.nerr; rw [hab]; rfl)
      unfold Nz.nerr at this
      rw [hab] at this
      exact this
    | true =>
      rw [hab, Bool.true_and] at h
      exact Nz.refE2 s z c (by unfold Nz.nerr; rw [hab]; rfl) h
theorem Nz.st_in {s : Int} (h : 0 ≤ s ∧ s ≤ 2147483647) : ∀ k, 0 ≤ Nz.st s k ∧ Nz.st s k ≤ 2147483647
  | 0 => h
  | k + 1 => by
    have ih := Nz.st_in h k
    show 0 ≤ Int.tmod _ _ ∧ Int.tmod _ _ ≤ _
    rw [IntWalk.i64_in ((1103515245) * (Nz.st s k)) (by omega), IntWalk.i64_in _ (by omega)]
    have h1 := Int.tmod_nonneg (a := 1103515245 * Nz.st s k + 12345) 2147483648 (by omega)
    have h2 := Int.tmod_lt_of_pos (1103515245 * Nz.st s k + 12345) (b := 2147483648) (by omega)
    omega
theorem Nz.dv_eq {z : Int} (h : 0 ≤ z ∧ z ≤ 200) : IntKind.i64.wrap ((IntKind.i64.wrap ((2) * (z))) + (1)) = 2 * z + 1 := by
  rw [IntWalk.i64_in ((2) * z) (by omega), IntWalk.i64_in _ (by omega)]
theorem Nz.el_in {s z : Int} (hs : 0 ≤ s ∧ s ≤ 2147483647) (hz : 0 ≤ z ∧ z ≤ 200) (k : Nat) : -z ≤ Nz.el s z k ∧ Nz.el s z k ≤ z := by
  have h := Nz.st_in hs (k + 1)
  unfold Nz.el
  rw [Nz.dv_eq hz]
  generalize Nz.st s (k + 1) = x at *
  have hq : IntKind.i64.wrap (Int.tdiv x 65536) = x / 65536 := IntWalk.i64_quo x 65536 (by omega)
  rw [hq]
  have h1 := Int.tmod_nonneg (a := x / 65536) (2 * z + 1) (by omega)
  have h2 := Int.tmod_lt_of_pos (x / 65536) (b := 2 * z + 1) (by omega)
  rw [IntWalk.i64_in _ (by omega)]
  omega
theorem Nz.last (s z : Int) (N : Nat) : (Nz.ls s z (N + 1)).getD N 0 = Nz.el s z N := by
  rw [Nz.ls_succ, List.getD_eq_getElem?_getD, List.getElem?_append_right (by rw [Nz.ls_len]; exact Nat.le_refl _), Nz.ls_len]
  simp
theorem Nz.inB_of {n a b : Int} (h : a ≤ n ∧ n ≤ b) : Sb.inB n a b = true := by unfold Sb.inB; simp [h]
theorem Nz.of_inB {n a b : Int} (h : Sb.inB n a b = true) : a ≤ n ∧ n ≤ b := by unfold Sb.inB at h; simpa using h
theorem benchNoise_any (s z c : Int) (w : World) : Calls Try.prog 4 #[.int .i64 s, .int .i64 z, .int .i64 c] w fun e w' => e = .returned (.bool true) ∧ Below w.heap.size w w' := by
  have hw : ∀ e ∈ ([] : List Cel), e.holds w := fun e he => by cases he
  cases hg : (Sb.inB s 0 2147483647 && Sb.inB z 0 200 && Sb.inB c 0 16384) with
  | false =>
    obtain ⟨b1, b2⟩ := Nz.bad s z c hg
    by_cases h1 : c > 60
    · by_cases h2 : c ≤ 16384
      · exact Nz.law1 s z c (decide_eq_true h1) (decide_eq_true h2) w hw
      · exact Nz.law3 s z c 2 (decide_eq_true h1) (decide_eq_false h2) (by decide) (by decide) b1 b2 w hw
    · exact Nz.law2 s z c 2 (decide_eq_false h1) (by decide) (by decide) b1 b2 w hw
  | true =>
    simp only [Bool.and_eq_true] at hg
    obtain ⟨⟨g1, g2⟩, g3⟩ := hg
    have r1 := Nz.of_inB g1
    have r2 := Nz.of_inB g2
    have r3 := Nz.of_inB g3
    by_cases h1 : c > 60
    · exact Nz.law1 s z c (decide_eq_true h1) (decide_eq_true r3.2) w hw
    · obtain ⟨N, rfl⟩ : ∃ N : Nat, c = (N : Int) := ⟨c.toNat, by omega⟩
      have hd : IntKind.i64.wrap ((IntKind.i64.wrap ((2) * (z))) + (1)) ≠ 0 := by rw [Nz.dv_eq r2]; omega
      have hN : N ≤ 60 := by omega
      have e1 : ∀ M : Nat, M ≤ 61 → (Sb.frst [Sb.unl (Sb.inB (s) (0) (2147483647)) 2, Sb.unl (Sb.inB (z) (0) (200)) 2, Sb.unl (Sb.inB ((M : Nat) : Int) (0) (16384)) 2] != 0) = false := by
        intro M hM
        rw [Nz.ef, g1, g2, Nz.inB_of (n := ((M : Nat) : Int)) ⟨by omega, by omega⟩]
        rfl
      have e2 : ((Nz.nerr (s) (z)) != (0)) = false := by unfold Nz.nerr; rw [g1, g2]; rfl
      refine Nz.law4 s z N hN (decide_eq_false h1) (Nz.ls_len _ _ _) ?_ (Nz.noiseO s z N (by omega) hd (e1 N (by omega))) (Nz.refO s z N (by omega) hd e2 g3) (Nz.noiseO s z (N + 1) (by omega) hd (e1 (N + 1) (by omega))) w hw
      rw [Nz.last, IntWalk.i64_in (0 - z) (by omega)]
      have := Nz.el_in r1 r2 N
      exact Nz.inB_of ⟨by omega, by omega⟩
end Go.Proofs.Ytlpjnhoafaamkaa
