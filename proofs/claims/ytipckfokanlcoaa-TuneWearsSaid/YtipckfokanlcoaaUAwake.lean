/-
  AWAKE of chapter 6, at its fixed arguments.
-/
import Derived.Test.YtipckfokanlcoaaUAwake4
set_option linter.unusedVariables false
set_option linter.unusedSimpArgs false
namespace Go.Proofs.Ytipckfokanlcoaa
open Go Go.RowKit

open Ag
-- couplant/base.Within
set_option maxRecDepth 100000 in
set_option maxHeartbeats 400000 in
theorem UA.i_162 : CallOb Try.prog 127 #[aN 20, aN 0, aN 100000] [] (.bool (true)) := by
  intro w hw
  refine calls_aw [aI 20, aI 0, aI 100000, aU, aU, aU, aU, aU, aU, aU, aU, aU, aU, aU, aU] [] Try.func127 rfl (by kernel_rfl) (fun e x h => by cases h) ?_
  refine aw_sr [⟨.pure, [], none, true⟩]
    (fun L1 => ⟨[aI 20, aI 0, aI 100000, aU, aU, aU, aF, aU, aU, aU, aU, aU, aU, aU, aU], [], []⟩)
    (fun L1 => [])
    fol (by kernel_rfl) (fun _ => by kernel_rfl) (fun L1 => trivial) (fun L1 => ?_)
  refine aw_sr [⟨.pure, [], none, true⟩, ⟨.pure, [], none, true⟩, ⟨.pure, [0, 1], none, true⟩, ⟨.pure, [0, 1, 2], none, true⟩, ⟨.pure, [0, 1, 2, 3], none, true⟩, ⟨.pure, [0, 1, 2, 3], none, true⟩, ⟨.pure, [0, 1, 2, 3, 4, 5], none, true⟩, ⟨.pure, [0, 1, 2, 3, 4, 5, 6], aT, true⟩, ⟨.pure, [0, 1, 2, 3, 4, 5, 6, 7], none, true⟩]
    (fun L2 => ⟨[aI 20, aI 0, aI 100000, aU, aU, aU, aT, aI 0, aI 20, aT, aT, aI 20, aI 100000, aT, aT], [], []⟩)
    (fun L2 => [(true) = true, (true) = true, (true) = true, (.bool (true) : Value) = .bool (true)])
    fol (by kernel_rfl) (fun _ => by kernel_rfl) (fun L2 => ⟨rfl, rfl, rfl, rfl, trivial⟩) (fun L2 => ?_)
  refine aw_ret ?_
  exact fin_ret none [0] (.bool (true)) [] (.inr rfl) rfl (by kernel_rfl) trivial (fun w' hb => ⟨rfl, hb⟩)

-- couplant/base.RangeError
set_option maxRecDepth 100000 in
set_option maxHeartbeats 400000 in
theorem UA.i_163 : CallOb Try.prog 79 #[aN 20, aN 0, aN 100000] [] (aN 0) := by
  intro w hw
  refine calls_aw [aI 20, aI 0, aI 100000, aU, aU, aU, aU, aU, aU, aU, aU, aU] [] Try.func79 rfl (by kernel_rfl) (fun e x h => by cases h) ?_
  refine aw_sr [⟨.pure, [], none, true⟩]
    (fun L1 => ⟨[aI 20, aI 0, aI 100000, aU, aU, aU, aI 0, aU, aU, aU, aU, aU], [], []⟩)
    (fun L1 => [])
    fol (by kernel_rfl) (fun _ => by kernel_rfl) (fun L1 => trivial) (fun L1 => ?_)
  refine aw_sr [⟨.pure, [], none, true⟩, ⟨.pure, [], none, true⟩, ⟨.pure, [], none, true⟩, ⟨(.call [] (.bool (true))), [0, 1, 2], none, true⟩, ⟨(.call [] (aN 0)), [0, 1, 2, 3], none, true⟩, ⟨.pure, [0, 1, 2, 3, 4], none, true⟩]
    (fun L2 => ⟨[aI 20, aI 0, aI 100000, aU, aU, aU, aI 0, aI 20, aI 0, aI 100000, aT, aI 0], [], []⟩)
    (fun L2 => [CallOb Try.prog 127 #[aN 20, aN 0, aN 100000] [] (.bool (true)), CallOb Try.prog 81 #[.bool (true), aN 2] [] (aN 0)])
    fol (by kernel_rfl) (fun _ => by kernel_rfl) (fun L2 => ⟨(callOb_frz (UA.i_162  )), (callOb_frz (UA.i_6  )), trivial⟩) (fun L2 => ?_)
  refine aw_ret ?_
  exact fin_ret none [0] (aN 0) [] (.inr rfl) rfl (by kernel_rfl) trivial (fun w' hb => ⟨rfl, hb⟩)

-- couplant/base.Within
set_option maxRecDepth 100000 in
set_option maxHeartbeats 400000 in
theorem UA.i_164 : CallOb Try.prog 127 #[aN 81, aN 1, aN 1000000] [] (.bool (true)) := by
  intro w hw
  refine calls_aw [aI 81, aI 1, aI 1000000, aU, aU, aU, aU, aU, aU, aU, aU, aU, aU, aU, aU] [] Try.func127 rfl (by kernel_rfl) (fun e x h => by cases h) ?_
  refine aw_sr [⟨.pure, [], none, true⟩]
    (fun L1 => ⟨[aI 81, aI 1, aI 1000000, aU, aU, aU, aF, aU, aU, aU, aU, aU, aU, aU, aU], [], []⟩)
    (fun L1 => [])
    fol (by kernel_rfl) (fun _ => by kernel_rfl) (fun L1 => trivial) (fun L1 => ?_)
  refine aw_sr [⟨.pure, [], none, true⟩, ⟨.pure, [], none, true⟩, ⟨.pure, [0, 1], none, true⟩, ⟨.pure, [0, 1, 2], none, true⟩, ⟨.pure, [0, 1, 2, 3], none, true⟩, ⟨.pure, [0, 1, 2, 3], none, true⟩, ⟨.pure, [0, 1, 2, 3, 4, 5], none, true⟩, ⟨.pure, [0, 1, 2, 3, 4, 5, 6], aT, true⟩, ⟨.pure, [0, 1, 2, 3, 4, 5, 6, 7], none, true⟩]
    (fun L2 => ⟨[aI 81, aI 1, aI 1000000, aU, aU, aU, aT, aI 1, aI 81, aT, aT, aI 81, aI 1000000, aT, aT], [], []⟩)
    (fun L2 => [(true) = true, (true) = true, (true) = true, (.bool (true) : Value) = .bool (true)])
    fol (by kernel_rfl) (fun _ => by kernel_rfl) (fun L2 => ⟨rfl, rfl, rfl, rfl, trivial⟩) (fun L2 => ?_)
  refine aw_ret ?_
  exact fin_ret none [0] (.bool (true)) [] (.inr rfl) rfl (by kernel_rfl) trivial (fun w' hb => ⟨rfl, hb⟩)

-- couplant/base.RangeError
set_option maxRecDepth 100000 in
set_option maxHeartbeats 400000 in
theorem UA.i_165 : CallOb Try.prog 79 #[aN 81, aN 1, aN 1000000] [] (aN 0) := by
  intro w hw
  refine calls_aw [aI 81, aI 1, aI 1000000, aU, aU, aU, aU, aU, aU, aU, aU, aU] [] Try.func79 rfl (by kernel_rfl) (fun e x h => by cases h) ?_
  refine aw_sr [⟨.pure, [], none, true⟩]
    (fun L1 => ⟨[aI 81, aI 1, aI 1000000, aU, aU, aU, aI 0, aU, aU, aU, aU, aU], [], []⟩)
    (fun L1 => [])
    fol (by kernel_rfl) (fun _ => by kernel_rfl) (fun L1 => trivial) (fun L1 => ?_)
  refine aw_sr [⟨.pure, [], none, true⟩, ⟨.pure, [], none, true⟩, ⟨.pure, [], none, true⟩, ⟨(.call [] (.bool (true))), [0, 1, 2], none, true⟩, ⟨(.call [] (aN 0)), [0, 1, 2, 3], none, true⟩, ⟨.pure, [0, 1, 2, 3, 4], none, true⟩]
    (fun L2 => ⟨[aI 81, aI 1, aI 1000000, aU, aU, aU, aI 0, aI 81, aI 1, aI 1000000, aT, aI 0], [], []⟩)
    (fun L2 => [CallOb Try.prog 127 #[aN 81, aN 1, aN 1000000] [] (.bool (true)), CallOb Try.prog 81 #[.bool (true), aN 2] [] (aN 0)])
    fol (by kernel_rfl) (fun _ => by kernel_rfl) (fun L2 => ⟨(callOb_frz (UA.i_164  )), (callOb_frz (UA.i_6  )), trivial⟩) (fun L2 => ?_)
  refine aw_ret ?_
  exact fin_ret none [0] (aN 0) [] (.inr rfl) rfl (by kernel_rfl) trivial (fun w' hb => ⟨rfl, hb⟩)

-- couplant/tune.echoError
set_option maxRecDepth 100000 in
set_option maxHeartbeats 400000 in
theorem UA.i_166 : CallOb Try.prog 80 #[aN 81] [] (aN 0) := by
  intro w hw
  refine calls_aw [aI 81, aU, aU, aU, aU] [] Try.func80 rfl (by kernel_rfl) (fun e x h => by cases h) ?_
  refine aw_sr [⟨.pure, [], none, true⟩]
    (fun L1 => ⟨[aI 81, aU, aI 0, aU, aU], [], []⟩)
    (fun L1 => [])
    fol (by kernel_rfl) (fun _ => by kernel_rfl) (fun L1 => trivial) (fun L1 => ?_)
  refine aw_sr [⟨.pure, [], none, true⟩, ⟨(.call [] (aN 0)), [0], none, true⟩, ⟨.pure, [0, 1], none, true⟩]
    (fun L2 => ⟨[aI 81, aU, aI 0, aI 81, aI 0], [], []⟩)
    (fun L2 => [CallOb Try.prog 79 #[aN 81, aN 1, aN 1000000] [] (aN 0)])
    fol (by kernel_rfl) (fun _ => by kernel_rfl) (fun L2 => ⟨(callOb_frz (UA.i_165  )), trivial⟩) (fun L2 => ?_)
  refine aw_ret ?_
  exact fin_ret none [0] (aN 0) [] (.inr rfl) rfl (by kernel_rfl) trivial (fun w' hb => ⟨rfl, hb⟩)

-- couplant/tune.CheckTable$1
set_option maxRecDepth 100000 in
set_option maxHeartbeats 400000 in
theorem UA.i_167 (b1 b2 : Nat) : CallOb Try.prog 77 #[aN 2, .pointer (some ⟨b1, 0, none⟩)] [.blk (b1) [.slice (some ⟨b2, 0, none⟩) (4) (4)] 22 false, .blk (b2) [aN 0, aN 100, aN 10, aN 90, aN 20, aN 81, aN 30, aN 70] 39 false] (aN 0) := by
  intro w hw
  refine calls_aw [aI 2, aP b1 0, aU, aU, aU, aU, aU, aU, aU, aU, aU, aU, aU, aU, aU, aU, aU, aU, aU, aU, aU, aU, aU, aU, aU, aU, aU, aU, aU, aU, aU, aU, aU, aU, aU] [.blk (b1) [.slice (some ⟨b2, 0, none⟩) (4) (4)] 22 false, .blk (b2) [aN 0, aN 100, aN 10, aN 90, aN 20, aN 81, aN 30, aN 70] 39 false] Try.func77 rfl (by kernel_rfl) (esOk hw (by simp [Cel.mine])) ?_
  refine aw_sr [⟨.pure, [], none, true⟩]
    (fun L1 => ⟨[aI 2, aP b1 0, aU, aI 0, aU, aU, aU, aU, aU, aU, aU, aU, aU, aU, aU, aU, aU, aU, aU, aU, aU, aU, aU, aU, aU, aU, aU, aU, aU, aU, aU, aU, aU, aU, aU], [.blk (b1) [.slice (some ⟨b2, 0, none⟩) (4) (4)] 22 false, .blk (b2) [aN 0, aN 100, aN 10, aN 90, aN 20, aN 81, aN 30, aN 70] 39 false], []⟩)
    (fun L1 => [])
    fol (by kernel_rfl) (fun _ => by kernel_rfl) (fun L1 => trivial) (fun L1 => ?_)
  refine aw_sr [⟨(.read 0), [], none, true⟩, ⟨.pure, [], none, true⟩, ⟨.pure, [0, 1], none, true⟩, ⟨.pure, [0, 1, 2], none, true⟩, ⟨(.read 1), [0, 1, 2, 3], none, true⟩, ⟨(.call [] (aN 0)), [0, 1, 2, 3, 4], none, true⟩, ⟨(.read 0), [], none, true⟩, ⟨.pure, [], none, true⟩, ⟨.pure, [6, 7], none, true⟩, ⟨.pure, [6, 7, 8], none, true⟩, ⟨(.read 1), [6, 7, 8, 9], none, true⟩, ⟨(.call [] (aN 0)), [0, 1, 2, 3, 4, 5, 6, 7, 8, 9, 10], none, true⟩, ⟨.pure, [], none, true⟩, ⟨.pure, [12], none, true⟩, ⟨.pure, [0, 1, 2, 3, 4, 5, 6, 7, 8, 9, 10, 11, 12, 13], none, true⟩, ⟨(.read 0), [0, 1, 2, 3, 4, 5, 6, 7, 8, 9, 10, 11, 12, 13, 14], none, true⟩, ⟨.pure, [0, 1, 2, 3, 4, 5, 6, 7, 8, 9, 10, 11, 12, 13, 14], none, true⟩, ⟨.pure, [0, 1, 2, 3, 4, 5, 6, 7, 8, 9, 10, 11, 12, 13, 14, 15, 16], none, true⟩, ⟨.pure, [0, 1, 2, 3, 4, 5, 6, 7, 8, 9, 10, 11, 12, 13, 14, 15, 16, 17], none, true⟩, ⟨(.read 1), [0, 1, 2, 3, 4, 5, 6, 7, 8, 9, 10, 11, 12, 13, 14, 15, 16, 17, 18], none, true⟩, ⟨(.read 0), [0, 1, 2, 3, 4, 5, 6, 7, 8, 9, 10, 11, 12, 13, 14], none, true⟩, ⟨.pure, [0, 1, 2, 3, 4, 5, 6, 7, 8, 9, 10, 11, 12, 13, 14], none, true⟩, ⟨.pure, [0, 1, 2, 3, 4, 5, 6, 7, 8, 9, 10, 11, 12, 13, 14, 21], none, true⟩, ⟨.pure, [0, 1, 2, 3, 4, 5, 6, 7, 8, 9, 10, 11, 12, 13, 14, 20, 21, 22], none, true⟩, ⟨.pure, [0, 1, 2, 3, 4, 5, 6, 7, 8, 9, 10, 11, 12, 13, 14, 20, 21, 22, 23], none, true⟩, ⟨(.read 1), [0, 1, 2, 3, 4, 5, 6, 7, 8, 9, 10, 11, 12, 13, 14, 20, 21, 22, 23, 24], none, true⟩, ⟨.pure, [0, 1, 2, 3, 4, 5, 6, 7, 8, 9, 10, 11, 12, 13, 14, 15, 16, 17, 18, 19, 20, 21, 22, 23, 24, 25], none, true⟩, ⟨.pure, [0, 1, 2, 3, 4, 5, 6, 7, 8, 9, 10, 11, 12, 13, 14, 15, 16, 17, 18, 19, 20, 21, 22, 23, 24, 25, 26], aT, true⟩, ⟨(.call [] (aN 0)), [0, 1, 2, 3, 4, 5, 6, 7, 8, 9, 10, 11, 12, 13, 14, 15, 16, 17, 18, 19, 20, 21, 22, 23, 24, 25, 26, 27], none, true⟩, ⟨.new, [0, 1, 2, 3, 4, 5, 6, 7, 8, 9, 10, 11, 12, 13, 14, 15, 16, 17, 18, 19, 20, 21, 22, 23, 24, 25, 26, 27, 28], none, true⟩, ⟨(.call [31] (aN 0)), [0, 1, 2, 3, 4, 5, 6, 7, 8, 9, 10, 11, 12, 13, 14, 15, 16, 17, 18, 19, 20, 21, 22, 23, 24, 25, 26, 27, 28, 29], none, true⟩, ⟨.pure, [0, 1, 2, 3, 4, 5, 6, 7, 8, 9, 10, 11, 12, 13, 14, 15, 16, 17, 18, 19, 20, 21, 22, 23, 24, 25, 26, 27, 28, 29, 30], none, true⟩]
    (fun L2 => ⟨[aI 2, aP b1 0, aU, aI 0, aS b2 0 4 4, aI 2, aP b2 4, aP b2 4, aI 20, aI 0, aS b2 0 4 4, aI 2, aP b2 4, aP b2 5, aI 81, aI 0, aI 2, aF, aF, aS b2 0 4 4, aI 2, aP b2 4, aP b2 4, aI 20, aS b2 0 4 4, aI 2, aI 1, aP b2 2, aP b2 2, aI 10, aT, aT, aI 0, aS (L2 29).b 0 3 3, aI 0], [.blk (b1) [.slice (some ⟨b2, 0, none⟩) (4) (4)] 22 false, .blk (b2) [aN 0, aN 100, aN 10, aN 90, aN 20, aN 81, aN 30, aN 70] 39 false, .blk ((L2 29).b) [aN 0, aN 0, aN 0] 25 true], []⟩)
    (fun L2 => [b1 = b1, b2 = b2, CallOb Try.prog 79 #[aN 20, aN 0, aN 100000] [] (aN 0), b1 = b1, b2 = b2, CallOb Try.prog 80 #[aN 81] [] (aN 0), (false) = false, b1 = b1, (false) = false, (false) = false, (false) = false, (false) = false, b2 = b2, (false) = false, b1 = b1, (false) = false, (false) = false, (false) = false, (false) = false, (false) = false, b2 = b2, (false) = false, (.bool (true) : Value) = .bool (true), CallOb Try.prog 81 #[.bool (true), aN 9] [] (aN 0), CallOb Try.prog 78 #[.slice (some ⟨(L2 29).b, 0, none⟩) (3) (3)] [.blk ((L2 29).b) [aN 0, aN 0, aN 0] 25 true] (aN 0)])
    fol (by kernel_rfl) (fun _ => by kernel_rfl) (fun L2 => ⟨rfl, rfl, (callOb_frz (UA.i_163  )), rfl, rfl, (callOb_frz (UA.i_166  )), rfl, rfl, rfl, rfl, rfl, rfl, rfl, rfl, rfl, rfl, rfl, rfl, rfl, rfl, rfl, rfl, rfl, (callOb_frz (UA.i_11  )), (callOb_frz (UA.i_12 ((L2 29).b) )), trivial⟩) (fun L2 => ?_)
  refine aw_ret ?_
  exact fin_ret none [0] (aN 0) [] (.inr rfl) rfl (by kernel_rfl) trivial (fun w' hb => ⟨rfl, hb⟩)

-- couplant/base.Within
set_option maxRecDepth 100000 in
set_option maxHeartbeats 400000 in
theorem UA.i_168 : CallOb Try.prog 127 #[aN 30, aN 0, aN 100000] [] (.bool (true)) := by
  intro w hw
  refine calls_aw [aI 30, aI 0, aI 100000, aU, aU, aU, aU, aU, aU, aU, aU, aU, aU, aU, aU] [] Try.func127 rfl (by kernel_rfl) (fun e x h => by cases h) ?_
  refine aw_sr [⟨.pure, [], none, true⟩]
    (fun L1 => ⟨[aI 30, aI 0, aI 100000, aU, aU, aU, aF, aU, aU, aU, aU, aU, aU, aU, aU], [], []⟩)
    (fun L1 => [])
    fol (by kernel_rfl) (fun _ => by kernel_rfl) (fun L1 => trivial) (fun L1 => ?_)
  refine aw_sr [⟨.pure, [], none, true⟩, ⟨.pure, [], none, true⟩, ⟨.pure, [0, 1], none, true⟩, ⟨.pure, [0, 1, 2], none, true⟩, ⟨.pure, [0, 1, 2, 3], none, true⟩, ⟨.pure, [0, 1, 2, 3], none, true⟩, ⟨.pure, [0, 1, 2, 3, 4, 5], none, true⟩, ⟨.pure, [0, 1, 2, 3, 4, 5, 6], aT, true⟩, ⟨.pure, [0, 1, 2, 3, 4, 5, 6, 7], none, true⟩]
    (fun L2 => ⟨[aI 30, aI 0, aI 100000, aU, aU, aU, aT, aI 0, aI 30, aT, aT, aI 30, aI 100000, aT, aT], [], []⟩)
    (fun L2 => [(true) = true, (true) = true, (true) = true, (.bool (true) : Value) = .bool (true)])
    fol (by kernel_rfl) (fun _ => by kernel_rfl) (fun L2 => ⟨rfl, rfl, rfl, rfl, trivial⟩) (fun L2 => ?_)
  refine aw_ret ?_
  exact fin_ret none [0] (.bool (true)) [] (.inr rfl) rfl (by kernel_rfl) trivial (fun w' hb => ⟨rfl, hb⟩)

-- couplant/base.RangeError
set_option maxRecDepth 100000 in
set_option maxHeartbeats 400000 in
theorem UA.i_169 : CallOb Try.prog 79 #[aN 30, aN 0, aN 100000] [] (aN 0) := by
  intro w hw
  refine calls_aw [aI 30, aI 0, aI 100000, aU, aU, aU, aU, aU, aU, aU, aU, aU] [] Try.func79 rfl (by kernel_rfl) (fun e x h => by cases h) ?_
  refine aw_sr [⟨.pure, [], none, true⟩]
    (fun L1 => ⟨[aI 30, aI 0, aI 100000, aU, aU, aU, aI 0, aU, aU, aU, aU, aU], [], []⟩)
    (fun L1 => [])
    fol (by kernel_rfl) (fun _ => by kernel_rfl) (fun L1 => trivial) (fun L1 => ?_)
  refine aw_sr [⟨.pure, [], none, true⟩, ⟨.pure, [], none, true⟩, ⟨.pure, [], none, true⟩, ⟨(.call [] (.bool (true))), [0, 1, 2], none, true⟩, ⟨(.call [] (aN 0)), [0, 1, 2, 3], none, true⟩, ⟨.pure, [0, 1, 2, 3, 4], none, true⟩]
    (fun L2 => ⟨[aI 30, aI 0, aI 100000, aU, aU, aU, aI 0, aI 30, aI 0, aI 100000, aT, aI 0], [], []⟩)
    (fun L2 => [CallOb Try.prog 127 #[aN 30, aN 0, aN 100000] [] (.bool (true)), CallOb Try.prog 81 #[.bool (true), aN 2] [] (aN 0)])
    fol (by kernel_rfl) (fun _ => by kernel_rfl) (fun L2 => ⟨(callOb_frz (UA.i_168  )), (callOb_frz (UA.i_6  )), trivial⟩) (fun L2 => ?_)
  refine aw_ret ?_
  exact fin_ret none [0] (aN 0) [] (.inr rfl) rfl (by kernel_rfl) trivial (fun w' hb => ⟨rfl, hb⟩)

-- couplant/base.Within
set_option maxRecDepth 100000 in
set_option maxHeartbeats 400000 in
theorem UA.i_170 : CallOb Try.prog 127 #[aN 70, aN 1, aN 1000000] [] (.bool (true)) := by
  intro w hw
  refine calls_aw [aI 70, aI 1, aI 1000000, aU, aU, aU, aU, aU, aU, aU, aU, aU, aU, aU, aU] [] Try.func127 rfl (by kernel_rfl) (fun e x h => by cases h) ?_
  refine aw_sr [⟨.pure, [], none, true⟩]
    (fun L1 => ⟨[aI 70, aI 1, aI 1000000, aU, aU, aU, aF, aU, aU, aU, aU, aU, aU, aU, aU], [], []⟩)
    (fun L1 => [])
    fol (by kernel_rfl) (fun _ => by kernel_rfl) (fun L1 => trivial) (fun L1 => ?_)
  refine aw_sr [⟨.pure, [], none, true⟩, ⟨.pure, [], none, true⟩, ⟨.pure, [0, 1], none, true⟩, ⟨.pure, [0, 1, 2], none, true⟩, ⟨.pure, [0, 1, 2, 3], none, true⟩, ⟨.pure, [0, 1, 2, 3], none, true⟩, ⟨.pure, [0, 1, 2, 3, 4, 5], none, true⟩, ⟨.pure, [0, 1, 2, 3, 4, 5, 6], aT, true⟩, ⟨.pure, [0, 1, 2, 3, 4, 5, 6, 7], none, true⟩]
    (fun L2 => ⟨[aI 70, aI 1, aI 1000000, aU, aU, aU, aT, aI 1, aI 70, aT, aT, aI 70, aI 1000000, aT, aT], [], []⟩)
    (fun L2 => [(true) = true, (true) = true, (true) = true, (.bool (true) : Value) = .bool (true)])
    fol (by kernel_rfl) (fun _ => by kernel_rfl) (fun L2 => ⟨rfl, rfl, rfl, rfl, trivial⟩) (fun L2 => ?_)
  refine aw_ret ?_
  exact fin_ret none [0] (.bool (true)) [] (.inr rfl) rfl (by kernel_rfl) trivial (fun w' hb => ⟨rfl, hb⟩)

-- couplant/base.RangeError
set_option maxRecDepth 100000 in
set_option maxHeartbeats 400000 in
theorem UA.i_171 : CallOb Try.prog 79 #[aN 70, aN 1, aN 1000000] [] (aN 0) := by
  intro w hw
  refine calls_aw [aI 70, aI 1, aI 1000000, aU, aU, aU, aU, aU, aU, aU, aU, aU] [] Try.func79 rfl (by kernel_rfl) (fun e x h => by cases h) ?_
  refine aw_sr [⟨.pure, [], none, true⟩]
    (fun L1 => ⟨[aI 70, aI 1, aI 1000000, aU, aU, aU, aI 0, aU, aU, aU, aU, aU], [], []⟩)
    (fun L1 => [])
    fol (by kernel_rfl) (fun _ => by kernel_rfl) (fun L1 => trivial) (fun L1 => ?_)
  refine aw_sr [⟨.pure, [], none, true⟩, ⟨.pure, [], none, true⟩, ⟨.pure, [], none, true⟩, ⟨(.call [] (.bool (true))), [0, 1, 2], none, true⟩, ⟨(.call [] (aN 0)), [0, 1, 2, 3], none, true⟩, ⟨.pure, [0, 1, 2, 3, 4], none, true⟩]
    (fun L2 => ⟨[aI 70, aI 1, aI 1000000, aU, aU, aU, aI 0, aI 70, aI 1, aI 1000000, aT, aI 0], [], []⟩)
    (fun L2 => [CallOb Try.prog 127 #[aN 70, aN 1, aN 1000000] [] (.bool (true)), CallOb Try.prog 81 #[.bool (true), aN 2] [] (aN 0)])
    fol (by kernel_rfl) (fun _ => by kernel_rfl) (fun L2 => ⟨(callOb_frz (UA.i_170  )), (callOb_frz (UA.i_6  )), trivial⟩) (fun L2 => ?_)
  refine aw_ret ?_
  exact fin_ret none [0] (aN 0) [] (.inr rfl) rfl (by kernel_rfl) trivial (fun w' hb => ⟨rfl, hb⟩)

-- couplant/tune.echoError
set_option maxRecDepth 100000 in
set_option maxHeartbeats 400000 in
theorem UA.i_172 : CallOb Try.prog 80 #[aN 70] [] (aN 0) := by
  intro w hw
  refine calls_aw [aI 70, aU, aU, aU, aU] [] Try.func80 rfl (by kernel_rfl) (fun e x h => by cases h) ?_
  refine aw_sr [⟨.pure, [], none, true⟩]
    (fun L1 => ⟨[aI 70, aU, aI 0, aU, aU], [], []⟩)
    (fun L1 => [])
    fol (by kernel_rfl) (fun _ => by kernel_rfl) (fun L1 => trivial) (fun L1 => ?_)
  refine aw_sr [⟨.pure, [], none, true⟩, ⟨(.call [] (aN 0)), [0], none, true⟩, ⟨.pure, [0, 1], none, true⟩]
    (fun L2 => ⟨[aI 70, aU, aI 0, aI 70, aI 0], [], []⟩)
    (fun L2 => [CallOb Try.prog 79 #[aN 70, aN 1, aN 1000000] [] (aN 0)])
    fol (by kernel_rfl) (fun _ => by kernel_rfl) (fun L2 => ⟨(callOb_frz (UA.i_171  )), trivial⟩) (fun L2 => ?_)
  refine aw_ret ?_
  exact fin_ret none [0] (aN 0) [] (.inr rfl) rfl (by kernel_rfl) trivial (fun w' hb => ⟨rfl, hb⟩)

-- couplant/tune.CheckTable$1
set_option maxRecDepth 100000 in
set_option maxHeartbeats 400000 in
theorem UA.i_173 (b1 b2 : Nat) : CallOb Try.prog 77 #[aN 3, .pointer (some ⟨b1, 0, none⟩)] [.blk (b1) [.slice (some ⟨b2, 0, none⟩) (4) (4)] 22 false, .blk (b2) [aN 0, aN 100, aN 10, aN 90, aN 20, aN 81, aN 30, aN 70] 39 false] (aN 0) := by
  intro w hw
  refine calls_aw [aI 3, aP b1 0, aU, aU, aU, aU, aU, aU, aU, aU, aU, aU, aU, aU, aU, aU, aU, aU, aU, aU, aU, aU, aU, aU, aU, aU, aU, aU, aU, aU, aU, aU, aU, aU, aU] [.blk (b1) [.slice (some ⟨b2, 0, none⟩) (4) (4)] 22 false, .blk (b2) [aN 0, aN 100, aN 10, aN 90, aN 20, aN 81, aN 30, aN 70] 39 false] Try.func77 rfl (by kernel_rfl) (esOk hw (by simp [Cel.mine])) ?_
  refine aw_sr [⟨.pure, [], none, true⟩]
    (fun L1 => ⟨[aI 3, aP b1 0, aU, aI 0, aU, aU, aU, aU, aU, aU, aU, aU, aU, aU, aU, aU, aU, aU, aU, aU, aU, aU, aU, aU, aU, aU, aU, aU, aU, aU, aU, aU, aU, aU, aU], [.blk (b1) [.slice (some ⟨b2, 0, none⟩) (4) (4)] 22 false, .blk (b2) [aN 0, aN 100, aN 10, aN 90, aN 20, aN 81, aN 30, aN 70] 39 false], []⟩)
    (fun L1 => [])
    fol (by kernel_rfl) (fun _ => by kernel_rfl) (fun L1 => trivial) (fun L1 => ?_)
  refine aw_sr [⟨(.read 0), [], none, true⟩, ⟨.pure, [], none, true⟩, ⟨.pure, [0, 1], none, true⟩, ⟨.pure, [0, 1, 2], none, true⟩, ⟨(.read 1), [0, 1, 2, 3], none, true⟩, ⟨(.call [] (aN 0)), [0, 1, 2, 3, 4], none, true⟩, ⟨(.read 0), [], none, true⟩, ⟨.pure, [], none, true⟩, ⟨.pure, [6, 7], none, true⟩, ⟨.pure, [6, 7, 8], none, true⟩, ⟨(.read 1), [6, 7, 8, 9], none, true⟩, ⟨(.call [] (aN 0)), [0, 1, 2, 3, 4, 5, 6, 7, 8, 9, 10], none, true⟩, ⟨.pure, [], none, true⟩, ⟨.pure, [12], none, true⟩, ⟨.pure, [0, 1, 2, 3, 4, 5, 6, 7, 8, 9, 10, 11, 12, 13], none, true⟩, ⟨(.read 0), [0, 1, 2, 3, 4, 5, 6, 7, 8, 9, 10, 11, 12, 13, 14], none, true⟩, ⟨.pure, [0, 1, 2, 3, 4, 5, 6, 7, 8, 9, 10, 11, 12, 13, 14], none, true⟩, ⟨.pure, [0, 1, 2, 3, 4, 5, 6, 7, 8, 9, 10, 11, 12, 13, 14, 15, 16], none, true⟩, ⟨.pure, [0, 1, 2, 3, 4, 5, 6, 7, 8, 9, 10, 11, 12, 13, 14, 15, 16, 17], none, true⟩, ⟨(.read 1), [0, 1, 2, 3, 4, 5, 6, 7, 8, 9, 10, 11, 12, 13, 14, 15, 16, 17, 18], none, true⟩, ⟨(.read 0), [0, 1, 2, 3, 4, 5, 6, 7, 8, 9, 10, 11, 12, 13, 14], none, true⟩, ⟨.pure, [0, 1, 2, 3, 4, 5, 6, 7, 8, 9, 10, 11, 12, 13, 14], none, true⟩, ⟨.pure, [0, 1, 2, 3, 4, 5, 6, 7, 8, 9, 10, 11, 12, 13, 14, 21], none, true⟩, ⟨.pure, [0, 1, 2, 3, 4, 5, 6, 7, 8, 9, 10, 11, 12, 13, 14, 20, 21, 22], none, true⟩, ⟨.pure, [0, 1, 2, 3, 4, 5, 6, 7, 8, 9, 10, 11, 12, 13, 14, 20, 21, 22, 23], none, true⟩, ⟨(.read 1), [0, 1, 2, 3, 4, 5, 6, 7, 8, 9, 10, 11, 12, 13, 14, 20, 21, 22, 23, 24], none, true⟩, ⟨.pure, [0, 1, 2, 3, 4, 5, 6, 7, 8, 9, 10, 11, 12, 13, 14, 15, 16, 17, 18, 19, 20, 21, 22, 23, 24, 25], none, true⟩, ⟨.pure, [0, 1, 2, 3, 4, 5, 6, 7, 8, 9, 10, 11, 12, 13, 14, 15, 16, 17, 18, 19, 20, 21, 22, 23, 24, 25, 26], aT, true⟩, ⟨(.call [] (aN 0)), [0, 1, 2, 3, 4, 5, 6, 7, 8, 9, 10, 11, 12, 13, 14, 15, 16, 17, 18, 19, 20, 21, 22, 23, 24, 25, 26, 27], none, true⟩, ⟨.new, [0, 1, 2, 3, 4, 5, 6, 7, 8, 9, 10, 11, 12, 13, 14, 15, 16, 17, 18, 19, 20, 21, 22, 23, 24, 25, 26, 27, 28], none, true⟩, ⟨(.call [31] (aN 0)), [0, 1, 2, 3, 4, 5, 6, 7, 8, 9, 10, 11, 12, 13, 14, 15, 16, 17, 18, 19, 20, 21, 22, 23, 24, 25, 26, 27, 28, 29], none, true⟩, ⟨.pure, [0, 1, 2, 3, 4, 5, 6, 7, 8, 9, 10, 11, 12, 13, 14, 15, 16, 17, 18, 19, 20, 21, 22, 23, 24, 25, 26, 27, 28, 29, 30], none, true⟩]
    (fun L2 => ⟨[aI 3, aP b1 0, aU, aI 0, aS b2 0 4 4, aI 3, aP b2 6, aP b2 6, aI 30, aI 0, aS b2 0 4 4, aI 3, aP b2 6, aP b2 7, aI 70, aI 0, aI 3, aF, aF, aS b2 0 4 4, aI 3, aP b2 6, aP b2 6, aI 30, aS b2 0 4 4, aI 3, aI 2, aP b2 4, aP b2 4, aI 20, aT, aT, aI 0, aS (L2 29).b 0 3 3, aI 0], [.blk (b1) [.slice (some ⟨b2, 0, none⟩) (4) (4)] 22 false, .blk (b2) [aN 0, aN 100, aN 10, aN 90, aN 20, aN 81, aN 30, aN 70] 39 false, .blk ((L2 29).b) [aN 0, aN 0, aN 0] 25 true], []⟩)
    (fun L2 => [b1 = b1, b2 = b2, CallOb Try.prog 79 #[aN 30, aN 0, aN 100000] [] (aN 0), b1 = b1, b2 = b2, CallOb Try.prog 80 #[aN 70] [] (aN 0), (false) = false, b1 = b1, (false) = false, (false) = false, (false) = false, (false) = false, b2 = b2, (false) = false, b1 = b1, (false) = false, (false) = false, (false) = false, (false) = false, (false) = false, b2 = b2, (false) = false, (.bool (true) : Value) = .bool (true), CallOb Try.prog 81 #[.bool (true), aN 9] [] (aN 0), CallOb Try.prog 78 #[.slice (some ⟨(L2 29).b, 0, none⟩) (3) (3)] [.blk ((L2 29).b) [aN 0, aN 0, aN 0] 25 true] (aN 0)])
    fol (by kernel_rfl) (fun _ => by kernel_rfl) (fun L2 => ⟨rfl, rfl, (callOb_frz (UA.i_169  )), rfl, rfl, (callOb_frz (UA.i_172  )), rfl, rfl, rfl, rfl, rfl, rfl, rfl, rfl, rfl, rfl, rfl, rfl, rfl, rfl, rfl, rfl, rfl, (callOb_frz (UA.i_11  )), (callOb_frz (UA.i_12 ((L2 29).b) )), trivial⟩) (fun L2 => ?_)
  refine aw_ret ?_
  exact fin_ret none [0] (aN 0) [] (.inr rfl) rfl (by kernel_rfl) trivial (fun w' hb => ⟨rfl, hb⟩)

-- couplant/base.FirstIn
set_option maxRecDepth 100000 in
set_option maxHeartbeats 400000 in
theorem UA.i_174 (b1 b2 : Nat) : CallOb Try.prog 76 #[aN 4, .func (.func 77) #[] #[.pointer (some ⟨b1, 0, none⟩)]] [.blk (b1) [.slice (some ⟨b2, 0, none⟩) (4) (4)] 22 false, .blk (b2) [aN 0, aN 100, aN 10, aN 90, aN 20, aN 81, aN 30, aN 70] 39 false] (.tuple #[aN 0, aN 0]) := by
  intro w hw
  refine calls_aw [aI 4, some (.func (.func 77) #[] #[.pointer (some ⟨b1, 0, none⟩)]), aU, aU, aU, aU, aU, aU, aU, aU, aU, aU, aU, aU, aU, aU, aU, aU, aU, aU] [.blk (b1) [.slice (some ⟨b2, 0, none⟩) (4) (4)] 22 false, .blk (b2) [aN 0, aN 100, aN 10, aN 90, aN 20, aN 81, aN 30, aN 70] 39 false] Try.func76 rfl (by kernel_rfl) (esOk hw (by simp [Cel.mine])) ?_
  refine aw_sr [⟨.pure, [], none, true⟩, ⟨.pure, [0], none, true⟩]
    (fun L1 => ⟨[aI 4, some (.func (.func 77) #[] #[.pointer (some ⟨b1, 0, none⟩)]), aU, aU, aI 0, aI 0, aU, aU, aU, aU, aU, aU, aU, aU, aU, aU, aU, aU, aU, aU], [.blk (b1) [.slice (some ⟨b2, 0, none⟩) (4) (4)] 22 false, .blk (b2) [aN 0, aN 100, aN 10, aN 90, aN 20, aN 81, aN 30, aN 70] 39 false], []⟩)
    (fun L1 => [])
    fol (by kernel_rfl) (fun _ => by kernel_rfl) (fun L1 => trivial) (fun L1 => ?_)
  refine aw_seq ?_
  refine aw_sr [⟨.pure, [], none, true⟩, ⟨.pure, [], none, true⟩]
    (fun L2 => ⟨[aI 4, some (.func (.func 77) #[] #[.pointer (some ⟨b1, 0, none⟩)]), aU, aU, aI 0, aI 0, aU, aU, aI 4, aI 0, aU, aU, aU, aU, aU, aU, aU, aU, aU, aU], [.blk (b1) [.slice (some ⟨b2, 0, none⟩) (4) (4)] 22 false, .blk (b2) [aN 0, aN 100, aN 10, aN 90, aN 20, aN 81, aN 30, aN 70] 39 false], []⟩)
    (fun L2 => [])
    fol (by kernel_rfl) (fun _ => by kernel_rfl) (fun L2 => trivial) (fun L2 => ?_)
  refine aw_block ?_
  refine aw_rounds 5 ?_
  refine aw_round ?_
  refine aw_sr [⟨.pure, [], none, true⟩]
    (fun L3 => ⟨[aI 4, some (.func (.func 77) #[] #[.pointer (some ⟨b1, 0, none⟩)]), aU, aU, aI 0, aI 0, aU, aU, aI 4, aI 0, aT, aU, aU, aU, aU, aU, aU, aU, aU, aU], [.blk (b1) [.slice (some ⟨b2, 0, none⟩) (4) (4)] 22 false, .blk (b2) [aN 0, aN 100, aN 10, aN 90, aN 20, aN 81, aN 30, aN 70] 39 false], []⟩)
    (fun L3 => [])
    fol (by kernel_rfl) (fun _ => by kernel_rfl) (fun L3 => trivial) (fun L3 => ?_)
  refine aw_seq ?_
  refine aw_true (true) rfl rfl ?_
  refine aw_skip ?_
  refine nrm_thn ?_
  refine aw_seq ?_
  refine aw_block ?_
  refine aw_sr [⟨.pure, [], none, true⟩, ⟨.pure, [0], none, true⟩]
    (fun L4 => ⟨[aI 4, some (.func (.func 77) #[] #[.pointer (some ⟨b1, 0, none⟩)]), aU, aU, aI 0, aI 0, aI 0, aU, aI 4, aI 0, aT, aI 0, aU, aU, aU, aU, aU, aU, aU, aU], [.blk (b1) [.slice (some ⟨b2, 0, none⟩) (4) (4)] 22 false, .blk (b2) [aN 0, aN 100, aN 10, aN 90, aN 20, aN 81, aN 30, aN 70] 39 false], []⟩)
    (fun L4 => [])
    fol (by kernel_rfl) (fun _ => by kernel_rfl) (fun L4 => trivial) (fun L4 => ?_)
  refine aw_sr [⟨.pure, [], none, true⟩, ⟨.pure, [], none, true⟩, ⟨(.call [0, 1] (aN 0)), [0, 1], none, true⟩, ⟨.pure, [0, 1, 2], none, true⟩]
    (fun L5 => ⟨[aI 4, some (.func (.func 77) #[] #[.pointer (some ⟨b1, 0, none⟩)]), aU, aU, aI 0, aI 0, aI 0, aI 0, aI 4, aI 0, aT, aI 0, some (.func (.func 77) #[] #[.pointer (some ⟨b1, 0, none⟩)]), aI 0, aI 0, aU, aU, aU, aU, aU], [.blk (b1) [.slice (some ⟨b2, 0, none⟩) (4) (4)] 22 false, .blk (b2) [aN 0, aN 100, aN 10, aN 90, aN 20, aN 81, aN 30, aN 70] 39 false], []⟩)
    (fun L5 => [CallOb Try.prog 77 #[aN 0, .pointer (some ⟨b1, 0, none⟩)] [.blk (b1) [.slice (some ⟨b2, 0, none⟩) (4) (4)] 22 false, .blk (b2) [aN 0, aN 100, aN 10, aN 90, aN 20, aN 81, aN 30, aN 70] 39 false] (aN 0)])
    fol (by kernel_rfl) (fun _ => by kernel_rfl) (fun L5 => ⟨(callOb_frz (UA.i_155 (b1) (b2) )), trivial⟩) (fun L5 => ?_)
  refine aw_sr [⟨.pure, [], none, true⟩, ⟨.pure, [0], none, true⟩]
    (fun L6 => ⟨[aI 4, some (.func (.func 77) #[] #[.pointer (some ⟨b1, 0, none⟩)]), aU, aU, aI 0, aI 0, aI 0, aI 0, aI 4, aI 0, aT, aI 0, some (.func (.func 77) #[] #[.pointer (some ⟨b1, 0, none⟩)]), aI 0, aI 0, aI 0, aF, aU, aU, aU], [.blk (b1) [.slice (some ⟨b2, 0, none⟩) (4) (4)] 22 false, .blk (b2) [aN 0, aN 100, aN 10, aN 90, aN 20, aN 81, aN 30, aN 70] 39 false], []⟩)
    (fun L6 => [])
    fol (by kernel_rfl) (fun _ => by kernel_rfl) (fun L6 => trivial) (fun L6 => ?_)
  refine aw_false (false) rfl rfl ?_
  refine aw_skip ?_
  refine nrm_inB ?_
  refine nrm_thn ?_
  refine aw_region [⟨.pure, [], none, true⟩, ⟨.pure, [0], none, true⟩]
    (fun L7 => ⟨[aI 4, some (.func (.func 77) #[] #[.pointer (some ⟨b1, 0, none⟩)]), aU, aU, aI 0, aI 0, aI 0, aI 0, aI 4, aI 1, aT, aI 0, some (.func (.func 77) #[] #[.pointer (some ⟨b1, 0, none⟩)]), aI 0, aI 0, aI 0, aF, aU, aU, aI 1], [.blk (b1) [.slice (some ⟨b2, 0, none⟩) (4) (4)] 22 false, .blk (b2) [aN 0, aN 100, aN 10, aN 90, aN 20, aN 81, aN 30, aN 70] 39 false], []⟩)
    (fun L7 => [])
    fol (by kernel_rfl) (fun _ => by kernel_rfl) (fun L7 => trivial) (fun L7 => ?_)
  refine nrm_thn ?_
  refine aw_round ?_
  refine aw_sr [⟨.pure, [], none, true⟩]
    (fun L8 => ⟨[aI 4, some (.func (.func 77) #[] #[.pointer (some ⟨b1, 0, none⟩)]), aU, aU, aI 0, aI 0, aI 0, aI 0, aI 4, aI 1, aT, aI 0, some (.func (.func 77) #[] #[.pointer (some ⟨b1, 0, none⟩)]), aI 0, aI 0, aI 0, aF, aU, aU, aI 1], [.blk (b1) [.slice (some ⟨b2, 0, none⟩) (4) (4)] 22 false, .blk (b2) [aN 0, aN 100, aN 10, aN 90, aN 20, aN 81, aN 30, aN 70] 39 false], []⟩)
    (fun L8 => [])
    fol (by kernel_rfl) (fun _ => by kernel_rfl) (fun L8 => trivial) (fun L8 => ?_)
  refine aw_seq ?_
  refine aw_true (true) rfl rfl ?_
  refine aw_skip ?_
  refine nrm_thn ?_
  refine aw_seq ?_
  refine aw_block ?_
  refine aw_sr [⟨.pure, [], none, true⟩, ⟨.pure, [0], none, true⟩]
    (fun L9 => ⟨[aI 4, some (.func (.func 77) #[] #[.pointer (some ⟨b1, 0, none⟩)]), aU, aU, aI 0, aI 0, aI 1, aI 0, aI 4, aI 1, aT, aI 1, some (.func (.func 77) #[] #[.pointer (some ⟨b1, 0, none⟩)]), aI 0, aI 0, aI 0, aF, aU, aU, aI 1], [.blk (b1) [.slice (some ⟨b2, 0, none⟩) (4) (4)] 22 false, .blk (b2) [aN 0, aN 100, aN 10, aN 90, aN 20, aN 81, aN 30, aN 70] 39 false], []⟩)
    (fun L9 => [])
    fol (by kernel_rfl) (fun _ => by kernel_rfl) (fun L9 => trivial) (fun L9 => ?_)
  refine aw_sr [⟨.pure, [], none, true⟩, ⟨.pure, [], none, true⟩, ⟨(.call [0, 1] (aN 0)), [0, 1], none, true⟩, ⟨.pure, [0, 1, 2], none, true⟩]
    (fun L10 => ⟨[aI 4, some (.func (.func 77) #[] #[.pointer (some ⟨b1, 0, none⟩)]), aU, aU, aI 0, aI 0, aI 1, aI 0, aI 4, aI 1, aT, aI 1, some (.func (.func 77) #[] #[.pointer (some ⟨b1, 0, none⟩)]), aI 1, aI 0, aI 0, aF, aU, aU, aI 1], [.blk (b1) [.slice (some ⟨b2, 0, none⟩) (4) (4)] 22 false, .blk (b2) [aN 0, aN 100, aN 10, aN 90, aN 20, aN 81, aN 30, aN 70] 39 false], []⟩)
    (fun L10 => [CallOb Try.prog 77 #[aN 1, .pointer (some ⟨b1, 0, none⟩)] [.blk (b1) [.slice (some ⟨b2, 0, none⟩) (4) (4)] 22 false, .blk (b2) [aN 0, aN 100, aN 10, aN 90, aN 20, aN 81, aN 30, aN 70] 39 false] (aN 0)])
    fol (by kernel_rfl) (fun _ => by kernel_rfl) (fun L10 => ⟨(callOb_frz (UA.i_161 (b1) (b2) )), trivial⟩) (fun L10 => ?_)
  refine aw_sr [⟨.pure, [], none, true⟩, ⟨.pure, [0], none, true⟩]
    (fun L11 => ⟨[aI 4, some (.func (.func 77) #[] #[.pointer (some ⟨b1, 0, none⟩)]), aU, aU, aI 0, aI 0, aI 1, aI 0, aI 4, aI 1, aT, aI 1, some (.func (.func 77) #[] #[.pointer (some ⟨b1, 0, none⟩)]), aI 1, aI 0, aI 0, aF, aU, aU, aI 1], [.blk (b1) [.slice (some ⟨b2, 0, none⟩) (4) (4)] 22 false, .blk (b2) [aN 0, aN 100, aN 10, aN 90, aN 20, aN 81, aN 30, aN 70] 39 false], []⟩)
    (fun L11 => [])
    fol (by kernel_rfl) (fun _ => by kernel_rfl) (fun L11 => trivial) (fun L11 => ?_)
  refine aw_false (false) rfl rfl ?_
  refine aw_skip ?_
  refine nrm_inB ?_
  refine nrm_thn ?_
  refine aw_region [⟨.pure, [], none, true⟩, ⟨.pure, [0], none, true⟩]
    (fun L12 => ⟨[aI 4, some (.func (.func 77) #[] #[.pointer (some ⟨b1, 0, none⟩)]), aU, aU, aI 0, aI 0, aI 1, aI 0, aI 4, aI 2, aT, aI 1, some (.func (.func 77) #[] #[.pointer (some ⟨b1, 0, none⟩)]), aI 1, aI 0, aI 0, aF, aU, aU, aI 2], [.blk (b1) [.slice (some ⟨b2, 0, none⟩) (4) (4)] 22 false, .blk (b2) [aN 0, aN 100, aN 10, aN 90, aN 20, aN 81, aN 30, aN 70] 39 false], []⟩)
    (fun L12 => [])
    fol (by kernel_rfl) (fun _ => by kernel_rfl) (fun L12 => trivial) (fun L12 => ?_)
  refine nrm_thn ?_
  refine aw_round ?_
  refine aw_sr [⟨.pure, [], none, true⟩]
    (fun L13 => ⟨[aI 4, some (.func (.func 77) #[] #[.pointer (some ⟨b1, 0, none⟩)]), aU, aU, aI 0, aI 0, aI 1, aI 0, aI 4, aI 2, aT, aI 1, some (.func (.func 77) #[] #[.pointer (some ⟨b1, 0, none⟩)]), aI 1, aI 0, aI 0, aF, aU, aU, aI 2], [.blk (b1) [.slice (some ⟨b2, 0, none⟩) (4) (4)] 22 false, .blk (b2) [aN 0, aN 100, aN 10, aN 90, aN 20, aN 81, aN 30, aN 70] 39 false], []⟩)
    (fun L13 => [])
    fol (by kernel_rfl) (fun _ => by kernel_rfl) (fun L13 => trivial) (fun L13 => ?_)
  refine aw_seq ?_
  refine aw_true (true) rfl rfl ?_
  refine aw_skip ?_
  refine nrm_thn ?_
  refine aw_seq ?_
  refine aw_block ?_
  refine aw_sr [⟨.pure, [], none, true⟩, ⟨.pure, [0], none, true⟩]
    (fun L14 => ⟨[aI 4, some (.func (.func 77) #[] #[.pointer (some ⟨b1, 0, none⟩)]), aU, aU, aI 0, aI 0, aI 2, aI 0, aI 4, aI 2, aT, aI 2, some (.func (.func 77) #[] #[.pointer (some ⟨b1, 0, none⟩)]), aI 1, aI 0, aI 0, aF, aU, aU, aI 2], [.blk (b1) [.slice (some ⟨b2, 0, none⟩) (4) (4)] 22 false, .blk (b2) [aN 0, aN 100, aN 10, aN 90, aN 20, aN 81, aN 30, aN 70] 39 false], []⟩)
    (fun L14 => [])
    fol (by kernel_rfl) (fun _ => by kernel_rfl) (fun L14 => trivial) (fun L14 => ?_)
  refine aw_sr [⟨.pure, [], none, true⟩, ⟨.pure, [], none, true⟩, ⟨(.call [0, 1] (aN 0)), [0, 1], none, true⟩, ⟨.pure, [0, 1, 2], none, true⟩]
    (fun L15 => ⟨[aI 4, some (.func (.func 77) #[] #[.pointer (some ⟨b1, 0, none⟩)]), aU, aU, aI 0, aI 0, aI 2, aI 0, aI 4, aI 2, aT, aI 2, some (.func (.func 77) #[] #[.pointer (some ⟨b1, 0, none⟩)]), aI 2, aI 0, aI 0, aF, aU, aU, aI 2], [.blk (b1) [.slice (some ⟨b2, 0, none⟩) (4) (4)] 22 false, .blk (b2) [aN 0, aN 100, aN 10, aN 90, aN 20, aN 81, aN 30, aN 70] 39 false], []⟩)
    (fun L15 => [CallOb Try.prog 77 #[aN 2, .pointer (some ⟨b1, 0, none⟩)] [.blk (b1) [.slice (some ⟨b2, 0, none⟩) (4) (4)] 22 false, .blk (b2) [aN 0, aN 100, aN 10, aN 90, aN 20, aN 81, aN 30, aN 70] 39 false] (aN 0)])
    fol (by kernel_rfl) (fun _ => by kernel_rfl) (fun L15 => ⟨(callOb_frz (UA.i_167 (b1) (b2) )), trivial⟩) (fun L15 => ?_)
  refine aw_sr [⟨.pure, [], none, true⟩, ⟨.pure, [0], none, true⟩]
    (fun L16 => ⟨[aI 4, some (.func (.func 77) #[] #[.pointer (some ⟨b1, 0, none⟩)]), aU, aU, aI 0, aI 0, aI 2, aI 0, aI 4, aI 2, aT, aI 2, some (.func (.func 77) #[] #[.pointer (some ⟨b1, 0, none⟩)]), aI 2, aI 0, aI 0, aF, aU, aU, aI 2], [.blk (b1) [.slice (some ⟨b2, 0, none⟩) (4) (4)] 22 false, .blk (b2) [aN 0, aN 100, aN 10, aN 90, aN 20, aN 81, aN 30, aN 70] 39 false], []⟩)
    (fun L16 => [])
    fol (by kernel_rfl) (fun _ => by kernel_rfl) (fun L16 => trivial) (fun L16 => ?_)
  refine aw_false (false) rfl rfl ?_
  refine aw_skip ?_
  refine nrm_inB ?_
  refine nrm_thn ?_
  refine aw_region [⟨.pure, [], none, true⟩, ⟨.pure, [0], none, true⟩]
    (fun L17 => ⟨[aI 4, some (.func (.func 77) #[] #[.pointer (some ⟨b1, 0, none⟩)]), aU, aU, aI 0, aI 0, aI 2, aI 0, aI 4, aI 3, aT, aI 2, some (.func (.func 77) #[] #[.pointer (some ⟨b1, 0, none⟩)]), aI 2, aI 0, aI 0, aF, aU, aU, aI 3], [.blk (b1) [.slice (some ⟨b2, 0, none⟩) (4) (4)] 22 false, .blk (b2) [aN 0, aN 100, aN 10, aN 90, aN 20, aN 81, aN 30, aN 70] 39 false], []⟩)
    (fun L17 => [])
    fol (by kernel_rfl) (fun _ => by kernel_rfl) (fun L17 => trivial) (fun L17 => ?_)
  refine nrm_thn ?_
  refine aw_round ?_
  refine aw_sr [⟨.pure, [], none, true⟩]
    (fun L18 => ⟨[aI 4, some (.func (.func 77) #[] #[.pointer (some ⟨b1, 0, none⟩)]), aU, aU, aI 0, aI 0, aI 2, aI 0, aI 4, aI 3, aT, aI 2, some (.func (.func 77) #[] #[.pointer (some ⟨b1, 0, none⟩)]), aI 2, aI 0, aI 0, aF, aU, aU, aI 3], [.blk (b1) [.slice (some ⟨b2, 0, none⟩) (4) (4)] 22 false, .blk (b2) [aN 0, aN 100, aN 10, aN 90, aN 20, aN 81, aN 30, aN 70] 39 false], []⟩)
    (fun L18 => [])
    fol (by kernel_rfl) (fun _ => by kernel_rfl) (fun L18 => trivial) (fun L18 => ?_)
  refine aw_seq ?_
  refine aw_true (true) rfl rfl ?_
  refine aw_skip ?_
  refine nrm_thn ?_
  refine aw_seq ?_
  refine aw_block ?_
  refine aw_sr [⟨.pure, [], none, true⟩, ⟨.pure, [0], none, true⟩]
    (fun L19 => ⟨[aI 4, some (.func (.func 77) #[] #[.pointer (some ⟨b1, 0, none⟩)]), aU, aU, aI 0, aI 0, aI 3, aI 0, aI 4, aI 3, aT, aI 3, some (.func (.func 77) #[] #[.pointer (some ⟨b1, 0, none⟩)]), aI 2, aI 0, aI 0, aF, aU, aU, aI 3], [.blk (b1) [.slice (some ⟨b2, 0, none⟩) (4) (4)] 22 false, .blk (b2) [aN 0, aN 100, aN 10, aN 90, aN 20, aN 81, aN 30, aN 70] 39 false], []⟩)
    (fun L19 => [])
    fol (by kernel_rfl) (fun _ => by kernel_rfl) (fun L19 => trivial) (fun L19 => ?_)
  refine aw_sr [⟨.pure, [], none, true⟩, ⟨.pure, [], none, true⟩, ⟨(.call [0, 1] (aN 0)), [0, 1], none, true⟩, ⟨.pure, [0, 1, 2], none, true⟩]
    (fun L20 => ⟨[aI 4, some (.func (.func 77) #[] #[.pointer (some ⟨b1, 0, none⟩)]), aU, aU, aI 0, aI 0, aI 3, aI 0, aI 4, aI 3, aT, aI 3, some (.func (.func 77) #[] #[.pointer (some ⟨b1, 0, none⟩)]), aI 3, aI 0, aI 0, aF, aU, aU, aI 3], [.blk (b1) [.slice (some ⟨b2, 0, none⟩) (4) (4)] 22 false, .blk (b2) [aN 0, aN 100, aN 10, aN 90, aN 20, aN 81, aN 30, aN 70] 39 false], []⟩)
    (fun L20 => [CallOb Try.prog 77 #[aN 3, .pointer (some ⟨b1, 0, none⟩)] [.blk (b1) [.slice (some ⟨b2, 0, none⟩) (4) (4)] 22 false, .blk (b2) [aN 0, aN 100, aN 10, aN 90, aN 20, aN 81, aN 30, aN 70] 39 false] (aN 0)])
    fol (by kernel_rfl) (fun _ => by kernel_rfl) (fun L20 => ⟨(callOb_frz (UA.i_173 (b1) (b2) )), trivial⟩) (fun L20 => ?_)
  refine aw_sr [⟨.pure, [], none, true⟩, ⟨.pure, [0], none, true⟩]
    (fun L21 => ⟨[aI 4, some (.func (.func 77) #[] #[.pointer (some ⟨b1, 0, none⟩)]), aU, aU, aI 0, aI 0, aI 3, aI 0, aI 4, aI 3, aT, aI 3, some (.func (.func 77) #[] #[.pointer (some ⟨b1, 0, none⟩)]), aI 3, aI 0, aI 0, aF, aU, aU, aI 3], [.blk (b1) [.slice (some ⟨b2, 0, none⟩) (4) (4)] 22 false, .blk (b2) [aN 0, aN 100, aN 10, aN 90, aN 20, aN 81, aN 30, aN 70] 39 false], []⟩)
    (fun L21 => [])
    fol (by kernel_rfl) (fun _ => by kernel_rfl) (fun L21 => trivial) (fun L21 => ?_)
  refine aw_false (false) rfl rfl ?_
  refine aw_skip ?_
  refine nrm_inB ?_
  refine nrm_thn ?_
  refine aw_region [⟨.pure, [], none, true⟩, ⟨.pure, [0], none, true⟩]
    (fun L22 => ⟨[aI 4, some (.func (.func 77) #[] #[.pointer (some ⟨b1, 0, none⟩)]), aU, aU, aI 0, aI 0, aI 3, aI 0, aI 4, aI 4, aT, aI 3, some (.func (.func 77) #[] #[.pointer (some ⟨b1, 0, none⟩)]), aI 3, aI 0, aI 0, aF, aU, aU, aI 4], [.blk (b1) [.slice (some ⟨b2, 0, none⟩) (4) (4)] 22 false, .blk (b2) [aN 0, aN 100, aN 10, aN 90, aN 20, aN 81, aN 30, aN 70] 39 false], []⟩)
    (fun L22 => [])
    fol (by kernel_rfl) (fun _ => by kernel_rfl) (fun L22 => trivial) (fun L22 => ?_)
  refine nrm_thn ?_
  refine aw_round ?_
  refine aw_sr [⟨.pure, [], none, true⟩]
    (fun L23 => ⟨[aI 4, some (.func (.func 77) #[] #[.pointer (some ⟨b1, 0, none⟩)]), aU, aU, aI 0, aI 0, aI 3, aI 0, aI 4, aI 4, aF, aI 3, some (.func (.func 77) #[] #[.pointer (some ⟨b1, 0, none⟩)]), aI 3, aI 0, aI 0, aF, aU, aU, aI 4], [.blk (b1) [.slice (some ⟨b2, 0, none⟩) (4) (4)] 22 false, .blk (b2) [aN 0, aN 100, aN 10, aN 90, aN 20, aN 81, aN 30, aN 70] 39 false], []⟩)
    (fun L23 => [])
    fol (by kernel_rfl) (fun _ => by kernel_rfl) (fun L23 => trivial) (fun L23 => ?_)
  refine aw_seq ?_
  refine aw_false (false) rfl rfl ?_
  refine aw_exit ?_
  refine ex_thn ?_
  refine ex_thn ?_
  refine ex_hit ?_
  refine nrm_thn ?_
  refine aw_sr [⟨.pure, [], none, true⟩, ⟨.pure, [0], none, true⟩]
    (fun L24 => ⟨[aI 4, some (.func (.func 77) #[] #[.pointer (some ⟨b1, 0, none⟩)]), aU, aU, aI 0, aI 0, aI 3, aI 0, aI 4, aI 4, aF, aI 3, some (.func (.func 77) #[] #[.pointer (some ⟨b1, 0, none⟩)]), aI 3, aI 0, aI 0, aF, aU, aU, aI 4], [.blk (b1) [.slice (some ⟨b2, 0, none⟩) (4) (4)] 22 false, .blk (b2) [aN 0, aN 100, aN 10, aN 90, aN 20, aN 81, aN 30, aN 70] 39 false], []⟩)
    (fun L24 => [])
    fol (by kernel_rfl) (fun _ => by kernel_rfl) (fun L24 => trivial) (fun L24 => ?_)
  refine aw_ret ?_
  exact fin_ret none [0, 0] (.tuple #[aN 0, aN 0]) [] (.inr rfl) rfl (by kernel_rfl) trivial (fun w' hb => ⟨rfl, hb⟩)

-- couplant/tune.CheckTable
set_option maxRecDepth 100000 in
set_option maxHeartbeats 400000 in
theorem UA.i_175 (b1 : Nat) : CallOb Try.prog 19 #[.slice (some ⟨b1, 0, none⟩) (4) (4)] [.blk (b1) [aN 0, aN 100, aN 10, aN 90, aN 20, aN 81, aN 30, aN 70] 39 false] (.tuple #[aN 0, aN 0]) := by
  intro w hw
  refine calls_aw [aS b1 0 4 4, aU, aU, aU, aU, aU, aU, aU, aU, aU, aU, aU, aU, aU, aU, aU, aU] [.blk (b1) [aN 0, aN 100, aN 10, aN 90, aN 20, aN 81, aN 30, aN 70] 39 false] Try.func19 rfl (by kernel_rfl) (esOk hw (by simp [Cel.mine])) ?_
  refine aw_sr [⟨.new, [], none, true⟩, ⟨.pure, [], none, true⟩, ⟨.pure, [1], none, true⟩]
    (fun L1 => ⟨[aS b1 0 4 4, aP (L1 0).b 0, aI 0, aI 0, aU, aU, aU, aU, aU, aU, aU, aU, aU, aU, aU, aU, aU], [.blk (b1) [aN 0, aN 100, aN 10, aN 90, aN 20, aN 81, aN 30, aN 70] 39 false, .blk ((L1 0).b) [.slice (some ⟨b1, 0, none⟩) (4) (4)] 22 true], []⟩)
    (fun L1 => [])
    fol (by kernel_rfl) (fun _ => by kernel_rfl) (fun L1 => trivial) (fun L1 => ?_)
  refine aw_seq ?_
  refine aw_sr [⟨(.read 1), [], none, true⟩, ⟨.pure, [0], none, true⟩, ⟨(.call [] (aN 0)), [0, 1], none, true⟩, ⟨.pure, [0, 1, 2], none, true⟩]
    (fun L2 => ⟨[aS b1 0 4 4, aP (L1 0).b 0, aI 0, aI 0, aI 0, aS b1 0 4 4, aI 4, aI 0, aU, aU, aU, aU, aU, aU, aU, aU, aU], [.blk (b1) [aN 0, aN 100, aN 10, aN 90, aN 20, aN 81, aN 30, aN 70] 39 false, .blk ((L1 0).b) [.slice (some ⟨b1, 0, none⟩) (4) (4)] 22 true], []⟩)
    (fun L2 => [(L1 0).b = (L1 0).b, CallOb Try.prog 75 #[aN 4, aN 20] [] (aN 0)])
    fol (by kernel_rfl) (fun _ => by kernel_rfl) (fun L2 => ⟨rfl, (callOb_frz (UA.i_151  )), trivial⟩) (fun L2 => ?_)
  refine aw_sr [⟨.pure, [], none, true⟩, ⟨.pure, [0], none, true⟩]
    (fun L3 => ⟨[aS b1 0 4 4, aP (L1 0).b 0, aI 0, aI 0, aI 0, aS b1 0 4 4, aI 4, aI 0, aI 0, aF, aU, aU, aU, aU, aU, aU, aU], [.blk (b1) [aN 0, aN 100, aN 10, aN 90, aN 20, aN 81, aN 30, aN 70] 39 false, .blk ((L1 0).b) [.slice (some ⟨b1, 0, none⟩) (4) (4)] 22 true], []⟩)
    (fun L3 => [])
    fol (by kernel_rfl) (fun _ => by kernel_rfl) (fun L3 => trivial) (fun L3 => ?_)
  refine aw_false (false) rfl rfl ?_
  refine aw_skip ?_
  refine nrm_thn ?_
  refine aw_sr [⟨(.read 1), [], none, true⟩, ⟨.pure, [0], none, true⟩, ⟨.pure, [], none, true⟩, ⟨(.call [1, 0] (.tuple #[aN 0, aN 0])), [0, 1, 2], none, true⟩, ⟨.pure, [0, 1, 2, 3], none, true⟩, ⟨.pure, [0, 1, 2, 3], none, true⟩, ⟨.pure, [0, 1, 2, 3, 4, 5], none, true⟩, ⟨.pure, [0, 1, 2, 3, 4, 5, 6], none, true⟩]
    (fun L4 => ⟨[aS b1 0 4 4, aP (L1 0).b 0, aI 0, aI 0, aI 0, aS b1 0 4 4, aI 4, aI 0, aI 0, aF, aU, aS b1 0 4 4, aI 4, some (.func (.func 77) #[] #[.pointer (some ⟨(L1 0).b, 0, none⟩)]), some (.tuple #[aN 0, aN 0]), aI 0, aI 0], [.blk (b1) [aN 0, aN 100, aN 10, aN 90, aN 20, aN 81, aN 30, aN 70] 39 false, .blk ((L1 0).b) [.slice (some ⟨b1, 0, none⟩) (4) (4)] 22 true], []⟩)
    (fun L4 => [(L1 0).b = (L1 0).b, CallOb Try.prog 76 #[aN 4, .func (.func 77) #[] #[.pointer (some ⟨(L1 0).b, 0, none⟩)]] [.blk ((L1 0).b) [.slice (some ⟨b1, 0, none⟩) (4) (4)] 22 true, .blk (b1) [aN 0, aN 100, aN 10, aN 90, aN 20, aN 81, aN 30, aN 70] 39 false] (.tuple #[aN 0, aN 0])])
    fol (by kernel_rfl) (fun _ => by kernel_rfl) (fun L4 => ⟨rfl, (callOb_frz (UA.i_174 ((L1 0).b) (b1) )), trivial⟩) (fun L4 => ?_)
  refine aw_ret ?_
  exact fin_ret none [0, 0] (.tuple #[aN 0, aN 0]) [] (.inr rfl) rfl (by kernel_rfl) trivial (fun w' hb => ⟨rfl, hb⟩)

-- couplant/base.Within
set_option maxRecDepth 100000 in
set_option maxHeartbeats 400000 in
theorem UA.i_176 : CallOb Try.prog 127 #[aN 1, aN 0, aN 1000000] [] (.bool (true)) := by
  intro w hw
  refine calls_aw [aI 1, aI 0, aI 1000000, aU, aU, aU, aU, aU, aU, aU, aU, aU, aU, aU, aU] [] Try.func127 rfl (by kernel_rfl) (fun e x h => by cases h) ?_
  refine aw_sr [⟨.pure, [], none, true⟩]
    (fun L1 => ⟨[aI 1, aI 0, aI 1000000, aU, aU, aU, aF, aU, aU, aU, aU, aU, aU, aU, aU], [], []⟩)
    (fun L1 => [])
    fol (by kernel_rfl) (fun _ => by kernel_rfl) (fun L1 => trivial) (fun L1 => ?_)
  refine aw_sr [⟨.pure, [], none, true⟩, ⟨.pure, [], none, true⟩, ⟨.pure, [0, 1], none, true⟩, ⟨.pure, [0, 1, 2], none, true⟩, ⟨.pure, [0, 1, 2, 3], none, true⟩, ⟨.pure, [0, 1, 2, 3], none, true⟩, ⟨.pure, [0, 1, 2, 3, 4, 5], none, true⟩, ⟨.pure, [0, 1, 2, 3, 4, 5, 6], aT, true⟩, ⟨.pure, [0, 1, 2, 3, 4, 5, 6, 7], none, true⟩]
    (fun L2 => ⟨[aI 1, aI 0, aI 1000000, aU, aU, aU, aT, aI 0, aI 1, aT, aT, aI 1, aI 1000000, aT, aT], [], []⟩)
    (fun L2 => [(true) = true, (true) = true, (true) = true, (.bool (true) : Value) = .bool (true)])
    fol (by kernel_rfl) (fun _ => by kernel_rfl) (fun L2 => ⟨rfl, rfl, rfl, rfl, trivial⟩) (fun L2 => ?_)
  refine aw_ret ?_
  exact fin_ret none [0] (.bool (true)) [] (.inr rfl) rfl (by kernel_rfl) trivial (fun w' hb => ⟨rfl, hb⟩)

-- couplant/base.RangeError
set_option maxRecDepth 100000 in
set_option maxHeartbeats 400000 in
theorem UA.i_177 : CallOb Try.prog 79 #[aN 1, aN 0, aN 1000000] [] (aN 0) := by
  intro w hw
  refine calls_aw [aI 1, aI 0, aI 1000000, aU, aU, aU, aU, aU, aU, aU, aU, aU] [] Try.func79 rfl (by kernel_rfl) (fun e x h => by cases h) ?_
  refine aw_sr [⟨.pure, [], none, true⟩]
    (fun L1 => ⟨[aI 1, aI 0, aI 1000000, aU, aU, aU, aI 0, aU, aU, aU, aU, aU], [], []⟩)
    (fun L1 => [])
    fol (by kernel_rfl) (fun _ => by kernel_rfl) (fun L1 => trivial) (fun L1 => ?_)
  refine aw_sr [⟨.pure, [], none, true⟩, ⟨.pure, [], none, true⟩, ⟨.pure, [], none, true⟩, ⟨(.call [] (.bool (true))), [0, 1, 2], none, true⟩, ⟨(.call [] (aN 0)), [0, 1, 2, 3], none, true⟩, ⟨.pure, [0, 1, 2, 3, 4], none, true⟩]
    (fun L2 => ⟨[aI 1, aI 0, aI 1000000, aU, aU, aU, aI 0, aI 1, aI 0, aI 1000000, aT, aI 0], [], []⟩)
    (fun L2 => [CallOb Try.prog 127 #[aN 1, aN 0, aN 1000000] [] (.bool (true)), CallOb Try.prog 81 #[.bool (true), aN 2] [] (aN 0)])
    fol (by kernel_rfl) (fun _ => by kernel_rfl) (fun L2 => ⟨(callOb_frz (UA.i_176  )), (callOb_frz (UA.i_6  )), trivial⟩) (fun L2 => ?_)
  refine aw_ret ?_
  exact fin_ret none [0] (aN 0) [] (.inr rfl) rfl (by kernel_rfl) trivial (fun w' hb => ⟨rfl, hb⟩)

-- (couplant/tune.table).line
set_option maxRecDepth 100000 in
set_option maxHeartbeats 400000 in
theorem UA.i_178 (b1 : Nat) : CallOb Try.prog 130 #[.slice (some ⟨b1, 0, none⟩) (4) (4), aN 1, aN 3] [.blk (b1) [aN 0, aN 100, aN 10, aN 90, aN 20, aN 81, aN 30, aN 70] 39 false] (.agg #[aN 10, aN 90, aN 30, aN 70]) := by
  intro w hw
  refine calls_aw [aS b1 0 4 4, aI 1, aI 3, aU, aU, aU, aU, aU, aU, aU, aU, aU, aU, aU, aU, aU, aU, aU, aU, aU, aU, aU, aU, aU, aU, aU, aU, aU, aU, aU] [.blk (b1) [aN 0, aN 100, aN 10, aN 90, aN 20, aN 81, aN 30, aN 70] 39 false] Try.func130 rfl (by kernel_rfl) (esOk hw (by simp [Cel.mine])) ?_
  refine aw_sr [⟨.new, [], none, true⟩]
    (fun L1 => ⟨[aS b1 0 4 4, aI 1, aI 3, aU, aU, aU, aP (L1 0).b 0, aU, aU, aU, aU, aU, aU, aU, aU, aU, aU, aU, aU, aU, aU, aU, aU, aU, aU, aU, aU, aU, aU, aU], [.blk (b1) [aN 0, aN 100, aN 10, aN 90, aN 20, aN 81, aN 30, aN 70] 39 false, .blk ((L1 0).b) [aN 0, aN 0, aN 0, aN 0] 141 true], []⟩)
    (fun L1 => [])
    fol (by kernel_rfl) (fun _ => by kernel_rfl) (fun L1 => trivial) (fun L1 => ?_)
  refine aw_sr [⟨.pure, [], none, true⟩, ⟨.pure, [], none, true⟩, ⟨.pure, [0, 1], none, true⟩, ⟨.pure, [0, 1, 2], none, true⟩, ⟨(.read 0), [0, 1, 2, 3], none, true⟩, ⟨.pure, [], none, true⟩, ⟨.pure, [], none, true⟩, ⟨.pure, [5, 6], none, true⟩, ⟨.pure, [5, 6, 7], none, true⟩, ⟨(.read 0), [5, 6, 7, 8], none, true⟩, ⟨.pure, [0, 1, 2, 3, 4, 5, 6, 7, 8, 9], none, true⟩, ⟨.pure, [], none, true⟩, ⟨.pure, [], none, true⟩, ⟨.pure, [11, 12], none, true⟩, ⟨.pure, [11, 12, 13], none, true⟩, ⟨(.read 0), [11, 12, 13, 14], none, true⟩, ⟨.pure, [], none, true⟩, ⟨.pure, [], none, true⟩, ⟨.pure, [16, 17], none, true⟩, ⟨.pure, [16, 17, 18], none, true⟩, ⟨(.read 0), [16, 17, 18, 19], none, true⟩, ⟨.pure, [11, 12, 13, 14, 15, 16, 17, 18, 19, 20], none, true⟩, ⟨.pure, [0, 1, 2, 3, 4, 5, 6, 7, 8, 9, 10, 11, 12, 13, 14, 15, 16, 17, 18, 19, 20, 21], none, true⟩, ⟨(.write 1), [0, 1, 2, 3, 4, 5, 6, 7, 8, 9, 10, 11, 12, 13, 14, 15, 16, 17, 18, 19, 20, 21, 22], none, true⟩]
    (fun L2 => ⟨[aS b1 0 4 4, aI 1, aI 3, aU, aU, aU, aP (L1 0).b 0, aS b1 0 4 4, aI 1, aP b1 2, aP b1 2, aI 10, aS b1 0 4 4, aI 1, aP b1 2, aP b1 3, aI 90, some (.agg #[aN 10, aN 90]), aS b1 0 4 4, aI 3, aP b1 6, aP b1 6, aI 30, aS b1 0 4 4, aI 3, aP b1 6, aP b1 7, aI 70, some (.agg #[aN 30, aN 70]), some (.agg #[aN 10, aN 90, aN 30, aN 70])], [.blk (b1) [aN 0, aN 100, aN 10, aN 90, aN 20, aN 81, aN 30, aN 70] 39 false, .blk ((L1 0).b) [aN 10, aN 90, aN 30, aN 70] 141 true], []⟩)
    (fun L2 => [b1 = b1, b1 = b1, b1 = b1, b1 = b1, (L1 0).b = (L1 0).b, 0 + 4 ≤ 4, 4 = 4, true = true])
    fol (by kernel_rfl) (fun _ => by kernel_rfl) (fun L2 => ⟨rfl, rfl, rfl, rfl, rfl, (by decide), rfl, rfl, trivial⟩) (fun L2 => ?_)
  refine aw_ret ?_
  exact fin_ret none [1] (.agg #[aN 10, aN 90, aN 30, aN 70]) [(L1 0).b = (L1 0).b, 0 + 4 ≤ 4] (.inr rfl) rfl (by kernel_rfl) ⟨rfl, (by decide), trivial⟩ (fun w' hb => ⟨rfl, hb⟩)

-- (couplant/tune.line).heightAt
set_option maxRecDepth 100000 in
set_option maxHeartbeats 400000 in
theorem UA.i_179 : CallOb Try.prog 97 #[.agg #[aN 10, aN 90, aN 30, aN 70], aN 20] [] (.agg #[aN 1600, aN 20]) := by
  intro w hw
  refine calls_aw [some (.agg #[aN 10, aN 90, aN 30, aN 70]), aI 20, aU, aU, aU, aU, aU, aU, aU, aU, aU, aU, aU, aU, aU, aU, aU, aU, aU, aU, aU, aU, aU, aU, aU, aU, aU, aU, aU, aU, aU, aU] [] Try.func97 rfl (by kernel_rfl) (fun e x h => by cases h) ?_
  refine aw_sr [⟨.new, [], none, true⟩, ⟨.new, [], none, true⟩]
    (fun L1 => ⟨[some (.agg #[aN 10, aN 90, aN 30, aN 70]), aI 20, aP (L1 0).b 0, aU, aP (L1 1).b 0, aU, aU, aU, aU, aU, aU, aU, aU, aU, aU, aU, aU, aU, aU, aU, aU, aU, aU, aU, aU, aU, aU, aU, aU, aU, aU, aU], [.blk ((L1 0).b) [aN 10, aN 90, aN 30, aN 70] 141 true, .blk ((L1 1).b) [aN 0, aN 0] 123 true], []⟩)
    (fun L1 => [])
    fol (by kernel_rfl) (fun _ => by kernel_rfl) (fun L1 => trivial) (fun L1 => ?_)
  refine aw_sr [⟨.pure, [], none, true⟩, ⟨.pure, [0], none, true⟩, ⟨(.read 0), [0, 1], none, true⟩, ⟨.pure, [], none, true⟩, ⟨.pure, [3], none, true⟩, ⟨(.read 0), [3, 4], none, true⟩, ⟨.pure, [], none, true⟩, ⟨.pure, [3, 4, 5, 6], none, true⟩, ⟨.pure, [0, 1, 2, 3, 4, 5, 6, 7], none, true⟩, ⟨.pure, [], none, true⟩, ⟨.pure, [9], none, true⟩, ⟨(.read 0), [9, 10], none, true⟩, ⟨.pure, [], none, true⟩, ⟨.pure, [], none, true⟩, ⟨.pure, [13], none, true⟩, ⟨(.read 0), [13, 14], none, true⟩, ⟨.pure, [12, 13, 14, 15], none, true⟩, ⟨.pure, [9, 10, 11, 12, 13, 14, 15, 16], none, true⟩, ⟨.pure, [0, 1, 2, 3, 4, 5, 6, 7, 8, 9, 10, 11, 12, 13, 14, 15, 16, 17], none, true⟩, ⟨.pure, [], none, true⟩, ⟨.pure, [19], none, true⟩, ⟨(.read 0), [19, 20], none, true⟩, ⟨.pure, [], none, true⟩, ⟨.pure, [22], none, true⟩, ⟨(.read 0), [22, 23], none, true⟩, ⟨.pure, [19, 20, 21, 22, 23, 24], none, true⟩, ⟨.pure, [0, 1, 2, 3, 4, 5, 6, 7, 8, 9, 10, 11, 12, 13, 14, 15, 16, 17, 18, 19, 20, 21, 22, 23, 24, 25], none, true⟩, ⟨(.write 1), [0, 1, 2, 3, 4, 5, 6, 7, 8, 9, 10, 11, 12, 13, 14, 15, 16, 17, 18, 19, 20, 21, 22, 23, 24, 25, 26], none, true⟩]
    (fun L2 => ⟨[some (.agg #[aN 10, aN 90, aN 30, aN 70]), aI 20, aP (L1 0).b 0, aU, aP (L1 1).b 0, aP (L1 0).b 0, aP (L1 0).b 1, aI 90, aP (L1 0).b 2, aP (L1 0).b 2, aI 30, aI 20, aI 10, aI 900, aP (L1 0).b 2, aP (L1 0).b 3, aI 70, aI 20, aP (L1 0).b 0, aP (L1 0).b 0, aI 10, aI 10, aI 700, aI 1600, aP (L1 0).b 2, aP (L1 0).b 2, aI 30, aP (L1 0).b 0, aP (L1 0).b 0, aI 10, aI 20, some (.agg #[aN 1600, aN 20])], [.blk ((L1 0).b) [aN 10, aN 90, aN 30, aN 70] 141 true, .blk ((L1 1).b) [aN 1600, aN 20] 123 true], []⟩)
    (fun L2 => [(L1 0).b = (L1 0).b, (L1 0).b = (L1 0).b, (L1 0).b = (L1 0).b, (L1 0).b = (L1 0).b, (L1 0).b = (L1 0).b, (L1 0).b = (L1 0).b, (L1 1).b = (L1 1).b, 0 + 2 ≤ 2, 2 = 2, true = true])
    fol (by kernel_rfl) (fun _ => by kernel_rfl) (fun L2 => ⟨rfl, rfl, rfl, rfl, rfl, rfl, rfl, (by decide), rfl, rfl, trivial⟩) (fun L2 => ?_)
  refine aw_ret ?_
  exact fin_ret none [1] (.agg #[aN 1600, aN 20]) [(L1 1).b = (L1 1).b, 0 + 2 ≤ 2] (.inr rfl) rfl (by kernel_rfl) ⟨rfl, (by decide), trivial⟩ (fun w' hb => ⟨rfl, hb⟩)

-- (couplant/tune.quotient).isBelow
set_option maxRecDepth 100000 in
set_option maxHeartbeats 400000 in
theorem UA.i_180 : CallOb Try.prog 103 #[.agg #[aN 1600, aN 20], aN 80] [] (.bool (false)) := by
  intro w hw
  refine calls_aw [some (.agg #[aN 1600, aN 20]), aI 80, aU, aU, aU, aU, aU, aU, aU, aU, aU, aU] [] Try.func103 rfl (by kernel_rfl) (fun e x h => by cases h) ?_
  refine aw_sr [⟨.new, [], none, true⟩, ⟨.pure, [], none, true⟩]
    (fun L1 => ⟨[some (.agg #[aN 1600, aN 20]), aI 80, aP (L1 0).b 0, aU, aF, aU, aU, aU, aU, aU, aU, aU], [.blk ((L1 0).b) [aN 1600, aN 20] 123 true], []⟩)
    (fun L1 => [])
    fol (by kernel_rfl) (fun _ => by kernel_rfl) (fun L1 => trivial) (fun L1 => ?_)
  refine aw_sr [⟨.pure, [], none, true⟩, ⟨(.read 0), [0], none, true⟩, ⟨.pure, [], none, true⟩, ⟨.pure, [], none, true⟩, ⟨(.read 0), [3], none, true⟩, ⟨.pure, [2, 3, 4], none, true⟩, ⟨.pure, [0, 1, 2, 3, 4, 5], none, true⟩, ⟨.pure, [0, 1, 2, 3, 4, 5, 6], none, true⟩]
    (fun L2 => ⟨[some (.agg #[aN 1600, aN 20]), aI 80, aP (L1 0).b 0, aU, aF, aP (L1 0).b 0, aI 1600, aI 80, aP (L1 0).b 1, aI 20, aI 1600, aF], [.blk ((L1 0).b) [aN 1600, aN 20] 123 true], []⟩)
    (fun L2 => [(L1 0).b = (L1 0).b, (L1 0).b = (L1 0).b])
    fol (by kernel_rfl) (fun _ => by kernel_rfl) (fun L2 => ⟨rfl, rfl, trivial⟩) (fun L2 => ?_)
  refine aw_ret ?_
  exact fin_ret none [0] (.bool (false)) [] (.inr rfl) rfl (by kernel_rfl) trivial (fun w' hb => ⟨rfl, hb⟩)

-- (couplant/tune.quotient).isAbove
set_option maxRecDepth 100000 in
set_option maxHeartbeats 400000 in
theorem UA.i_181 : CallOb Try.prog 104 #[.agg #[aN 1600, aN 20], aN 82] [] (.bool (false)) := by
  intro w hw
  refine calls_aw [some (.agg #[aN 1600, aN 20]), aI 82, aU, aU, aU, aU, aU, aU, aU, aU, aU, aU] [] Try.func104 rfl (by kernel_rfl) (fun e x h => by cases h) ?_
  refine aw_sr [⟨.new, [], none, true⟩, ⟨.pure, [], none, true⟩]
    (fun L1 => ⟨[some (.agg #[aN 1600, aN 20]), aI 82, aP (L1 0).b 0, aU, aF, aU, aU, aU, aU, aU, aU, aU], [.blk ((L1 0).b) [aN 1600, aN 20] 123 true], []⟩)
    (fun L1 => [])
    fol (by kernel_rfl) (fun _ => by kernel_rfl) (fun L1 => trivial) (fun L1 => ?_)
  refine aw_sr [⟨.pure, [], none, true⟩, ⟨(.read 0), [0], none, true⟩, ⟨.pure, [], none, true⟩, ⟨.pure, [], none, true⟩, ⟨(.read 0), [3], none, true⟩, ⟨.pure, [2, 3, 4], none, true⟩, ⟨.pure, [0, 1, 2, 3, 4, 5], none, true⟩, ⟨.pure, [0, 1, 2, 3, 4, 5, 6], none, true⟩]
    (fun L2 => ⟨[some (.agg #[aN 1600, aN 20]), aI 82, aP (L1 0).b 0, aU, aF, aP (L1 0).b 0, aI 1600, aI 82, aP (L1 0).b 1, aI 20, aI 1640, aF], [.blk ((L1 0).b) [aN 1600, aN 20] 123 true], []⟩)
    (fun L2 => [(L1 0).b = (L1 0).b, (L1 0).b = (L1 0).b])
    fol (by kernel_rfl) (fun _ => by kernel_rfl) (fun L2 => ⟨rfl, rfl, trivial⟩) (fun L2 => ?_)
  refine aw_ret ?_
  exact fin_ret none [0] (.bool (false)) [] (.inr rfl) rfl (by kernel_rfl) trivial (fun w' hb => ⟨rfl, hb⟩)

-- (couplant/tune.quotient).isOff
set_option maxRecDepth 100000 in
set_option maxHeartbeats 400000 in
theorem UA.i_182 : CallOb Try.prog 148 #[.agg #[aN 1600, aN 20], aN 81, aN 1] [] (.bool (false)) := by
  intro w hw
  refine calls_aw [some (.agg #[aN 1600, aN 20]), aI 81, aI 1, aU, aU, aU, aU, aU, aU, aU, aU, aU, aU, aU, aU, aU, aU, aU, aU] [] Try.func148 rfl (by kernel_rfl) (fun e x h => by cases h) ?_
  refine aw_sr [⟨.new, [], none, true⟩, ⟨.pure, [], none, true⟩]
    (fun L1 => ⟨[some (.agg #[aN 1600, aN 20]), aI 81, aI 1, aP (L1 0).b 0, aU, aU, aF, aU, aU, aU, aU, aU, aU, aU, aU, aU, aU, aU, aU], [.blk ((L1 0).b) [aN 1600, aN 20] 123 true], []⟩)
    (fun L1 => [])
    fol (by kernel_rfl) (fun _ => by kernel_rfl) (fun L1 => trivial) (fun L1 => ?_)
  refine aw_sr [⟨(.read 0), [], none, true⟩, ⟨.pure, [], none, true⟩, ⟨.pure, [], none, true⟩, ⟨.pure, [1, 2], none, true⟩, ⟨(.call [] (.bool (false))), [0, 1, 2, 3], none, true⟩, ⟨.pure, [0, 1, 2, 3, 4], none, true⟩, ⟨(.read 0), [0, 1, 2, 3, 4, 5], none, true⟩, ⟨.pure, [0, 1, 2, 3, 4, 5], none, true⟩, ⟨.pure, [0, 1, 2, 3, 4, 5], none, true⟩, ⟨.pure, [0, 1, 2, 3, 4, 5, 7, 8], none, true⟩, ⟨(.call [] (.bool (false))), [0, 1, 2, 3, 4, 5, 6, 7, 8, 9], none, true⟩, ⟨.pure, [0, 1, 2, 3, 4, 5, 6, 7, 8, 9, 10], aF, true⟩, ⟨.pure, [0, 1, 2, 3, 4, 5, 6, 7, 8, 9, 10, 11], none, true⟩]
    (fun L2 => ⟨[some (.agg #[aN 1600, aN 20]), aI 81, aI 1, aP (L1 0).b 0, aU, aU, aF, some (.agg #[aN 1600, aN 20]), aI 81, aI 1, aI 80, aF, aF, some (.agg #[aN 1600, aN 20]), aI 81, aI 1, aI 82, aF, aF], [.blk ((L1 0).b) [aN 1600, aN 20] 123 true], []⟩)
    (fun L2 => [(L1 0).b = (L1 0).b, 0 + 2 ≤ 2, CallOb Try.prog 103 #[.agg #[aN 1600, aN 20], aN 80] [] (.bool (false)), (false) = false, (L1 0).b = (L1 0).b, 0 + 2 ≤ 2, (false) = false, (false) = false, (false) = false, (false) = false, CallOb Try.prog 104 #[.agg #[aN 1600, aN 20], aN 82] [] (.bool (false)), (.bool (false) : Value) = .bool (false)])
    fol (by kernel_rfl) (fun _ => by kernel_rfl) (fun L2 => ⟨rfl, (by decide), (callOb_frz (UA.i_180  )), rfl, rfl, (by decide), rfl, rfl, rfl, rfl, (callOb_frz (UA.i_181  )), rfl, trivial⟩) (fun L2 => ?_)
  refine aw_ret ?_
  exact fin_ret none [0] (.bool (false)) [] (.inr rfl) rfl (by kernel_rfl) trivial (fun w' hb => ⟨rfl, hb⟩)

-- (couplant/tune.table).mayMeet$1
set_option maxRecDepth 100000 in
set_option maxHeartbeats 400000 in
theorem UA.i_183 (b1 b2 : Nat) : CallOb Try.prog 147 #[.agg #[aN 20, aN 81], .pointer (some ⟨b1, 0, none⟩), .pointer (some ⟨b2, 0, none⟩)] [.blk (b1) [aN 10, aN 90, aN 30, aN 70] 141 false, .blk (b2) [aN 1] 3 false] (.bool (false)) := by
  intro w hw
  refine calls_aw [some (.agg #[aN 20, aN 81]), aP b1 0, aP b2 0, aU, aU, aU, aU, aU, aU, aU, aU, aU, aU] [.blk (b1) [aN 10, aN 90, aN 30, aN 70] 141 false, .blk (b2) [aN 1] 3 false] Try.func147 rfl (by kernel_rfl) (esOk hw (by simp [Cel.mine])) ?_
  refine aw_sr [⟨.new, [], none, true⟩, ⟨.pure, [], none, true⟩]
    (fun L1 => ⟨[some (.agg #[aN 20, aN 81]), aP b1 0, aP b2 0, aP (L1 0).b 0, aF, aU, aU, aU, aU, aU, aU, aU, aU], [.blk (b1) [aN 10, aN 90, aN 30, aN 70] 141 false, .blk (b2) [aN 1] 3 false, .blk ((L1 0).b) [aN 20, aN 81] 39 true], []⟩)
    (fun L1 => [])
    fol (by kernel_rfl) (fun _ => by kernel_rfl) (fun L1 => trivial) (fun L1 => ?_)
  refine aw_sr [⟨(.read 0), [], none, true⟩, ⟨.pure, [], none, true⟩, ⟨(.read 2), [1], none, true⟩, ⟨(.call [] (.agg #[aN 1600, aN 20])), [0, 1, 2], none, true⟩, ⟨.pure, [], none, true⟩, ⟨(.read 2), [4], none, true⟩, ⟨(.read 1), [], none, true⟩, ⟨(.call [] (.bool (false))), [0, 1, 2, 3, 4, 5, 6], none, true⟩, ⟨.pure, [0, 1, 2, 3, 4, 5, 6, 7], none, true⟩]
    (fun L2 => ⟨[some (.agg #[aN 20, aN 81]), aP b1 0, aP b2 0, aP (L1 0).b 0, aF, some (.agg #[aN 10, aN 90, aN 30, aN 70]), aP (L1 0).b 0, aI 20, some (.agg #[aN 1600, aN 20]), aP (L1 0).b 1, aI 81, aI 1, aF], [.blk (b1) [aN 10, aN 90, aN 30, aN 70] 141 false, .blk (b2) [aN 1] 3 false, .blk ((L1 0).b) [aN 20, aN 81] 39 true], []⟩)
    (fun L2 => [b1 = b1, 0 + 4 ≤ 4, (L1 0).b = (L1 0).b, CallOb Try.prog 97 #[.agg #[aN 10, aN 90, aN 30, aN 70], aN 20] [] (.agg #[aN 1600, aN 20]), (L1 0).b = (L1 0).b, b2 = b2, CallOb Try.prog 148 #[.agg #[aN 1600, aN 20], aN 81, aN 1] [] (.bool (false))])
    fol (by kernel_rfl) (fun _ => by kernel_rfl) (fun L2 => ⟨rfl, (by decide), rfl, (callOb_frz (UA.i_179  )), rfl, rfl, (callOb_frz (UA.i_182  )), trivial⟩) (fun L2 => ?_)
  refine aw_ret ?_
  exact fin_ret none [0] (.bool (false)) [] (.inr rfl) rfl (by kernel_rfl) trivial (fun w' hb => ⟨rfl, hb⟩)

-- slices.IndexFunc[couplant/tune.table,couplant/api.TuneRow]
set_option maxRecDepth 100000 in
set_option maxHeartbeats 400000 in
theorem UA.i_184 (b1 b2 b3 : Nat) : CallOb Try.prog 128 #[.slice (some ⟨b1, 4, none⟩) (1) (2), .func (.func 147) #[] #[.pointer (some ⟨b2, 0, none⟩), .pointer (some ⟨b3, 0, none⟩)]] [.blk (b1) [aN 0, aN 100, aN 10, aN 90, aN 20, aN 81, aN 30, aN 70] 39 false, .blk (b2) [aN 10, aN 90, aN 30, aN 70] 141 false, .blk (b3) [aN 1] 3 false] (aN (-1)) := by
  intro w hw
  refine calls_aw [aS b1 4 1 2, some (.func (.func 147) #[] #[.pointer (some ⟨b2, 0, none⟩), .pointer (some ⟨b3, 0, none⟩)]), aU, aU, aU, aU, aU, aU, aU, aU, aU, aU, aU, aU, aU, aU, aU, aU, aU] [.blk (b1) [aN 0, aN 100, aN 10, aN 90, aN 20, aN 81, aN 30, aN 70] 39 false, .blk (b2) [aN 10, aN 90, aN 30, aN 70] 141 false, .blk (b3) [aN 1] 3 false] Try.func128 rfl (by kernel_rfl) (esOk hw (by simp [Cel.mine])) ?_
  refine aw_sr [⟨.pure, [], none, true⟩]
    (fun L1 => ⟨[aS b1 4 1 2, some (.func (.func 147) #[] #[.pointer (some ⟨b2, 0, none⟩), .pointer (some ⟨b3, 0, none⟩)]), aU, aU, aI 0, aU, aU, aU, aU, aU, aU, aU, aU, aU, aU, aU, aU, aU, aU], [.blk (b1) [aN 0, aN 100, aN 10, aN 90, aN 20, aN 81, aN 30, aN 70] 39 false, .blk (b2) [aN 10, aN 90, aN 30, aN 70] 141 false, .blk (b3) [aN 1] 3 false], []⟩)
    (fun L1 => [])
    fol (by kernel_rfl) (fun _ => by kernel_rfl) (fun L1 => trivial) (fun L1 => ?_)
  refine aw_seq ?_
  refine aw_sr [⟨.pure, [], none, true⟩, ⟨.pure, [0], none, true⟩, ⟨.pure, [], none, true⟩]
    (fun L2 => ⟨[aS b1 4 1 2, some (.func (.func 147) #[] #[.pointer (some ⟨b2, 0, none⟩), .pointer (some ⟨b3, 0, none⟩)]), aU, aU, aI 0, aU, aS b1 4 1 2, aI 1, aI 0, aU, aU, aU, aU, aU, aU, aU, aU, aU, aU], [.blk (b1) [aN 0, aN 100, aN 10, aN 90, aN 20, aN 81, aN 30, aN 70] 39 false, .blk (b2) [aN 10, aN 90, aN 30, aN 70] 141 false, .blk (b3) [aN 1] 3 false], []⟩)
    (fun L2 => [])
    fol (by kernel_rfl) (fun _ => by kernel_rfl) (fun L2 => trivial) (fun L2 => ?_)
  refine aw_block ?_
  refine aw_rounds 2 ?_
  refine aw_round ?_
  refine aw_sr [⟨.pure, [], none, true⟩]
    (fun L3 => ⟨[aS b1 4 1 2, some (.func (.func 147) #[] #[.pointer (some ⟨b2, 0, none⟩), .pointer (some ⟨b3, 0, none⟩)]), aU, aU, aI 0, aU, aS b1 4 1 2, aI 1, aI 0, aT, aU, aU, aU, aU, aU, aU, aU, aU, aU], [.blk (b1) [aN 0, aN 100, aN 10, aN 90, aN 20, aN 81, aN 30, aN 70] 39 false, .blk (b2) [aN 10, aN 90, aN 30, aN 70] 141 false, .blk (b3) [aN 1] 3 false], []⟩)
    (fun L3 => [])
    fol (by kernel_rfl) (fun _ => by kernel_rfl) (fun L3 => trivial) (fun L3 => ?_)
  refine aw_seq ?_
  refine aw_true (true) rfl rfl ?_
  refine aw_skip ?_
  refine nrm_thn ?_
  refine aw_seq ?_
  refine aw_block ?_
  refine aw_sr [⟨.pure, [], none, true⟩, ⟨.pure, [0], none, true⟩]
    (fun L4 => ⟨[aS b1 4 1 2, some (.func (.func 147) #[] #[.pointer (some ⟨b2, 0, none⟩), .pointer (some ⟨b3, 0, none⟩)]), aU, aU, aI 0, aI 0, aS b1 4 1 2, aI 1, aI 0, aT, aI 0, aU, aU, aU, aU, aU, aU, aU, aU], [.blk (b1) [aN 0, aN 100, aN 10, aN 90, aN 20, aN 81, aN 30, aN 70] 39 false, .blk (b2) [aN 10, aN 90, aN 30, aN 70] 141 false, .blk (b3) [aN 1] 3 false], []⟩)
    (fun L4 => [])
    fol (by kernel_rfl) (fun _ => by kernel_rfl) (fun L4 => trivial) (fun L4 => ?_)
  refine aw_sr [⟨.pure, [], none, true⟩, ⟨.pure, [], none, true⟩, ⟨.pure, [], none, true⟩, ⟨.pure, [1, 2], none, true⟩, ⟨(.read 0), [1, 2, 3], none, true⟩, ⟨(.call [1, 2] (.bool (false))), [0, 1, 2, 3, 4], none, true⟩]
    (fun L5 => ⟨[aS b1 4 1 2, some (.func (.func 147) #[] #[.pointer (some ⟨b2, 0, none⟩), .pointer (some ⟨b3, 0, none⟩)]), aU, aU, aI 0, aI 0, aS b1 4 1 2, aI 1, aI 0, aT, aI 0, some (.func (.func 147) #[] #[.pointer (some ⟨b2, 0, none⟩), .pointer (some ⟨b3, 0, none⟩)]), aS b1 4 1 2, aI 0, aP b1 4, some (.agg #[aN 20, aN 81]), aF, aU, aU], [.blk (b1) [aN 0, aN 100, aN 10, aN 90, aN 20, aN 81, aN 30, aN 70] 39 false, .blk (b2) [aN 10, aN 90, aN 30, aN 70] 141 false, .blk (b3) [aN 1] 3 false], []⟩)
    (fun L5 => [b1 = b1, 4 + 2 ≤ 8, CallOb Try.prog 147 #[.agg #[aN 20, aN 81], .pointer (some ⟨b2, 0, none⟩), .pointer (some ⟨b3, 0, none⟩)] [.blk (b2) [aN 10, aN 90, aN 30, aN 70] 141 false, .blk (b3) [aN 1] 3 false] (.bool (false))])
    fol (by kernel_rfl) (fun _ => by kernel_rfl) (fun L5 => ⟨rfl, (by decide), (callOb_frz (UA.i_183 (b2) (b3) )), trivial⟩) (fun L5 => ?_)
  refine aw_false (false) rfl rfl ?_
  refine aw_skip ?_
  refine nrm_inB ?_
  refine nrm_thn ?_
  refine aw_region [⟨.pure, [], none, true⟩, ⟨.pure, [0], none, true⟩]
    (fun L6 => ⟨[aS b1 4 1 2, some (.func (.func 147) #[] #[.pointer (some ⟨b2, 0, none⟩), .pointer (some ⟨b3, 0, none⟩)]), aU, aU, aI 0, aI 0, aS b1 4 1 2, aI 1, aI 1, aT, aI 0, some (.func (.func 147) #[] #[.pointer (some ⟨b2, 0, none⟩), .pointer (some ⟨b3, 0, none⟩)]), aS b1 4 1 2, aI 0, aP b1 4, some (.agg #[aN 20, aN 81]), aF, aU, aI 1], [.blk (b1) [aN 0, aN 100, aN 10, aN 90, aN 20, aN 81, aN 30, aN 70] 39 false, .blk (b2) [aN 10, aN 90, aN 30, aN 70] 141 false, .blk (b3) [aN 1] 3 false], []⟩)
    (fun L6 => [])
    fol (by kernel_rfl) (fun _ => by kernel_rfl) (fun L6 => trivial) (fun L6 => ?_)
  refine nrm_thn ?_
  refine aw_round ?_
  refine aw_sr [⟨.pure, [], none, true⟩]
    (fun L7 => ⟨[aS b1 4 1 2, some (.func (.func 147) #[] #[.pointer (some ⟨b2, 0, none⟩), .pointer (some ⟨b3, 0, none⟩)]), aU, aU, aI 0, aI 0, aS b1 4 1 2, aI 1, aI 1, aF, aI 0, some (.func (.func 147) #[] #[.pointer (some ⟨b2, 0, none⟩), .pointer (some ⟨b3, 0, none⟩)]), aS b1 4 1 2, aI 0, aP b1 4, some (.agg #[aN 20, aN 81]), aF, aU, aI 1], [.blk (b1) [aN 0, aN 100, aN 10, aN 90, aN 20, aN 81, aN 30, aN 70] 39 false, .blk (b2) [aN 10, aN 90, aN 30, aN 70] 141 false, .blk (b3) [aN 1] 3 false], []⟩)
    (fun L7 => [])
    fol (by kernel_rfl) (fun _ => by kernel_rfl) (fun L7 => trivial) (fun L7 => ?_)
  refine aw_seq ?_
  refine aw_false (false) rfl rfl ?_
  refine aw_exit ?_
  refine ex_thn ?_
  refine ex_thn ?_
  refine ex_hit ?_
  refine nrm_thn ?_
  refine aw_sr [⟨.pure, [], none, true⟩]
    (fun L8 => ⟨[aS b1 4 1 2, some (.func (.func 147) #[] #[.pointer (some ⟨b2, 0, none⟩), .pointer (some ⟨b3, 0, none⟩)]), aU, aU, aI (-1), aI 0, aS b1 4 1 2, aI 1, aI 1, aF, aI 0, some (.func (.func 147) #[] #[.pointer (some ⟨b2, 0, none⟩), .pointer (some ⟨b3, 0, none⟩)]), aS b1 4 1 2, aI 0, aP b1 4, some (.agg #[aN 20, aN 81]), aF, aU, aI 1], [.blk (b1) [aN 0, aN 100, aN 10, aN 90, aN 20, aN 81, aN 30, aN 70] 39 false, .blk (b2) [aN 10, aN 90, aN 30, aN 70] 141 false, .blk (b3) [aN 1] 3 false], []⟩)
    (fun L8 => [])
    fol (by kernel_rfl) (fun _ => by kernel_rfl) (fun L8 => trivial) (fun L8 => ?_)
  refine aw_ret ?_
  exact fin_ret none [0] (aN (-1)) [] (.inr rfl) rfl (by kernel_rfl) trivial (fun w' hb => ⟨rfl, hb⟩)

-- slices.ContainsFunc[couplant/tune.table,couplant/api.TuneRow]
set_option maxRecDepth 100000 in
set_option maxHeartbeats 400000 in
theorem UA.i_185 (b1 b2 b3 : Nat) : CallOb Try.prog 146 #[.slice (some ⟨b1, 4, none⟩) (1) (2), .func (.func 147) #[] #[.pointer (some ⟨b2, 0, none⟩), .pointer (some ⟨b3, 0, none⟩)]] [.blk (b1) [aN 0, aN 100, aN 10, aN 90, aN 20, aN 81, aN 30, aN 70] 39 false, .blk (b2) [aN 10, aN 90, aN 30, aN 70] 141 false, .blk (b3) [aN 1] 3 false] (.bool (false)) := by
  intro w hw
  refine calls_aw [aS b1 4 1 2, some (.func (.func 147) #[] #[.pointer (some ⟨b2, 0, none⟩), .pointer (some ⟨b3, 0, none⟩)]), aU, aU, aU, aU, aU, aU, aU] [.blk (b1) [aN 0, aN 100, aN 10, aN 90, aN 20, aN 81, aN 30, aN 70] 39 false, .blk (b2) [aN 10, aN 90, aN 30, aN 70] 141 false, .blk (b3) [aN 1] 3 false] Try.func146 rfl (by kernel_rfl) (esOk hw (by simp [Cel.mine])) ?_
  refine aw_sr [⟨.pure, [], none, true⟩]
    (fun L1 => ⟨[aS b1 4 1 2, some (.func (.func 147) #[] #[.pointer (some ⟨b2, 0, none⟩), .pointer (some ⟨b3, 0, none⟩)]), aU, aU, aF, aU, aU, aU, aU], [.blk (b1) [aN 0, aN 100, aN 10, aN 90, aN 20, aN 81, aN 30, aN 70] 39 false, .blk (b2) [aN 10, aN 90, aN 30, aN 70] 141 false, .blk (b3) [aN 1] 3 false], []⟩)
    (fun L1 => [])
    fol (by kernel_rfl) (fun _ => by kernel_rfl) (fun L1 => trivial) (fun L1 => ?_)
  refine aw_sr [⟨.pure, [], none, true⟩, ⟨.pure, [], none, true⟩, ⟨(.call [0, 1, 2] (aN (-1))), [0, 1], none, true⟩, ⟨.pure, [0, 1, 2], none, true⟩, ⟨.pure, [0, 1, 2, 3], none, true⟩]
    (fun L2 => ⟨[aS b1 4 1 2, some (.func (.func 147) #[] #[.pointer (some ⟨b2, 0, none⟩), .pointer (some ⟨b3, 0, none⟩)]), aU, aU, aF, aS b1 4 1 2, some (.func (.func 147) #[] #[.pointer (some ⟨b2, 0, none⟩), .pointer (some ⟨b3, 0, none⟩)]), aI (-1), aF], [.blk (b1) [aN 0, aN 100, aN 10, aN 90, aN 20, aN 81, aN 30, aN 70] 39 false, .blk (b2) [aN 10, aN 90, aN 30, aN 70] 141 false, .blk (b3) [aN 1] 3 false], []⟩)
    (fun L2 => [CallOb Try.prog 128 #[.slice (some ⟨b1, 4, none⟩) (1) (2), .func (.func 147) #[] #[.pointer (some ⟨b2, 0, none⟩), .pointer (some ⟨b3, 0, none⟩)]] [.blk (b1) [aN 0, aN 100, aN 10, aN 90, aN 20, aN 81, aN 30, aN 70] 39 false, .blk (b2) [aN 10, aN 90, aN 30, aN 70] 141 false, .blk (b3) [aN 1] 3 false] (aN (-1))])
    fol (by kernel_rfl) (fun _ => by kernel_rfl) (fun L2 => ⟨(callOb_frz (UA.i_184 (b1) (b2) (b3) )), trivial⟩) (fun L2 => ?_)
  refine aw_ret ?_
  exact fin_ret none [0] (.bool (false)) [] (.inr rfl) rfl (by kernel_rfl) trivial (fun w' hb => ⟨rfl, hb⟩)

-- (couplant/tune.table).mayMeet
set_option maxRecDepth 100000 in
set_option maxHeartbeats 400000 in
theorem UA.i_186 (b1 : Nat) : CallOb Try.prog 131 #[.slice (some ⟨b1, 0, none⟩) (4) (4), aN 1, aN 3, aN 1] [.blk (b1) [aN 0, aN 100, aN 10, aN 90, aN 20, aN 81, aN 30, aN 70] 39 false] (.bool (true)) := by
  intro w hw
  refine calls_aw [aS b1 0 4 4, aI 1, aI 3, aI 1, aU, aU, aU, aU, aU, aU, aU, aU, aU, aU, aU, aU, aU, aU, aU, aU, aU, aU] [.blk (b1) [aN 0, aN 100, aN 10, aN 90, aN 20, aN 81, aN 30, aN 70] 39 false] Try.func131 rfl (by kernel_rfl) (esOk hw (by simp [Cel.mine])) ?_
  refine aw_sr [⟨.new, [], none, true⟩, ⟨.pure, [], none, true⟩]
    (fun L1 => ⟨[aS b1 0 4 4, aI 1, aI 3, aI 1, aU, aU, aU, aP (L1 0).b 0, aF, aU, aU, aU, aU, aU, aU, aU, aU, aU, aU, aU, aU, aU], [.blk (b1) [aN 0, aN 100, aN 10, aN 90, aN 20, aN 81, aN 30, aN 70] 39 false, .blk ((L1 0).b) [aN 1] 3 true], []⟩)
    (fun L1 => [])
    fol (by kernel_rfl) (fun _ => by kernel_rfl) (fun L1 => trivial) (fun L1 => ?_)
  refine aw_sr [⟨.pure, [], none, true⟩, ⟨.pure, [], none, true⟩, ⟨.pure, [], none, true⟩, ⟨(.call [0] (.agg #[aN 10, aN 90, aN 30, aN 70])), [0, 1, 2], none, true⟩, ⟨.new, [], none, true⟩, ⟨(.write 6), [0, 1, 2, 3, 4], none, true⟩]
    (fun L2 => ⟨[aS b1 0 4 4, aI 1, aI 3, aI 1, aU, aU, aU, aP (L1 0).b 0, aF, aP (L2 4).b 0, aS b1 0 4 4, aI 1, aI 3, some (.agg #[aN 10, aN 90, aN 30, aN 70]), aU, aU, aU, aU, aU, aU, aU, aU], [.blk (b1) [aN 0, aN 100, aN 10, aN 90, aN 20, aN 81, aN 30, aN 70] 39 false, .blk ((L1 0).b) [aN 1] 3 true, .blk ((L2 4).b) [aN 10, aN 90, aN 30, aN 70] 141 true], []⟩)
    (fun L2 => [CallOb Try.prog 130 #[.slice (some ⟨b1, 0, none⟩) (4) (4), aN 1, aN 3] [.blk (b1) [aN 0, aN 100, aN 10, aN 90, aN 20, aN 81, aN 30, aN 70] 39 false] (.agg #[aN 10, aN 90, aN 30, aN 70]), (L2 4).b = (L2 4).b, 0 + 4 ≤ 4, 4 = 4, true = true])
    fol (by kernel_rfl) (fun _ => by kernel_rfl) (fun L2 => ⟨(callOb_frz (UA.i_178 (b1) )), rfl, (by decide), rfl, rfl, trivial⟩) (fun L2 => ?_)
  refine aw_sr [⟨.pure, [], none, true⟩, ⟨.pure, [], none, true⟩, ⟨.pure, [1], none, true⟩, ⟨.pure, [], none, true⟩, ⟨.pure, [0, 1, 2, 3], none, true⟩, ⟨.pure, [], none, true⟩, ⟨(.call [0, 2, 1] (.bool (false))), [0, 1, 2, 3, 4, 5], none, true⟩, ⟨.pure, [0, 1, 2, 3, 4, 5, 6], none, true⟩, ⟨.pure, [0, 1, 2, 3, 4, 5, 6, 7], none, true⟩]
    (fun L3 => ⟨[aS b1 0 4 4, aI 1, aI 3, aI 1, aU, aU, aU, aP (L1 0).b 0, aT, aP (L2 4).b 0, aS b1 0 4 4, aI 1, aI 3, some (.agg #[aN 10, aN 90, aN 30, aN 70]), aS b1 0 4 4, aI 1, aI 2, aI 3, aS b1 4 1 2, some (.func (.func 147) #[] #[.pointer (some ⟨(L2 4).b, 0, none⟩), .pointer (some ⟨(L1 0).b, 0, none⟩)]), aF, aT], [.blk (b1) [aN 0, aN 100, aN 10, aN 90, aN 20, aN 81, aN 30, aN 70] 39 false, .blk ((L1 0).b) [aN 1] 3 true, .blk ((L2 4).b) [aN 10, aN 90, aN 30, aN 70] 141 true], []⟩)
    (fun L3 => [CallOb Try.prog 146 #[.slice (some ⟨b1, 4, none⟩) (1) (2), .func (.func 147) #[] #[.pointer (some ⟨(L2 4).b, 0, none⟩), .pointer (some ⟨(L1 0).b, 0, none⟩)]] [.blk (b1) [aN 0, aN 100, aN 10, aN 90, aN 20, aN 81, aN 30, aN 70] 39 false, .blk ((L2 4).b) [aN 10, aN 90, aN 30, aN 70] 141 true, .blk ((L1 0).b) [aN 1] 3 true] (.bool (false))])
    fol (by kernel_rfl) (fun _ => by kernel_rfl) (fun L3 => ⟨(callOb_frz (UA.i_185 (b1) ((L2 4).b) ((L1 0).b) )), trivial⟩) (fun L3 => ?_)
  refine aw_ret ?_
  exact fin_ret none [0] (.bool (true)) [] (.inr rfl) rfl (by kernel_rfl) trivial (fun w' hb => ⟨rfl, hb⟩)

-- (couplant/tune.table).line
set_option maxRecDepth 100000 in
set_option maxHeartbeats 400000 in
theorem UA.i_187 (b1 : Nat) : CallOb Try.prog 130 #[.slice (some ⟨b1, 0, none⟩) (4) (4), aN 0, aN 3] [.blk (b1) [aN 0, aN 100, aN 10, aN 90, aN 20, aN 81, aN 30, aN 70] 39 false] (.agg #[aN 0, aN 100, aN 30, aN 70]) := by
  intro w hw
  refine calls_aw [aS b1 0 4 4, aI 0, aI 3, aU, aU, aU, aU, aU, aU, aU, aU, aU, aU, aU, aU, aU, aU, aU, aU, aU, aU, aU, aU, aU, aU, aU, aU, aU, aU, aU] [.blk (b1) [aN 0, aN 100, aN 10, aN 90, aN 20, aN 81, aN 30, aN 70] 39 false] Try.func130 rfl (by kernel_rfl) (esOk hw (by simp [Cel.mine])) ?_
  refine aw_sr [⟨.new, [], none, true⟩]
    (fun L1 => ⟨[aS b1 0 4 4, aI 0, aI 3, aU, aU, aU, aP (L1 0).b 0, aU, aU, aU, aU, aU, aU, aU, aU, aU, aU, aU, aU, aU, aU, aU, aU, aU, aU, aU, aU, aU, aU, aU], [.blk (b1) [aN 0, aN 100, aN 10, aN 90, aN 20, aN 81, aN 30, aN 70] 39 false, .blk ((L1 0).b) [aN 0, aN 0, aN 0, aN 0] 141 true], []⟩)
    (fun L1 => [])
    fol (by kernel_rfl) (fun _ => by kernel_rfl) (fun L1 => trivial) (fun L1 => ?_)
  refine aw_sr [⟨.pure, [], none, true⟩, ⟨.pure, [], none, true⟩, ⟨.pure, [0, 1], none, true⟩, ⟨.pure, [0, 1, 2], none, true⟩, ⟨(.read 0), [0, 1, 2, 3], none, true⟩, ⟨.pure, [], none, true⟩, ⟨.pure, [], none, true⟩, ⟨.pure, [5, 6], none, true⟩, ⟨.pure, [5, 6, 7], none, true⟩, ⟨(.read 0), [5, 6, 7, 8], none, true⟩, ⟨.pure, [0, 1, 2, 3, 4, 5, 6, 7, 8, 9], none, true⟩, ⟨.pure, [], none, true⟩, ⟨.pure, [], none, true⟩, ⟨.pure, [11, 12], none, true⟩, ⟨.pure, [11, 12, 13], none, true⟩, ⟨(.read 0), [11, 12, 13, 14], none, true⟩, ⟨.pure, [], none, true⟩, ⟨.pure, [], none, true⟩, ⟨.pure, [16, 17], none, true⟩, ⟨.pure, [16, 17, 18], none, true⟩, ⟨(.read 0), [16, 17, 18, 19], none, true⟩, ⟨.pure, [11, 12, 13, 14, 15, 16, 17, 18, 19, 20], none, true⟩, ⟨.pure, [0, 1, 2, 3, 4, 5, 6, 7, 8, 9, 10, 11, 12, 13, 14, 15, 16, 17, 18, 19, 20, 21], none, true⟩, ⟨(.write 1), [0, 1, 2, 3, 4, 5, 6, 7, 8, 9, 10, 11, 12, 13, 14, 15, 16, 17, 18, 19, 20, 21, 22], none, true⟩]
    (fun L2 => ⟨[aS b1 0 4 4, aI 0, aI 3, aU, aU, aU, aP (L1 0).b 0, aS b1 0 4 4, aI 0, aP b1 0, aP b1 0, aI 0, aS b1 0 4 4, aI 0, aP b1 0, aP b1 1, aI 100, some (.agg #[aN 0, aN 100]), aS b1 0 4 4, aI 3, aP b1 6, aP b1 6, aI 30, aS b1 0 4 4, aI 3, aP b1 6, aP b1 7, aI 70, some (.agg #[aN 30, aN 70]), some (.agg #[aN 0, aN 100, aN 30, aN 70])], [.blk (b1) [aN 0, aN 100, aN 10, aN 90, aN 20, aN 81, aN 30, aN 70] 39 false, .blk ((L1 0).b) [aN 0, aN 100, aN 30, aN 70] 141 true], []⟩)
    (fun L2 => [b1 = b1, b1 = b1, b1 = b1, b1 = b1, (L1 0).b = (L1 0).b, 0 + 4 ≤ 4, 4 = 4, true = true])
    fol (by kernel_rfl) (fun _ => by kernel_rfl) (fun L2 => ⟨rfl, rfl, rfl, rfl, rfl, (by decide), rfl, rfl, trivial⟩) (fun L2 => ?_)
  refine aw_ret ?_
  exact fin_ret none [1] (.agg #[aN 0, aN 100, aN 30, aN 70]) [(L1 0).b = (L1 0).b, 0 + 4 ≤ 4] (.inr rfl) rfl (by kernel_rfl) ⟨rfl, (by decide), trivial⟩ (fun w' hb => ⟨rfl, hb⟩)

-- (couplant/tune.line).heightAt
set_option maxRecDepth 100000 in
set_option maxHeartbeats 400000 in
theorem UA.i_188 : CallOb Try.prog 97 #[.agg #[aN 0, aN 100, aN 30, aN 70], aN 10] [] (.agg #[aN 2700, aN 30]) := by
  intro w hw
  refine calls_aw [some (.agg #[aN 0, aN 100, aN 30, aN 70]), aI 10, aU, aU, aU, aU, aU, aU, aU, aU, aU, aU, aU, aU, aU, aU, aU, aU, aU, aU, aU, aU, aU, aU, aU, aU, aU, aU, aU, aU, aU, aU] [] Try.func97 rfl (by kernel_rfl) (fun e x h => by cases h) ?_
  refine aw_sr [⟨.new, [], none, true⟩, ⟨.new, [], none, true⟩]
    (fun L1 => ⟨[some (.agg #[aN 0, aN 100, aN 30, aN 70]), aI 10, aP (L1 0).b 0, aU, aP (L1 1).b 0, aU, aU, aU, aU, aU, aU, aU, aU, aU, aU, aU, aU, aU, aU, aU, aU, aU, aU, aU, aU, aU, aU, aU, aU, aU, aU, aU], [.blk ((L1 0).b) [aN 0, aN 100, aN 30, aN 70] 141 true, .blk ((L1 1).b) [aN 0, aN 0] 123 true], []⟩)
    (fun L1 => [])
    fol (by kernel_rfl) (fun _ => by kernel_rfl) (fun L1 => trivial) (fun L1 => ?_)
  refine aw_sr [⟨.pure, [], none, true⟩, ⟨.pure, [0], none, true⟩, ⟨(.read 0), [0, 1], none, true⟩, ⟨.pure, [], none, true⟩, ⟨.pure, [3], none, true⟩, ⟨(.read 0), [3, 4], none, true⟩, ⟨.pure, [], none, true⟩, ⟨.pure, [3, 4, 5, 6], none, true⟩, ⟨.pure, [0, 1, 2, 3, 4, 5, 6, 7], none, true⟩, ⟨.pure, [], none, true⟩, ⟨.pure, [9], none, true⟩, ⟨(.read 0), [9, 10], none, true⟩, ⟨.pure, [], none, true⟩, ⟨.pure, [], none, true⟩, ⟨.pure, [13], none, true⟩, ⟨(.read 0), [13, 14], none, true⟩, ⟨.pure, [12, 13, 14, 15], none, true⟩, ⟨.pure, [9, 10, 11, 12, 13, 14, 15, 16], none, true⟩, ⟨.pure, [0, 1, 2, 3, 4, 5, 6, 7, 8, 9, 10, 11, 12, 13, 14, 15, 16, 17], none, true⟩, ⟨.pure, [], none, true⟩, ⟨.pure, [19], none, true⟩, ⟨(.read 0), [19, 20], none, true⟩, ⟨.pure, [], none, true⟩, ⟨.pure, [22], none, true⟩, ⟨(.read 0), [22, 23], none, true⟩, ⟨.pure, [19, 20, 21, 22, 23, 24], none, true⟩, ⟨.pure, [0, 1, 2, 3, 4, 5, 6, 7, 8, 9, 10, 11, 12, 13, 14, 15, 16, 17, 18, 19, 20, 21, 22, 23, 24, 25], none, true⟩, ⟨(.write 1), [0, 1, 2, 3, 4, 5, 6, 7, 8, 9, 10, 11, 12, 13, 14, 15, 16, 17, 18, 19, 20, 21, 22, 23, 24, 25, 26], none, true⟩]
    (fun L2 => ⟨[some (.agg #[aN 0, aN 100, aN 30, aN 70]), aI 10, aP (L1 0).b 0, aU, aP (L1 1).b 0, aP (L1 0).b 0, aP (L1 0).b 1, aI 100, aP (L1 0).b 2, aP (L1 0).b 2, aI 30, aI 10, aI 20, aI 2000, aP (L1 0).b 2, aP (L1 0).b 3, aI 70, aI 10, aP (L1 0).b 0, aP (L1 0).b 0, aI 0, aI 10, aI 700, aI 2700, aP (L1 0).b 2, aP (L1 0).b 2, aI 30, aP (L1 0).b 0, aP (L1 0).b 0, aI 0, aI 30, some (.agg #[aN 2700, aN 30])], [.blk ((L1 0).b) [aN 0, aN 100, aN 30, aN 70] 141 true, .blk ((L1 1).b) [aN 2700, aN 30] 123 true], []⟩)
    (fun L2 => [(L1 0).b = (L1 0).b, (L1 0).b = (L1 0).b, (L1 0).b = (L1 0).b, (L1 0).b = (L1 0).b, (L1 0).b = (L1 0).b, (L1 0).b = (L1 0).b, (L1 1).b = (L1 1).b, 0 + 2 ≤ 2, 2 = 2, true = true])
    fol (by kernel_rfl) (fun _ => by kernel_rfl) (fun L2 => ⟨rfl, rfl, rfl, rfl, rfl, rfl, rfl, (by decide), rfl, rfl, trivial⟩) (fun L2 => ?_)
  refine aw_ret ?_
  exact fin_ret none [1] (.agg #[aN 2700, aN 30]) [(L1 1).b = (L1 1).b, 0 + 2 ≤ 2] (.inr rfl) rfl (by kernel_rfl) ⟨rfl, (by decide), trivial⟩ (fun w' hb => ⟨rfl, hb⟩)

-- (couplant/tune.quotient).isBelow
set_option maxRecDepth 100000 in
set_option maxHeartbeats 400000 in
theorem UA.i_189 : CallOb Try.prog 103 #[.agg #[aN 2700, aN 30], aN 89] [] (.bool (false)) := by
  intro w hw
  refine calls_aw [some (.agg #[aN 2700, aN 30]), aI 89, aU, aU, aU, aU, aU, aU, aU, aU, aU, aU] [] Try.func103 rfl (by kernel_rfl) (fun e x h => by cases h) ?_
  refine aw_sr [⟨.new, [], none, true⟩, ⟨.pure, [], none, true⟩]
    (fun L1 => ⟨[some (.agg #[aN 2700, aN 30]), aI 89, aP (L1 0).b 0, aU, aF, aU, aU, aU, aU, aU, aU, aU], [.blk ((L1 0).b) [aN 2700, aN 30] 123 true], []⟩)
    (fun L1 => [])
    fol (by kernel_rfl) (fun _ => by kernel_rfl) (fun L1 => trivial) (fun L1 => ?_)
  refine aw_sr [⟨.pure, [], none, true⟩, ⟨(.read 0), [0], none, true⟩, ⟨.pure, [], none, true⟩, ⟨.pure, [], none, true⟩, ⟨(.read 0), [3], none, true⟩, ⟨.pure, [2, 3, 4], none, true⟩, ⟨.pure, [0, 1, 2, 3, 4, 5], none, true⟩, ⟨.pure, [0, 1, 2, 3, 4, 5, 6], none, true⟩]
    (fun L2 => ⟨[some (.agg #[aN 2700, aN 30]), aI 89, aP (L1 0).b 0, aU, aF, aP (L1 0).b 0, aI 2700, aI 89, aP (L1 0).b 1, aI 30, aI 2670, aF], [.blk ((L1 0).b) [aN 2700, aN 30] 123 true], []⟩)
    (fun L2 => [(L1 0).b = (L1 0).b, (L1 0).b = (L1 0).b])
    fol (by kernel_rfl) (fun _ => by kernel_rfl) (fun L2 => ⟨rfl, rfl, trivial⟩) (fun L2 => ?_)
  refine aw_ret ?_
  exact fin_ret none [0] (.bool (false)) [] (.inr rfl) rfl (by kernel_rfl) trivial (fun w' hb => ⟨rfl, hb⟩)

-- (couplant/tune.quotient).isAbove
set_option maxRecDepth 100000 in
set_option maxHeartbeats 400000 in
theorem UA.i_190 : CallOb Try.prog 104 #[.agg #[aN 2700, aN 30], aN 91] [] (.bool (false)) := by
  intro w hw
  refine calls_aw [some (.agg #[aN 2700, aN 30]), aI 91, aU, aU, aU, aU, aU, aU, aU, aU, aU, aU] [] Try.func104 rfl (by kernel_rfl) (fun e x h => by cases h) ?_
  refine aw_sr [⟨.new, [], none, true⟩, ⟨.pure, [], none, true⟩]
    (fun L1 => ⟨[some (.agg #[aN 2700, aN 30]), aI 91, aP (L1 0).b 0, aU, aF, aU, aU, aU, aU, aU, aU, aU], [.blk ((L1 0).b) [aN 2700, aN 30] 123 true], []⟩)
    (fun L1 => [])
    fol (by kernel_rfl) (fun _ => by kernel_rfl) (fun L1 => trivial) (fun L1 => ?_)
  refine aw_sr [⟨.pure, [], none, true⟩, ⟨(.read 0), [0], none, true⟩, ⟨.pure, [], none, true⟩, ⟨.pure, [], none, true⟩, ⟨(.read 0), [3], none, true⟩, ⟨.pure, [2, 3, 4], none, true⟩, ⟨.pure, [0, 1, 2, 3, 4, 5], none, true⟩, ⟨.pure, [0, 1, 2, 3, 4, 5, 6], none, true⟩]
    (fun L2 => ⟨[some (.agg #[aN 2700, aN 30]), aI 91, aP (L1 0).b 0, aU, aF, aP (L1 0).b 0, aI 2700, aI 91, aP (L1 0).b 1, aI 30, aI 2730, aF], [.blk ((L1 0).b) [aN 2700, aN 30] 123 true], []⟩)
    (fun L2 => [(L1 0).b = (L1 0).b, (L1 0).b = (L1 0).b])
    fol (by kernel_rfl) (fun _ => by kernel_rfl) (fun L2 => ⟨rfl, rfl, trivial⟩) (fun L2 => ?_)
  refine aw_ret ?_
  exact fin_ret none [0] (.bool (false)) [] (.inr rfl) rfl (by kernel_rfl) trivial (fun w' hb => ⟨rfl, hb⟩)

-- (couplant/tune.quotient).isOff
set_option maxRecDepth 100000 in
set_option maxHeartbeats 400000 in
theorem UA.i_191 : CallOb Try.prog 148 #[.agg #[aN 2700, aN 30], aN 90, aN 1] [] (.bool (false)) := by
  intro w hw
  refine calls_aw [some (.agg #[aN 2700, aN 30]), aI 90, aI 1, aU, aU, aU, aU, aU, aU, aU, aU, aU, aU, aU, aU, aU, aU, aU, aU] [] Try.func148 rfl (by kernel_rfl) (fun e x h => by cases h) ?_
  refine aw_sr [⟨.new, [], none, true⟩, ⟨.pure, [], none, true⟩]
    (fun L1 => ⟨[some (.agg #[aN 2700, aN 30]), aI 90, aI 1, aP (L1 0).b 0, aU, aU, aF, aU, aU, aU, aU, aU, aU, aU, aU, aU, aU, aU, aU], [.blk ((L1 0).b) [aN 2700, aN 30] 123 true], []⟩)
    (fun L1 => [])
    fol (by kernel_rfl) (fun _ => by kernel_rfl) (fun L1 => trivial) (fun L1 => ?_)
  refine aw_sr [⟨(.read 0), [], none, true⟩, ⟨.pure, [], none, true⟩, ⟨.pure, [], none, true⟩, ⟨.pure, [1, 2], none, true⟩, ⟨(.call [] (.bool (false))), [0, 1, 2, 3], none, true⟩, ⟨.pure, [0, 1, 2, 3, 4], none, true⟩, ⟨(.read 0), [0, 1, 2, 3, 4, 5], none, true⟩, ⟨.pure, [0, 1, 2, 3, 4, 5], none, true⟩, ⟨.pure, [0, 1, 2, 3, 4, 5], none, true⟩, ⟨.pure, [0, 1, 2, 3, 4, 5, 7, 8], none, true⟩, ⟨(.call [] (.bool (false))), [0, 1, 2, 3, 4, 5, 6, 7, 8, 9], none, true⟩, ⟨.pure, [0, 1, 2, 3, 4, 5, 6, 7, 8, 9, 10], aF, true⟩, ⟨.pure, [0, 1, 2, 3, 4, 5, 6, 7, 8, 9, 10, 11], none, true⟩]
    (fun L2 => ⟨[some (.agg #[aN 2700, aN 30]), aI 90, aI 1, aP (L1 0).b 0, aU, aU, aF, some (.agg #[aN 2700, aN 30]), aI 90, aI 1, aI 89, aF, aF, some (.agg #[aN 2700, aN 30]), aI 90, aI 1, aI 91, aF, aF], [.blk ((L1 0).b) [aN 2700, aN 30] 123 true], []⟩)
    (fun L2 => [(L1 0).b = (L1 0).b, 0 + 2 ≤ 2, CallOb Try.prog 103 #[.agg #[aN 2700, aN 30], aN 89] [] (.bool (false)), (false) = false, (L1 0).b = (L1 0).b, 0 + 2 ≤ 2, (false) = false, (false) = false, (false) = false, (false) = false, CallOb Try.prog 104 #[.agg #[aN 2700, aN 30], aN 91] [] (.bool (false)), (.bool (false) : Value) = .bool (false)])
    fol (by kernel_rfl) (fun _ => by kernel_rfl) (fun L2 => ⟨rfl, (by decide), (callOb_frz (UA.i_189  )), rfl, rfl, (by decide), rfl, rfl, rfl, rfl, (callOb_frz (UA.i_190  )), rfl, trivial⟩) (fun L2 => ?_)
  refine aw_ret ?_
  exact fin_ret none [0] (.bool (false)) [] (.inr rfl) rfl (by kernel_rfl) trivial (fun w' hb => ⟨rfl, hb⟩)

-- (couplant/tune.table).mayMeet$1
set_option maxRecDepth 100000 in
set_option maxHeartbeats 400000 in
theorem UA.i_192 (b1 b2 : Nat) : CallOb Try.prog 147 #[.agg #[aN 10, aN 90], .pointer (some ⟨b1, 0, none⟩), .pointer (some ⟨b2, 0, none⟩)] [.blk (b1) [aN 0, aN 100, aN 30, aN 70] 141 false, .blk (b2) [aN 1] 3 false] (.bool (false)) := by
  intro w hw
  refine calls_aw [some (.agg #[aN 10, aN 90]), aP b1 0, aP b2 0, aU, aU, aU, aU, aU, aU, aU, aU, aU, aU] [.blk (b1) [aN 0, aN 100, aN 30, aN 70] 141 false, .blk (b2) [aN 1] 3 false] Try.func147 rfl (by kernel_rfl) (esOk hw (by simp [Cel.mine])) ?_
  refine aw_sr [⟨.new, [], none, true⟩, ⟨.pure, [], none, true⟩]
    (fun L1 => ⟨[some (.agg #[aN 10, aN 90]), aP b1 0, aP b2 0, aP (L1 0).b 0, aF, aU, aU, aU, aU, aU, aU, aU, aU], [.blk (b1) [aN 0, aN 100, aN 30, aN 70] 141 false, .blk (b2) [aN 1] 3 false, .blk ((L1 0).b) [aN 10, aN 90] 39 true], []⟩)
    (fun L1 => [])
    fol (by kernel_rfl) (fun _ => by kernel_rfl) (fun L1 => trivial) (fun L1 => ?_)
  refine aw_sr [⟨(.read 0), [], none, true⟩, ⟨.pure, [], none, true⟩, ⟨(.read 2), [1], none, true⟩, ⟨(.call [] (.agg #[aN 2700, aN 30])), [0, 1, 2], none, true⟩, ⟨.pure, [], none, true⟩, ⟨(.read 2), [4], none, true⟩, ⟨(.read 1), [], none, true⟩, ⟨(.call [] (.bool (false))), [0, 1, 2, 3, 4, 5, 6], none, true⟩, ⟨.pure, [0, 1, 2, 3, 4, 5, 6, 7], none, true⟩]
    (fun L2 => ⟨[some (.agg #[aN 10, aN 90]), aP b1 0, aP b2 0, aP (L1 0).b 0, aF, some (.agg #[aN 0, aN 100, aN 30, aN 70]), aP (L1 0).b 0, aI 10, some (.agg #[aN 2700, aN 30]), aP (L1 0).b 1, aI 90, aI 1, aF], [.blk (b1) [aN 0, aN 100, aN 30, aN 70] 141 false, .blk (b2) [aN 1] 3 false, .blk ((L1 0).b) [aN 10, aN 90] 39 true], []⟩)
    (fun L2 => [b1 = b1, 0 + 4 ≤ 4, (L1 0).b = (L1 0).b, CallOb Try.prog 97 #[.agg #[aN 0, aN 100, aN 30, aN 70], aN 10] [] (.agg #[aN 2700, aN 30]), (L1 0).b = (L1 0).b, b2 = b2, CallOb Try.prog 148 #[.agg #[aN 2700, aN 30], aN 90, aN 1] [] (.bool (false))])
    fol (by kernel_rfl) (fun _ => by kernel_rfl) (fun L2 => ⟨rfl, (by decide), rfl, (callOb_frz (UA.i_188  )), rfl, rfl, (callOb_frz (UA.i_191  )), trivial⟩) (fun L2 => ?_)
  refine aw_ret ?_
  exact fin_ret none [0] (.bool (false)) [] (.inr rfl) rfl (by kernel_rfl) trivial (fun w' hb => ⟨rfl, hb⟩)

-- (couplant/tune.line).heightAt
set_option maxRecDepth 100000 in
set_option maxHeartbeats 400000 in
theorem UA.i_193 : CallOb Try.prog 97 #[.agg #[aN 0, aN 100, aN 30, aN 70], aN 20] [] (.agg #[aN 2400, aN 30]) := by
  intro w hw
  refine calls_aw [some (.agg #[aN 0, aN 100, aN 30, aN 70]), aI 20, aU, aU, aU, aU, aU, aU, aU, aU, aU, aU, aU, aU, aU, aU, aU, aU, aU, aU, aU, aU, aU, aU, aU, aU, aU, aU, aU, aU, aU, aU] [] Try.func97 rfl (by kernel_rfl) (fun e x h => by cases h) ?_
  refine aw_sr [⟨.new, [], none, true⟩, ⟨.new, [], none, true⟩]
    (fun L1 => ⟨[some (.agg #[aN 0, aN 100, aN 30, aN 70]), aI 20, aP (L1 0).b 0, aU, aP (L1 1).b 0, aU, aU, aU, aU, aU, aU, aU, aU, aU, aU, aU, aU, aU, aU, aU, aU, aU, aU, aU, aU, aU, aU, aU, aU, aU, aU, aU], [.blk ((L1 0).b) [aN 0, aN 100, aN 30, aN 70] 141 true, .blk ((L1 1).b) [aN 0, aN 0] 123 true], []⟩)
    (fun L1 => [])
    fol (by kernel_rfl) (fun _ => by kernel_rfl) (fun L1 => trivial) (fun L1 => ?_)
  refine aw_sr [⟨.pure, [], none, true⟩, ⟨.pure, [0], none, true⟩, ⟨(.read 0), [0, 1], none, true⟩, ⟨.pure, [], none, true⟩, ⟨.pure, [3], none, true⟩, ⟨(.read 0), [3, 4], none, true⟩, ⟨.pure, [], none, true⟩, ⟨.pure, [3, 4, 5, 6], none, true⟩, ⟨.pure, [0, 1, 2, 3, 4, 5, 6, 7], none, true⟩, ⟨.pure, [], none, true⟩, ⟨.pure, [9], none, true⟩, ⟨(.read 0), [9, 10], none, true⟩, ⟨.pure, [], none, true⟩, ⟨.pure, [], none, true⟩, ⟨.pure, [13], none, true⟩, ⟨(.read 0), [13, 14], none, true⟩, ⟨.pure, [12, 13, 14, 15], none, true⟩, ⟨.pure, [9, 10, 11, 12, 13, 14, 15, 16], none, true⟩, ⟨.pure, [0, 1, 2, 3, 4, 5, 6, 7, 8, 9, 10, 11, 12, 13, 14, 15, 16, 17], none, true⟩, ⟨.pure, [], none, true⟩, ⟨.pure, [19], none, true⟩, ⟨(.read 0), [19, 20], none, true⟩, ⟨.pure, [], none, true⟩, ⟨.pure, [22], none, true⟩, ⟨(.read 0), [22, 23], none, true⟩, ⟨.pure, [19, 20, 21, 22, 23, 24], none, true⟩, ⟨.pure, [0, 1, 2, 3, 4, 5, 6, 7, 8, 9, 10, 11, 12, 13, 14, 15, 16, 17, 18, 19, 20, 21, 22, 23, 24, 25], none, true⟩, ⟨(.write 1), [0, 1, 2, 3, 4, 5, 6, 7, 8, 9, 10, 11, 12, 13, 14, 15, 16, 17, 18, 19, 20, 21, 22, 23, 24, 25, 26], none, true⟩]
    (fun L2 => ⟨[some (.agg #[aN 0, aN 100, aN 30, aN 70]), aI 20, aP (L1 0).b 0, aU, aP (L1 1).b 0, aP (L1 0).b 0, aP (L1 0).b 1, aI 100, aP (L1 0).b 2, aP (L1 0).b 2, aI 30, aI 20, aI 10, aI 1000, aP (L1 0).b 2, aP (L1 0).b 3, aI 70, aI 20, aP (L1 0).b 0, aP (L1 0).b 0, aI 0, aI 20, aI 1400, aI 2400, aP (L1 0).b 2, aP (L1 0).b 2, aI 30, aP (L1 0).b 0, aP (L1 0).b 0, aI 0, aI 30, some (.agg #[aN 2400, aN 30])], [.blk ((L1 0).b) [aN 0, aN 100, aN 30, aN 70] 141 true, .blk ((L1 1).b) [aN 2400, aN 30] 123 true], []⟩)
    (fun L2 => [(L1 0).b = (L1 0).b, (L1 0).b = (L1 0).b, (L1 0).b = (L1 0).b, (L1 0).b = (L1 0).b, (L1 0).b = (L1 0).b, (L1 0).b = (L1 0).b, (L1 1).b = (L1 1).b, 0 + 2 ≤ 2, 2 = 2, true = true])
    fol (by kernel_rfl) (fun _ => by kernel_rfl) (fun L2 => ⟨rfl, rfl, rfl, rfl, rfl, rfl, rfl, (by decide), rfl, rfl, trivial⟩) (fun L2 => ?_)
  refine aw_ret ?_
  exact fin_ret none [1] (.agg #[aN 2400, aN 30]) [(L1 1).b = (L1 1).b, 0 + 2 ≤ 2] (.inr rfl) rfl (by kernel_rfl) ⟨rfl, (by decide), trivial⟩ (fun w' hb => ⟨rfl, hb⟩)

-- (couplant/tune.quotient).isBelow
set_option maxRecDepth 100000 in
set_option maxHeartbeats 400000 in
theorem UA.i_194 : CallOb Try.prog 103 #[.agg #[aN 2400, aN 30], aN 80] [] (.bool (false)) := by
  intro w hw
  refine calls_aw [some (.agg #[aN 2400, aN 30]), aI 80, aU, aU, aU, aU, aU, aU, aU, aU, aU, aU] [] Try.func103 rfl (by kernel_rfl) (fun e x h => by cases h) ?_
  refine aw_sr [⟨.new, [], none, true⟩, ⟨.pure, [], none, true⟩]
    (fun L1 => ⟨[some (.agg #[aN 2400, aN 30]), aI 80, aP (L1 0).b 0, aU, aF, aU, aU, aU, aU, aU, aU, aU], [.blk ((L1 0).b) [aN 2400, aN 30] 123 true], []⟩)
    (fun L1 => [])
    fol (by kernel_rfl) (fun _ => by kernel_rfl) (fun L1 => trivial) (fun L1 => ?_)
  refine aw_sr [⟨.pure, [], none, true⟩, ⟨(.read 0), [0], none, true⟩, ⟨.pure, [], none, true⟩, ⟨.pure, [], none, true⟩, ⟨(.read 0), [3], none, true⟩, ⟨.pure, [2, 3, 4], none, true⟩, ⟨.pure, [0, 1, 2, 3, 4, 5], none, true⟩, ⟨.pure, [0, 1, 2, 3, 4, 5, 6], none, true⟩]
    (fun L2 => ⟨[some (.agg #[aN 2400, aN 30]), aI 80, aP (L1 0).b 0, aU, aF, aP (L1 0).b 0, aI 2400, aI 80, aP (L1 0).b 1, aI 30, aI 2400, aF], [.blk ((L1 0).b) [aN 2400, aN 30] 123 true], []⟩)
    (fun L2 => [(L1 0).b = (L1 0).b, (L1 0).b = (L1 0).b])
    fol (by kernel_rfl) (fun _ => by kernel_rfl) (fun L2 => ⟨rfl, rfl, trivial⟩) (fun L2 => ?_)
  refine aw_ret ?_
  exact fin_ret none [0] (.bool (false)) [] (.inr rfl) rfl (by kernel_rfl) trivial (fun w' hb => ⟨rfl, hb⟩)

-- (couplant/tune.quotient).isAbove
set_option maxRecDepth 100000 in
set_option maxHeartbeats 400000 in
theorem UA.i_195 : CallOb Try.prog 104 #[.agg #[aN 2400, aN 30], aN 82] [] (.bool (false)) := by
  intro w hw
  refine calls_aw [some (.agg #[aN 2400, aN 30]), aI 82, aU, aU, aU, aU, aU, aU, aU, aU, aU, aU] [] Try.func104 rfl (by kernel_rfl) (fun e x h => by cases h) ?_
  refine aw_sr [⟨.new, [], none, true⟩, ⟨.pure, [], none, true⟩]
    (fun L1 => ⟨[some (.agg #[aN 2400, aN 30]), aI 82, aP (L1 0).b 0, aU, aF, aU, aU, aU, aU, aU, aU, aU], [.blk ((L1 0).b) [aN 2400, aN 30] 123 true], []⟩)
    (fun L1 => [])
    fol (by kernel_rfl) (fun _ => by kernel_rfl) (fun L1 => trivial) (fun L1 => ?_)
  refine aw_sr [⟨.pure, [], none, true⟩, ⟨(.read 0), [0], none, true⟩, ⟨.pure, [], none, true⟩, ⟨.pure, [], none, true⟩, ⟨(.read 0), [3], none, true⟩, ⟨.pure, [2, 3, 4], none, true⟩, ⟨.pure, [0, 1, 2, 3, 4, 5], none, true⟩, ⟨.pure, [0, 1, 2, 3, 4, 5, 6], none, true⟩]
    (fun L2 => ⟨[some (.agg #[aN 2400, aN 30]), aI 82, aP (L1 0).b 0, aU, aF, aP (L1 0).b 0, aI 2400, aI 82, aP (L1 0).b 1, aI 30, aI 2460, aF], [.blk ((L1 0).b) [aN 2400, aN 30] 123 true], []⟩)
    (fun L2 => [(L1 0).b = (L1 0).b, (L1 0).b = (L1 0).b])
    fol (by kernel_rfl) (fun _ => by kernel_rfl) (fun L2 => ⟨rfl, rfl, trivial⟩) (fun L2 => ?_)
  refine aw_ret ?_
  exact fin_ret none [0] (.bool (false)) [] (.inr rfl) rfl (by kernel_rfl) trivial (fun w' hb => ⟨rfl, hb⟩)

-- (couplant/tune.quotient).isOff
set_option maxRecDepth 100000 in
set_option maxHeartbeats 400000 in
theorem UA.i_196 : CallOb Try.prog 148 #[.agg #[aN 2400, aN 30], aN 81, aN 1] [] (.bool (false)) := by
  intro w hw
  refine calls_aw [some (.agg #[aN 2400, aN 30]), aI 81, aI 1, aU, aU, aU, aU, aU, aU, aU, aU, aU, aU, aU, aU, aU, aU, aU, aU] [] Try.func148 rfl (by kernel_rfl) (fun e x h => by cases h) ?_
  refine aw_sr [⟨.new, [], none, true⟩, ⟨.pure, [], none, true⟩]
    (fun L1 => ⟨[some (.agg #[aN 2400, aN 30]), aI 81, aI 1, aP (L1 0).b 0, aU, aU, aF, aU, aU, aU, aU, aU, aU, aU, aU, aU, aU, aU, aU], [.blk ((L1 0).b) [aN 2400, aN 30] 123 true], []⟩)
    (fun L1 => [])
    fol (by kernel_rfl) (fun _ => by kernel_rfl) (fun L1 => trivial) (fun L1 => ?_)
  refine aw_sr [⟨(.read 0), [], none, true⟩, ⟨.pure, [], none, true⟩, ⟨.pure, [], none, true⟩, ⟨.pure, [1, 2], none, true⟩, ⟨(.call [] (.bool (false))), [0, 1, 2, 3], none, true⟩, ⟨.pure, [0, 1, 2, 3, 4], none, true⟩, ⟨(.read 0), [0, 1, 2, 3, 4, 5], none, true⟩, ⟨.pure, [0, 1, 2, 3, 4, 5], none, true⟩, ⟨.pure, [0, 1, 2, 3, 4, 5], none, true⟩, ⟨.pure, [0, 1, 2, 3, 4, 5, 7, 8], none, true⟩, ⟨(.call [] (.bool (false))), [0, 1, 2, 3, 4, 5, 6, 7, 8, 9], none, true⟩, ⟨.pure, [0, 1, 2, 3, 4, 5, 6, 7, 8, 9, 10], aF, true⟩, ⟨.pure, [0, 1, 2, 3, 4, 5, 6, 7, 8, 9, 10, 11], none, true⟩]
    (fun L2 => ⟨[some (.agg #[aN 2400, aN 30]), aI 81, aI 1, aP (L1 0).b 0, aU, aU, aF, some (.agg #[aN 2400, aN 30]), aI 81, aI 1, aI 80, aF, aF, some (.agg #[aN 2400, aN 30]), aI 81, aI 1, aI 82, aF, aF], [.blk ((L1 0).b) [aN 2400, aN 30] 123 true], []⟩)
    (fun L2 => [(L1 0).b = (L1 0).b, 0 + 2 ≤ 2, CallOb Try.prog 103 #[.agg #[aN 2400, aN 30], aN 80] [] (.bool (false)), (false) = false, (L1 0).b = (L1 0).b, 0 + 2 ≤ 2, (false) = false, (false) = false, (false) = false, (false) = false, CallOb Try.prog 104 #[.agg #[aN 2400, aN 30], aN 82] [] (.bool (false)), (.bool (false) : Value) = .bool (false)])
    fol (by kernel_rfl) (fun _ => by kernel_rfl) (fun L2 => ⟨rfl, (by decide), (callOb_frz (UA.i_194  )), rfl, rfl, (by decide), rfl, rfl, rfl, rfl, (callOb_frz (UA.i_195  )), rfl, trivial⟩) (fun L2 => ?_)
  refine aw_ret ?_
  exact fin_ret none [0] (.bool (false)) [] (.inr rfl) rfl (by kernel_rfl) trivial (fun w' hb => ⟨rfl, hb⟩)

-- (couplant/tune.table).mayMeet$1
set_option maxRecDepth 100000 in
set_option maxHeartbeats 400000 in
theorem UA.i_197 (b1 b2 : Nat) : CallOb Try.prog 147 #[.agg #[aN 20, aN 81], .pointer (some ⟨b1, 0, none⟩), .pointer (some ⟨b2, 0, none⟩)] [.blk (b1) [aN 0, aN 100, aN 30, aN 70] 141 false, .blk (b2) [aN 1] 3 false] (.bool (false)) := by
  intro w hw
  refine calls_aw [some (.agg #[aN 20, aN 81]), aP b1 0, aP b2 0, aU, aU, aU, aU, aU, aU, aU, aU, aU, aU] [.blk (b1) [aN 0, aN 100, aN 30, aN 70] 141 false, .blk (b2) [aN 1] 3 false] Try.func147 rfl (by kernel_rfl) (esOk hw (by simp [Cel.mine])) ?_
  refine aw_sr [⟨.new, [], none, true⟩, ⟨.pure, [], none, true⟩]
    (fun L1 => ⟨[some (.agg #[aN 20, aN 81]), aP b1 0, aP b2 0, aP (L1 0).b 0, aF, aU, aU, aU, aU, aU, aU, aU, aU], [.blk (b1) [aN 0, aN 100, aN 30, aN 70] 141 false, .blk (b2) [aN 1] 3 false, .blk ((L1 0).b) [aN 20, aN 81] 39 true], []⟩)
    (fun L1 => [])
    fol (by kernel_rfl) (fun _ => by kernel_rfl) (fun L1 => trivial) (fun L1 => ?_)
  refine aw_sr [⟨(.read 0), [], none, true⟩, ⟨.pure, [], none, true⟩, ⟨(.read 2), [1], none, true⟩, ⟨(.call [] (.agg #[aN 2400, aN 30])), [0, 1, 2], none, true⟩, ⟨.pure, [], none, true⟩, ⟨(.read 2), [4], none, true⟩, ⟨(.read 1), [], none, true⟩, ⟨(.call [] (.bool (false))), [0, 1, 2, 3, 4, 5, 6], none, true⟩, ⟨.pure, [0, 1, 2, 3, 4, 5, 6, 7], none, true⟩]
    (fun L2 => ⟨[some (.agg #[aN 20, aN 81]), aP b1 0, aP b2 0, aP (L1 0).b 0, aF, some (.agg #[aN 0, aN 100, aN 30, aN 70]), aP (L1 0).b 0, aI 20, some (.agg #[aN 2400, aN 30]), aP (L1 0).b 1, aI 81, aI 1, aF], [.blk (b1) [aN 0, aN 100, aN 30, aN 70] 141 false, .blk (b2) [aN 1] 3 false, .blk ((L1 0).b) [aN 20, aN 81] 39 true], []⟩)
    (fun L2 => [b1 = b1, 0 + 4 ≤ 4, (L1 0).b = (L1 0).b, CallOb Try.prog 97 #[.agg #[aN 0, aN 100, aN 30, aN 70], aN 20] [] (.agg #[aN 2400, aN 30]), (L1 0).b = (L1 0).b, b2 = b2, CallOb Try.prog 148 #[.agg #[aN 2400, aN 30], aN 81, aN 1] [] (.bool (false))])
    fol (by kernel_rfl) (fun _ => by kernel_rfl) (fun L2 => ⟨rfl, (by decide), rfl, (callOb_frz (UA.i_193  )), rfl, rfl, (callOb_frz (UA.i_196  )), trivial⟩) (fun L2 => ?_)
  refine aw_ret ?_
  exact fin_ret none [0] (.bool (false)) [] (.inr rfl) rfl (by kernel_rfl) trivial (fun w' hb => ⟨rfl, hb⟩)

-- slices.IndexFunc[couplant/tune.table,couplant/api.TuneRow]
set_option maxRecDepth 100000 in
set_option maxHeartbeats 400000 in
theorem UA.i_198 (b1 b2 b3 : Nat) : CallOb Try.prog 128 #[.slice (some ⟨b1, 2, none⟩) (2) (3), .func (.func 147) #[] #[.pointer (some ⟨b2, 0, none⟩), .pointer (some ⟨b3, 0, none⟩)]] [.blk (b1) [aN 0, aN 100, aN 10, aN 90, aN 20, aN 81, aN 30, aN 70] 39 false, .blk (b2) [aN 0, aN 100, aN 30, aN 70] 141 false, .blk (b3) [aN 1] 3 false] (aN (-1)) := by
  intro w hw
  refine calls_aw [aS b1 2 2 3, some (.func (.func 147) #[] #[.pointer (some ⟨b2, 0, none⟩), .pointer (some ⟨b3, 0, none⟩)]), aU, aU, aU, aU, aU, aU, aU, aU, aU, aU, aU, aU, aU, aU, aU, aU, aU] [.blk (b1) [aN 0, aN 100, aN 10, aN 90, aN 20, aN 81, aN 30, aN 70] 39 false, .blk (b2) [aN 0, aN 100, aN 30, aN 70] 141 false, .blk (b3) [aN 1] 3 false] Try.func128 rfl (by kernel_rfl) (esOk hw (by simp [Cel.mine])) ?_
  refine aw_sr [⟨.pure, [], none, true⟩]
    (fun L1 => ⟨[aS b1 2 2 3, some (.func (.func 147) #[] #[.pointer (some ⟨b2, 0, none⟩), .pointer (some ⟨b3, 0, none⟩)]), aU, aU, aI 0, aU, aU, aU, aU, aU, aU, aU, aU, aU, aU, aU, aU, aU, aU], [.blk (b1) [aN 0, aN 100, aN 10, aN 90, aN 20, aN 81, aN 30, aN 70] 39 false, .blk (b2) [aN 0, aN 100, aN 30, aN 70] 141 false, .blk (b3) [aN 1] 3 false], []⟩)
    (fun L1 => [])
    fol (by kernel_rfl) (fun _ => by kernel_rfl) (fun L1 => trivial) (fun L1 => ?_)
  refine aw_seq ?_
  refine aw_sr [⟨.pure, [], none, true⟩, ⟨.pure, [0], none, true⟩, ⟨.pure, [], none, true⟩]
    (fun L2 => ⟨[aS b1 2 2 3, some (.func (.func 147) #[] #[.pointer (some ⟨b2, 0, none⟩), .pointer (some ⟨b3, 0, none⟩)]), aU, aU, aI 0, aU, aS b1 2 2 3, aI 2, aI 0, aU, aU, aU, aU, aU, aU, aU, aU, aU, aU], [.blk (b1) [aN 0, aN 100, aN 10, aN 90, aN 20, aN 81, aN 30, aN 70] 39 false, .blk (b2) [aN 0, aN 100, aN 30, aN 70] 141 false, .blk (b3) [aN 1] 3 false], []⟩)
    (fun L2 => [])
    fol (by kernel_rfl) (fun _ => by kernel_rfl) (fun L2 => trivial) (fun L2 => ?_)
  refine aw_block ?_
  refine aw_rounds 3 ?_
  refine aw_round ?_
  refine aw_sr [⟨.pure, [], none, true⟩]
    (fun L3 => ⟨[aS b1 2 2 3, some (.func (.func 147) #[] #[.pointer (some ⟨b2, 0, none⟩), .pointer (some ⟨b3, 0, none⟩)]), aU, aU, aI 0, aU, aS b1 2 2 3, aI 2, aI 0, aT, aU, aU, aU, aU, aU, aU, aU, aU, aU], [.blk (b1) [aN 0, aN 100, aN 10, aN 90, aN 20, aN 81, aN 30, aN 70] 39 false, .blk (b2) [aN 0, aN 100, aN 30, aN 70] 141 false, .blk (b3) [aN 1] 3 false], []⟩)
    (fun L3 => [])
    fol (by kernel_rfl) (fun _ => by kernel_rfl) (fun L3 => trivial) (fun L3 => ?_)
  refine aw_seq ?_
  refine aw_true (true) rfl rfl ?_
  refine aw_skip ?_
  refine nrm_thn ?_
  refine aw_seq ?_
  refine aw_block ?_
  refine aw_sr [⟨.pure, [], none, true⟩, ⟨.pure, [0], none, true⟩]
    (fun L4 => ⟨[aS b1 2 2 3, some (.func (.func 147) #[] #[.pointer (some ⟨b2, 0, none⟩), .pointer (some ⟨b3, 0, none⟩)]), aU, aU, aI 0, aI 0, aS b1 2 2 3, aI 2, aI 0, aT, aI 0, aU, aU, aU, aU, aU, aU, aU, aU], [.blk (b1) [aN 0, aN 100, aN 10, aN 90, aN 20, aN 81, aN 30, aN 70] 39 false, .blk (b2) [aN 0, aN 100, aN 30, aN 70] 141 false, .blk (b3) [aN 1] 3 false], []⟩)
    (fun L4 => [])
    fol (by kernel_rfl) (fun _ => by kernel_rfl) (fun L4 => trivial) (fun L4 => ?_)
  refine aw_sr [⟨.pure, [], none, true⟩, ⟨.pure, [], none, true⟩, ⟨.pure, [], none, true⟩, ⟨.pure, [1, 2], none, true⟩, ⟨(.read 0), [1, 2, 3], none, true⟩, ⟨(.call [1, 2] (.bool (false))), [0, 1, 2, 3, 4], none, true⟩]
    (fun L5 => ⟨[aS b1 2 2 3, some (.func (.func 147) #[] #[.pointer (some ⟨b2, 0, none⟩), .pointer (some ⟨b3, 0, none⟩)]), aU, aU, aI 0, aI 0, aS b1 2 2 3, aI 2, aI 0, aT, aI 0, some (.func (.func 147) #[] #[.pointer (some ⟨b2, 0, none⟩), .pointer (some ⟨b3, 0, none⟩)]), aS b1 2 2 3, aI 0, aP b1 2, some (.agg #[aN 10, aN 90]), aF, aU, aU], [.blk (b1) [aN 0, aN 100, aN 10, aN 90, aN 20, aN 81, aN 30, aN 70] 39 false, .blk (b2) [aN 0, aN 100, aN 30, aN 70] 141 false, .blk (b3) [aN 1] 3 false], []⟩)
    (fun L5 => [b1 = b1, 2 + 2 ≤ 8, CallOb Try.prog 147 #[.agg #[aN 10, aN 90], .pointer (some ⟨b2, 0, none⟩), .pointer (some ⟨b3, 0, none⟩)] [.blk (b2) [aN 0, aN 100, aN 30, aN 70] 141 false, .blk (b3) [aN 1] 3 false] (.bool (false))])
    fol (by kernel_rfl) (fun _ => by kernel_rfl) (fun L5 => ⟨rfl, (by decide), (callOb_frz (UA.i_192 (b2) (b3) )), trivial⟩) (fun L5 => ?_)
  refine aw_false (false) rfl rfl ?_
  refine aw_skip ?_
  refine nrm_inB ?_
  refine nrm_thn ?_
  refine aw_region [⟨.pure, [], none, true⟩, ⟨.pure, [0], none, true⟩]
    (fun L6 => ⟨[aS b1 2 2 3, some (.func (.func 147) #[] #[.pointer (some ⟨b2, 0, none⟩), .pointer (some ⟨b3, 0, none⟩)]), aU, aU, aI 0, aI 0, aS b1 2 2 3, aI 2, aI 1, aT, aI 0, some (.func (.func 147) #[] #[.pointer (some ⟨b2, 0, none⟩), .pointer (some ⟨b3, 0, none⟩)]), aS b1 2 2 3, aI 0, aP b1 2, some (.agg #[aN 10, aN 90]), aF, aU, aI 1], [.blk (b1) [aN 0, aN 100, aN 10, aN 90, aN 20, aN 81, aN 30, aN 70] 39 false, .blk (b2) [aN 0, aN 100, aN 30, aN 70] 141 false, .blk (b3) [aN 1] 3 false], []⟩)
    (fun L6 => [])
    fol (by kernel_rfl) (fun _ => by kernel_rfl) (fun L6 => trivial) (fun L6 => ?_)
  refine nrm_thn ?_
  refine aw_round ?_
  refine aw_sr [⟨.pure, [], none, true⟩]
    (fun L7 => ⟨[aS b1 2 2 3, some (.func (.func 147) #[] #[.pointer (some ⟨b2, 0, none⟩), .pointer (some ⟨b3, 0, none⟩)]), aU, aU, aI 0, aI 0, aS b1 2 2 3, aI 2, aI 1, aT, aI 0, some (.func (.func 147) #[] #[.pointer (some ⟨b2, 0, none⟩), .pointer (some ⟨b3, 0, none⟩)]), aS b1 2 2 3, aI 0, aP b1 2, some (.agg #[aN 10, aN 90]), aF, aU, aI 1], [.blk (b1) [aN 0, aN 100, aN 10, aN 90, aN 20, aN 81, aN 30, aN 70] 39 false, .blk (b2) [aN 0, aN 100, aN 30, aN 70] 141 false, .blk (b3) [aN 1] 3 false], []⟩)
    (fun L7 => [])
    fol (by kernel_rfl) (fun _ => by kernel_rfl) (fun L7 => trivial) (fun L7 => ?_)
  refine aw_seq ?_
  refine aw_true (true) rfl rfl ?_
  refine aw_skip ?_
  refine nrm_thn ?_
  refine aw_seq ?_
  refine aw_block ?_
  refine aw_sr [⟨.pure, [], none, true⟩, ⟨.pure, [0], none, true⟩]
    (fun L8 => ⟨[aS b1 2 2 3, some (.func (.func 147) #[] #[.pointer (some ⟨b2, 0, none⟩), .pointer (some ⟨b3, 0, none⟩)]), aU, aU, aI 0, aI 1, aS b1 2 2 3, aI 2, aI 1, aT, aI 1, some (.func (.func 147) #[] #[.pointer (some ⟨b2, 0, none⟩), .pointer (some ⟨b3, 0, none⟩)]), aS b1 2 2 3, aI 0, aP b1 2, some (.agg #[aN 10, aN 90]), aF, aU, aI 1], [.blk (b1) [aN 0, aN 100, aN 10, aN 90, aN 20, aN 81, aN 30, aN 70] 39 false, .blk (b2) [aN 0, aN 100, aN 30, aN 70] 141 false, .blk (b3) [aN 1] 3 false], []⟩)
    (fun L8 => [])
    fol (by kernel_rfl) (fun _ => by kernel_rfl) (fun L8 => trivial) (fun L8 => ?_)
  refine aw_sr [⟨.pure, [], none, true⟩, ⟨.pure, [], none, true⟩, ⟨.pure, [], none, true⟩, ⟨.pure, [1, 2], none, true⟩, ⟨(.read 0), [1, 2, 3], none, true⟩, ⟨(.call [1, 2] (.bool (false))), [0, 1, 2, 3, 4], none, true⟩]
    (fun L9 => ⟨[aS b1 2 2 3, some (.func (.func 147) #[] #[.pointer (some ⟨b2, 0, none⟩), .pointer (some ⟨b3, 0, none⟩)]), aU, aU, aI 0, aI 1, aS b1 2 2 3, aI 2, aI 1, aT, aI 1, some (.func (.func 147) #[] #[.pointer (some ⟨b2, 0, none⟩), .pointer (some ⟨b3, 0, none⟩)]), aS b1 2 2 3, aI 1, aP b1 4, some (.agg #[aN 20, aN 81]), aF, aU, aI 1], [.blk (b1) [aN 0, aN 100, aN 10, aN 90, aN 20, aN 81, aN 30, aN 70] 39 false, .blk (b2) [aN 0, aN 100, aN 30, aN 70] 141 false, .blk (b3) [aN 1] 3 false], []⟩)
    (fun L9 => [b1 = b1, 4 + 2 ≤ 8, CallOb Try.prog 147 #[.agg #[aN 20, aN 81], .pointer (some ⟨b2, 0, none⟩), .pointer (some ⟨b3, 0, none⟩)] [.blk (b2) [aN 0, aN 100, aN 30, aN 70] 141 false, .blk (b3) [aN 1] 3 false] (.bool (false))])
    fol (by kernel_rfl) (fun _ => by kernel_rfl) (fun L9 => ⟨rfl, (by decide), (callOb_frz (UA.i_197 (b2) (b3) )), trivial⟩) (fun L9 => ?_)
  refine aw_false (false) rfl rfl ?_
  refine aw_skip ?_
  refine nrm_inB ?_
  refine nrm_thn ?_
  refine aw_region [⟨.pure, [], none, true⟩, ⟨.pure, [0], none, true⟩]
    (fun L10 => ⟨[aS b1 2 2 3, some (.func (.func 147) #[] #[.pointer (some ⟨b2, 0, none⟩), .pointer (some ⟨b3, 0, none⟩)]), aU, aU, aI 0, aI 1, aS b1 2 2 3, aI 2, aI 2, aT, aI 1, some (.func (.func 147) #[] #[.pointer (some ⟨b2, 0, none⟩), .pointer (some ⟨b3, 0, none⟩)]), aS b1 2 2 3, aI 1, aP b1 4, some (.agg #[aN 20, aN 81]), aF, aU, aI 2], [.blk (b1) [aN 0, aN 100, aN 10, aN 90, aN 20, aN 81, aN 30, aN 70] 39 false, .blk (b2) [aN 0, aN 100, aN 30, aN 70] 141 false, .blk (b3) [aN 1] 3 false], []⟩)
    (fun L10 => [])
    fol (by kernel_rfl) (fun _ => by kernel_rfl) (fun L10 => trivial) (fun L10 => ?_)
  refine nrm_thn ?_
  refine aw_round ?_
  refine aw_sr [⟨.pure, [], none, true⟩]
    (fun L11 => ⟨[aS b1 2 2 3, some (.func (.func 147) #[] #[.pointer (some ⟨b2, 0, none⟩), .pointer (some ⟨b3, 0, none⟩)]), aU, aU, aI 0, aI 1, aS b1 2 2 3, aI 2, aI 2, aF, aI 1, some (.func (.func 147) #[] #[.pointer (some ⟨b2, 0, none⟩), .pointer (some ⟨b3, 0, none⟩)]), aS b1 2 2 3, aI 1, aP b1 4, some (.agg #[aN 20, aN 81]), aF, aU, aI 2], [.blk (b1) [aN 0, aN 100, aN 10, aN 90, aN 20, aN 81, aN 30, aN 70] 39 false, .blk (b2) [aN 0, aN 100, aN 30, aN 70] 141 false, .blk (b3) [aN 1] 3 false], []⟩)
    (fun L11 => [])
    fol (by kernel_rfl) (fun _ => by kernel_rfl) (fun L11 => trivial) (fun L11 => ?_)
  refine aw_seq ?_
  refine aw_false (false) rfl rfl ?_
  refine aw_exit ?_
  refine ex_thn ?_
  refine ex_thn ?_
  refine ex_hit ?_
  refine nrm_thn ?_
  refine aw_sr [⟨.pure, [], none, true⟩]
    (fun L12 => ⟨[aS b1 2 2 3, some (.func (.func 147) #[] #[.pointer (some ⟨b2, 0, none⟩), .pointer (some ⟨b3, 0, none⟩)]), aU, aU, aI (-1), aI 1, aS b1 2 2 3, aI 2, aI 2, aF, aI 1, some (.func (.func 147) #[] #[.pointer (some ⟨b2, 0, none⟩), .pointer (some ⟨b3, 0, none⟩)]), aS b1 2 2 3, aI 1, aP b1 4, some (.agg #[aN 20, aN 81]), aF, aU, aI 2], [.blk (b1) [aN 0, aN 100, aN 10, aN 90, aN 20, aN 81, aN 30, aN 70] 39 false, .blk (b2) [aN 0, aN 100, aN 30, aN 70] 141 false, .blk (b3) [aN 1] 3 false], []⟩)
    (fun L12 => [])
    fol (by kernel_rfl) (fun _ => by kernel_rfl) (fun L12 => trivial) (fun L12 => ?_)
  refine aw_ret ?_
  exact fin_ret none [0] (aN (-1)) [] (.inr rfl) rfl (by kernel_rfl) trivial (fun w' hb => ⟨rfl, hb⟩)

-- slices.ContainsFunc[couplant/tune.table,couplant/api.TuneRow]
set_option maxRecDepth 100000 in
set_option maxHeartbeats 400000 in
theorem UA.i_199 (b1 b2 b3 : Nat) : CallOb Try.prog 146 #[.slice (some ⟨b1, 2, none⟩) (2) (3), .func (.func 147) #[] #[.pointer (some ⟨b2, 0, none⟩), .pointer (some ⟨b3, 0, none⟩)]] [.blk (b1) [aN 0, aN 100, aN 10, aN 90, aN 20, aN 81, aN 30, aN 70] 39 false, .blk (b2) [aN 0, aN 100, aN 30, aN 70] 141 false, .blk (b3) [aN 1] 3 false] (.bool (false)) := by
  intro w hw
  refine calls_aw [aS b1 2 2 3, some (.func (.func 147) #[] #[.pointer (some ⟨b2, 0, none⟩), .pointer (some ⟨b3, 0, none⟩)]), aU, aU, aU, aU, aU, aU, aU] [.blk (b1) [aN 0, aN 100, aN 10, aN 90, aN 20, aN 81, aN 30, aN 70] 39 false, .blk (b2) [aN 0, aN 100, aN 30, aN 70] 141 false, .blk (b3) [aN 1] 3 false] Try.func146 rfl (by kernel_rfl) (esOk hw (by simp [Cel.mine])) ?_
  refine aw_sr [⟨.pure, [], none, true⟩]
    (fun L1 => ⟨[aS b1 2 2 3, some (.func (.func 147) #[] #[.pointer (some ⟨b2, 0, none⟩), .pointer (some ⟨b3, 0, none⟩)]), aU, aU, aF, aU, aU, aU, aU], [.blk (b1) [aN 0, aN 100, aN 10, aN 90, aN 20, aN 81, aN 30, aN 70] 39 false, .blk (b2) [aN 0, aN 100, aN 30, aN 70] 141 false, .blk (b3) [aN 1] 3 false], []⟩)
    (fun L1 => [])
    fol (by kernel_rfl) (fun _ => by kernel_rfl) (fun L1 => trivial) (fun L1 => ?_)
  refine aw_sr [⟨.pure, [], none, true⟩, ⟨.pure, [], none, true⟩, ⟨(.call [0, 1, 2] (aN (-1))), [0, 1], none, true⟩, ⟨.pure, [0, 1, 2], none, true⟩, ⟨.pure, [0, 1, 2, 3], none, true⟩]
    (fun L2 => ⟨[aS b1 2 2 3, some (.func (.func 147) #[] #[.pointer (some ⟨b2, 0, none⟩), .pointer (some ⟨b3, 0, none⟩)]), aU, aU, aF, aS b1 2 2 3, some (.func (.func 147) #[] #[.pointer (some ⟨b2, 0, none⟩), .pointer (some ⟨b3, 0, none⟩)]), aI (-1), aF], [.blk (b1) [aN 0, aN 100, aN 10, aN 90, aN 20, aN 81, aN 30, aN 70] 39 false, .blk (b2) [aN 0, aN 100, aN 30, aN 70] 141 false, .blk (b3) [aN 1] 3 false], []⟩)
    (fun L2 => [CallOb Try.prog 128 #[.slice (some ⟨b1, 2, none⟩) (2) (3), .func (.func 147) #[] #[.pointer (some ⟨b2, 0, none⟩), .pointer (some ⟨b3, 0, none⟩)]] [.blk (b1) [aN 0, aN 100, aN 10, aN 90, aN 20, aN 81, aN 30, aN 70] 39 false, .blk (b2) [aN 0, aN 100, aN 30, aN 70] 141 false, .blk (b3) [aN 1] 3 false] (aN (-1))])
    fol (by kernel_rfl) (fun _ => by kernel_rfl) (fun L2 => ⟨(callOb_frz (UA.i_198 (b1) (b2) (b3) )), trivial⟩) (fun L2 => ?_)
  refine aw_ret ?_
  exact fin_ret none [0] (.bool (false)) [] (.inr rfl) rfl (by kernel_rfl) trivial (fun w' hb => ⟨rfl, hb⟩)

-- (couplant/tune.table).mayMeet
set_option maxRecDepth 100000 in
set_option maxHeartbeats 400000 in
theorem UA.i_200 (b1 : Nat) : CallOb Try.prog 131 #[.slice (some ⟨b1, 0, none⟩) (4) (4), aN 0, aN 3, aN 1] [.blk (b1) [aN 0, aN 100, aN 10, aN 90, aN 20, aN 81, aN 30, aN 70] 39 false] (.bool (true)) := by
  intro w hw
  refine calls_aw [aS b1 0 4 4, aI 0, aI 3, aI 1, aU, aU, aU, aU, aU, aU, aU, aU, aU, aU, aU, aU, aU, aU, aU, aU, aU, aU] [.blk (b1) [aN 0, aN 100, aN 10, aN 90, aN 20, aN 81, aN 30, aN 70] 39 false] Try.func131 rfl (by kernel_rfl) (esOk hw (by simp [Cel.mine])) ?_
  refine aw_sr [⟨.new, [], none, true⟩, ⟨.pure, [], none, true⟩]
    (fun L1 => ⟨[aS b1 0 4 4, aI 0, aI 3, aI 1, aU, aU, aU, aP (L1 0).b 0, aF, aU, aU, aU, aU, aU, aU, aU, aU, aU, aU, aU, aU, aU], [.blk (b1) [aN 0, aN 100, aN 10, aN 90, aN 20, aN 81, aN 30, aN 70] 39 false, .blk ((L1 0).b) [aN 1] 3 true], []⟩)
    (fun L1 => [])
    fol (by kernel_rfl) (fun _ => by kernel_rfl) (fun L1 => trivial) (fun L1 => ?_)
  refine aw_sr [⟨.pure, [], none, true⟩, ⟨.pure, [], none, true⟩, ⟨.pure, [], none, true⟩, ⟨(.call [0] (.agg #[aN 0, aN 100, aN 30, aN 70])), [0, 1, 2], none, true⟩, ⟨.new, [], none, true⟩, ⟨(.write 6), [0, 1, 2, 3, 4], none, true⟩]
    (fun L2 => ⟨[aS b1 0 4 4, aI 0, aI 3, aI 1, aU, aU, aU, aP (L1 0).b 0, aF, aP (L2 4).b 0, aS b1 0 4 4, aI 0, aI 3, some (.agg #[aN 0, aN 100, aN 30, aN 70]), aU, aU, aU, aU, aU, aU, aU, aU], [.blk (b1) [aN 0, aN 100, aN 10, aN 90, aN 20, aN 81, aN 30, aN 70] 39 false, .blk ((L1 0).b) [aN 1] 3 true, .blk ((L2 4).b) [aN 0, aN 100, aN 30, aN 70] 141 true], []⟩)
    (fun L2 => [CallOb Try.prog 130 #[.slice (some ⟨b1, 0, none⟩) (4) (4), aN 0, aN 3] [.blk (b1) [aN 0, aN 100, aN 10, aN 90, aN 20, aN 81, aN 30, aN 70] 39 false] (.agg #[aN 0, aN 100, aN 30, aN 70]), (L2 4).b = (L2 4).b, 0 + 4 ≤ 4, 4 = 4, true = true])
    fol (by kernel_rfl) (fun _ => by kernel_rfl) (fun L2 => ⟨(callOb_frz (UA.i_187 (b1) )), rfl, (by decide), rfl, rfl, trivial⟩) (fun L2 => ?_)
  refine aw_sr [⟨.pure, [], none, true⟩, ⟨.pure, [], none, true⟩, ⟨.pure, [1], none, true⟩, ⟨.pure, [], none, true⟩, ⟨.pure, [0, 1, 2, 3], none, true⟩, ⟨.pure, [], none, true⟩, ⟨(.call [0, 2, 1] (.bool (false))), [0, 1, 2, 3, 4, 5], none, true⟩, ⟨.pure, [0, 1, 2, 3, 4, 5, 6], none, true⟩, ⟨.pure, [0, 1, 2, 3, 4, 5, 6, 7], none, true⟩]
    (fun L3 => ⟨[aS b1 0 4 4, aI 0, aI 3, aI 1, aU, aU, aU, aP (L1 0).b 0, aT, aP (L2 4).b 0, aS b1 0 4 4, aI 0, aI 3, some (.agg #[aN 0, aN 100, aN 30, aN 70]), aS b1 0 4 4, aI 0, aI 1, aI 3, aS b1 2 2 3, some (.func (.func 147) #[] #[.pointer (some ⟨(L2 4).b, 0, none⟩), .pointer (some ⟨(L1 0).b, 0, none⟩)]), aF, aT], [.blk (b1) [aN 0, aN 100, aN 10, aN 90, aN 20, aN 81, aN 30, aN 70] 39 false, .blk ((L1 0).b) [aN 1] 3 true, .blk ((L2 4).b) [aN 0, aN 100, aN 30, aN 70] 141 true], []⟩)
    (fun L3 => [CallOb Try.prog 146 #[.slice (some ⟨b1, 2, none⟩) (2) (3), .func (.func 147) #[] #[.pointer (some ⟨(L2 4).b, 0, none⟩), .pointer (some ⟨(L1 0).b, 0, none⟩)]] [.blk (b1) [aN 0, aN 100, aN 10, aN 90, aN 20, aN 81, aN 30, aN 70] 39 false, .blk ((L2 4).b) [aN 0, aN 100, aN 30, aN 70] 141 true, .blk ((L1 0).b) [aN 1] 3 true] (.bool (false))])
    fol (by kernel_rfl) (fun _ => by kernel_rfl) (fun L3 => ⟨(callOb_frz (UA.i_199 (b1) ((L2 4).b) ((L1 0).b) )), trivial⟩) (fun L3 => ?_)
  refine aw_ret ?_
  exact fin_ret none [0] (.bool (true)) [] (.inr rfl) rfl (by kernel_rfl) trivial (fun w' hb => ⟨rfl, hb⟩)

-- (couplant/tune.table).nexts
set_option maxRecDepth 100000 in
set_option maxHeartbeats 400000 in
theorem UA.i_201 (b1 : Nat) : CallN Try.prog 87 #[.slice (some ⟨b1, 0, none⟩) (4) (4), aN 1] [.blk (b1) [aN 0, aN 100, aN 10, aN 90, aN 20, aN 81, aN 30, aN 70] 39 false] (fun l => .slice (some ⟨l.b, 0, none⟩) (3) (3)) (fun l => .blk (l.b) [aN 3, aN 3, aN 3] 3 true) := by
  intro w hw
  refine calls_aw [aS b1 0 4 4, aI 1, aU, aU, aU, aU, aU, aU, aU, aU, aU, aU, aU, aU, aU, aU, aU, aU, aU, aU, aU, aU, aU, aU, aU, aU, aU, aU, aU, aU, aU, aU, aU, aU, aU, aU, aU, aU, aU, aU, aU, aU, aU, aU, aU, aU, aU, aU, aU, aU, aU, aU, aU, aU, aU, aU, aU, aU, aU, aU, aU, aU, aU, aU, aU, aU, aU, aU, aU, aU, aU, aU, aU, aU, aU] [.blk (b1) [aN 0, aN 100, aN 10, aN 90, aN 20, aN 81, aN 30, aN 70] 39 false] Try.func87 rfl (by kernel_rfl) (esOk hw (by simp [Cel.mine])) ?_
  refine aw_sr [⟨.pure, [], none, true⟩]
    (fun L1 => ⟨[aS b1 0 4 4, aI 1, aU, aU, some (.slice none 0 0), aU, aU, aU, aU, aU, aU, aU, aU, aU, aU, aU, aU, aU, aU, aU, aU, aU, aU, aU, aU, aU, aU, aU, aU, aU, aU, aU, aU, aU, aU, aU, aU, aU, aU, aU, aU, aU, aU, aU, aU, aU, aU, aU, aU, aU, aU, aU, aU, aU, aU, aU, aU, aU, aU, aU, aU, aU, aU, aU, aU, aU, aU, aU, aU, aU, aU, aU, aU, aU, aU], [.blk (b1) [aN 0, aN 100, aN 10, aN 90, aN 20, aN 81, aN 30, aN 70] 39 false], []⟩)
    (fun L1 => [])
    fol (by kernel_rfl) (fun _ => by kernel_rfl) (fun L1 => trivial) (fun L1 => ?_)
  refine aw_sr [⟨.pure, [], none, true⟩, ⟨.pure, [0], none, true⟩, ⟨.pure, [0, 1], none, true⟩, ⟨.pure, [0, 1, 2], none, true⟩]
    (fun L2 => ⟨[aS b1 0 4 4, aI 1, aU, aU, some (.slice none 0 0), aI 3, aU, aU, aU, aU, aS b1 0 4 4, aI 4, aI 3, aU, aU, aU, aU, aU, aU, aU, aU, aU, aU, aU, aU, aU, aU, aU, aU, aU, aU, aU, aU, aU, aU, aU, aU, aU, aU, aU, aU, aU, aU, aU, aU, aU, aU, aU, aU, aU, aU, aU, aU, aU, aU, aU, aU, aU, aU, aU, aU, aU, aU, aU, aU, aU, aU, aU, aU, aU, aU, aU, aU, aU, aU], [.blk (b1) [aN 0, aN 100, aN 10, aN 90, aN 20, aN 81, aN 30, aN 70] 39 false], []⟩)
    (fun L2 => [])
    fol (by kernel_rfl) (fun _ => by kernel_rfl) (fun L2 => trivial) (fun L2 => ?_)
  refine aw_sr [⟨.pure, [], none, true⟩, ⟨.pure, [0], none, true⟩, ⟨.new, [0, 1], none, true⟩, ⟨.pure, [], none, true⟩, ⟨.new, [3], none, true⟩, ⟨.pure, [0, 1, 2], none, true⟩, ⟨.pure, [0, 1, 2, 3, 4, 5], none, true⟩]
    (fun L3 => ⟨[aS b1 0 4 4, aI 1, aU, aU, some (.slice none 0 0), aI 3, aS (L3 2).b 0 4 4, aS (L3 4).b 0 3 3, aU, aU, aS b1 0 4 4, aI 4, aI 3, aI 3, aI 4, aS (L3 2).b 0 4 4, aI 3, aS (L3 4).b 0 3 3, aU, aU, aU, aU, aU, aU, aU, aU, aU, aU, aU, aU, aU, aU, aU, aU, aU, aU, aU, aU, aU, aU, aU, aU, aU, aU, aU, aU, aU, aU, aU, aU, aU, aU, aU, aU, aU, aU, aU, aU, aU, aU, aU, aU, aU, aU, aU, aU, aU, aU, aU, aU, aU, aU, aU, aU, aU], [.blk (b1) [aN 0, aN 100, aN 10, aN 90, aN 20, aN 81, aN 30, aN 70] 39 false, .blk ((L3 2).b) [aN 0, aN 0, aN 0, aN 0] 3 true, .blk ((L3 4).b) [aN 0, aN 0, aN 0] 3 true], []⟩)
    (fun L3 => [])
    fol (by kernel_rfl) (fun _ => by kernel_rfl) (fun L3 => trivial) (fun L3 => ?_)
  refine aw_seq ?_
  refine aw_sr [⟨.pure, [], none, true⟩, ⟨.pure, [0], none, true⟩, ⟨.pure, [0, 1], none, true⟩]
    (fun L4 => ⟨[aS b1 0 4 4, aI 1, aU, aU, some (.slice none 0 0), aI 3, aS (L3 2).b 0 4 4, aS (L3 4).b 0 3 3, aI 2, aU, aS b1 0 4 4, aI 4, aI 3, aI 3, aI 4, aS (L3 2).b 0 4 4, aI 3, aS (L3 4).b 0 3 3, aI 3, aI 2, aU, aU, aU, aU, aU, aU, aU, aU, aU, aU, aU, aU, aU, aU, aU, aU, aU, aU, aU, aU, aU, aU, aU, aU, aU, aU, aU, aU, aU, aU, aU, aU, aU, aU, aU, aU, aU, aU, aU, aU, aU, aU, aU, aU, aU, aU, aU, aU, aU, aU, aU, aU, aU, aU, aU], [.blk (b1) [aN 0, aN 100, aN 10, aN 90, aN 20, aN 81, aN 30, aN 70] 39 false, .blk ((L3 2).b) [aN 0, aN 0, aN 0, aN 0] 3 true, .blk ((L3 4).b) [aN 0, aN 0, aN 0] 3 true], []⟩)
    (fun L4 => [])
    fol (by kernel_rfl) (fun _ => by kernel_rfl) (fun L4 => trivial) (fun L4 => ?_)
  refine aw_block ?_
  refine aw_rounds 4 ?_
  refine aw_round ?_
  refine aw_seq ?_
  refine aw_sr [⟨.pure, [], none, true⟩, ⟨.pure, [0], none, true⟩]
    (fun L5 => ⟨[aS b1 0 4 4, aI 1, aU, aU, some (.slice none 0 0), aI 3, aS (L3 2).b 0 4 4, aS (L3 4).b 0 3 3, aI 2, aU, aS b1 0 4 4, aI 4, aI 3, aI 3, aI 4, aS (L3 2).b 0 4 4, aI 3, aS (L3 4).b 0 3 3, aI 3, aI 2, aI 2, aT, aU, aU, aU, aU, aU, aU, aU, aU, aU, aU, aU, aU, aU, aU, aU, aU, aU, aU, aU, aU, aU, aU, aU, aU, aU, aU, aU, aU, aU, aU, aU, aU, aU, aU, aU, aU, aU, aU, aU, aU, aU, aU, aU, aU, aU, aU, aU, aU, aU, aU, aU, aU, aU], [.blk (b1) [aN 0, aN 100, aN 10, aN 90, aN 20, aN 81, aN 30, aN 70] 39 false, .blk ((L3 2).b) [aN 0, aN 0, aN 0, aN 0] 3 true, .blk ((L3 4).b) [aN 0, aN 0, aN 0] 3 true], []⟩)
    (fun L5 => [])
    fol (by kernel_rfl) (fun _ => by kernel_rfl) (fun L5 => trivial) (fun L5 => ?_)
  refine aw_true (true) rfl rfl ?_
  refine aw_skip ?_
  refine nrm_thn ?_
  refine aw_seq ?_
  refine aw_block ?_
  refine aw_sr [⟨.pure, [], none, true⟩, ⟨.pure, [], none, true⟩, ⟨.pure, [], none, true⟩, ⟨.pure, [], none, true⟩, ⟨.pure, [], none, true⟩, ⟨.pure, [], none, true⟩, ⟨.pure, [5], none, true⟩, ⟨.pure, [4, 5, 6], none, true⟩, ⟨(.read 1), [4, 5, 6, 7], none, true⟩, ⟨.pure, [4, 5, 6, 7, 8], none, true⟩, ⟨.pure, [], none, true⟩, ⟨.pure, [10], none, true⟩, ⟨.pure, [0, 1, 4, 5, 6, 7, 8, 9], none, true⟩, ⟨(.write 1), [0, 1, 4, 5, 6, 7, 8, 9, 12], none, true⟩, ⟨.pure, [0, 1, 2, 3, 4, 5, 6, 7, 8, 9, 10, 11, 12, 13], none, true⟩, ⟨(.write 2), [0, 1, 2, 3, 4, 5, 6, 7, 8, 9, 10, 11, 12, 13, 14], none, true⟩]
    (fun L6 => ⟨[aS b1 0 4 4, aI 1, aU, aU, some (.slice none 0 0), aI 3, aS (L3 2).b 0 4 4, aS (L3 4).b 0 3 3, aI 2, aU, aS b1 0 4 4, aI 4, aI 3, aI 3, aI 4, aS (L3 2).b 0 4 4, aI 3, aS (L3 4).b 0 3 3, aI 3, aI 2, aI 2, aT, aU, aU, aS (L3 2).b 0 4 4, aI 2, aS (L3 4).b 0 3 3, aI 2, aS (L3 2).b 0 4 4, aI 2, aI 3, aP (L3 2).b 3, aI 0, aI 1, aI 2, aI 3, aP (L3 2).b 2, aP (L3 4).b 2, aU, aU, aU, aU, aU, aU, aU, aU, aU, aU, aU, aU, aU, aU, aU, aU, aU, aU, aU, aU, aU, aU, aU, aU, aU, aU, aU, aU, aU, aU, aU, aU, aU, aU, aU, aU, aU], [.blk (b1) [aN 0, aN 100, aN 10, aN 90, aN 20, aN 81, aN 30, aN 70] 39 false, .blk ((L3 2).b) [aN 0, aN 0, aN 1, aN 0] 3 true, .blk ((L3 4).b) [aN 0, aN 0, aN 3] 3 true], []⟩)
    (fun L6 => [(L3 2).b = (L3 2).b, (L3 2).b = (L3 2).b, 2 + 1 ≤ 4, 1 = 1, true = true, (L3 4).b = (L3 4).b, 2 + 1 ≤ 3, 1 = 1, true = true])
    fol (by kernel_rfl) (fun _ => by kernel_rfl) (fun L6 => ⟨rfl, rfl, (by decide), rfl, rfl, rfl, (by decide), rfl, rfl, trivial⟩) (fun L6 => ?_)
  refine aw_sr [⟨.pure, [], none, true⟩, ⟨.pure, [0], none, true⟩, ⟨.pure, [0, 1], none, true⟩]
    (fun L7 => ⟨[aS b1 0 4 4, aI 1, aU, aU, some (.slice none 0 0), aI 3, aS (L3 2).b 0 4 4, aS (L3 4).b 0 3 3, aI 2, aI 4, aS b1 0 4 4, aI 4, aI 3, aI 3, aI 4, aS (L3 2).b 0 4 4, aI 3, aS (L3 4).b 0 3 3, aI 3, aI 2, aI 2, aT, aU, aU, aS (L3 2).b 0 4 4, aI 2, aS (L3 4).b 0 3 3, aI 2, aS (L3 2).b 0 4 4, aI 2, aI 3, aP (L3 2).b 3, aI 0, aI 1, aI 2, aI 3, aP (L3 2).b 2, aP (L3 4).b 2, aI 2, aI 4, aU, aU, aU, aU, aU, aU, aU, aU, aU, aU, aU, aU, aU, aU, aU, aU, aU, aU, aU, aU, aU, aU, aU, aU, aU, aU, aU, aU, aU, aU, aU, aU, aU, aU, aU], [.blk (b1) [aN 0, aN 100, aN 10, aN 90, aN 20, aN 81, aN 30, aN 70] 39 false, .blk ((L3 2).b) [aN 0, aN 0, aN 1, aN 0] 3 true, .blk ((L3 4).b) [aN 0, aN 0, aN 3] 3 true], []⟩)
    (fun L7 => [])
    fol (by kernel_rfl) (fun _ => by kernel_rfl) (fun L7 => trivial) (fun L7 => ?_)
  refine aw_block ?_
  refine aw_rounds 1 ?_
  refine aw_round ?_
  refine aw_seq ?_
  refine aw_sr [⟨.pure, [], none, true⟩, ⟨.pure, [], none, true⟩, ⟨.pure, [0, 1], none, true⟩]
    (fun L8 => ⟨[aS b1 0 4 4, aI 1, aU, aU, some (.slice none 0 0), aI 3, aS (L3 2).b 0 4 4, aS (L3 4).b 0 3 3, aI 2, aI 4, aS b1 0 4 4, aI 4, aI 3, aI 3, aI 4, aS (L3 2).b 0 4 4, aI 3, aS (L3 4).b 0 3 3, aI 3, aI 2, aI 2, aT, aU, aU, aS (L3 2).b 0 4 4, aI 2, aS (L3 4).b 0 3 3, aI 2, aS (L3 2).b 0 4 4, aI 2, aI 3, aP (L3 2).b 3, aI 0, aI 1, aI 2, aI 3, aP (L3 2).b 2, aP (L3 4).b 2, aI 2, aI 4, aI 4, aI 3, aF, aU, aU, aU, aU, aU, aU, aU, aU, aU, aU, aU, aU, aU, aU, aU, aU, aU, aU, aU, aU, aU, aU, aU, aU, aU, aU, aU, aU, aU, aU, aU, aU], [.blk (b1) [aN 0, aN 100, aN 10, aN 90, aN 20, aN 81, aN 30, aN 70] 39 false, .blk ((L3 2).b) [aN 0, aN 0, aN 1, aN 0] 3 true, .blk ((L3 4).b) [aN 0, aN 0, aN 3] 3 true], []⟩)
    (fun L8 => [])
    fol (by kernel_rfl) (fun _ => by kernel_rfl) (fun L8 => trivial) (fun L8 => ?_)
  refine aw_false (false) rfl rfl ?_
  refine aw_exit ?_
  refine ex_thn ?_
  refine ex_thn ?_
  refine ex_hit ?_
  refine nrm_inB ?_
  refine nrm_thn ?_
  refine aw_region [⟨.pure, [], none, true⟩, ⟨.pure, [0], none, true⟩, ⟨.pure, [0, 1], none, true⟩]
    (fun L9 => ⟨[aS b1 0 4 4, aI 1, aU, aU, some (.slice none 0 0), aI 3, aS (L3 2).b 0 4 4, aS (L3 4).b 0 3 3, aI 1, aI 4, aS b1 0 4 4, aI 4, aI 3, aI 3, aI 4, aS (L3 2).b 0 4 4, aI 3, aS (L3 4).b 0 3 3, aI 3, aI 2, aI 2, aT, aI 2, aI 1, aS (L3 2).b 0 4 4, aI 2, aS (L3 4).b 0 3 3, aI 2, aS (L3 2).b 0 4 4, aI 2, aI 3, aP (L3 2).b 3, aI 0, aI 1, aI 2, aI 3, aP (L3 2).b 2, aP (L3 4).b 2, aI 2, aI 4, aI 4, aI 3, aF, aU, aU, aU, aU, aU, aU, aU, aU, aU, aU, aU, aU, aU, aU, aU, aU, aU, aU, aU, aU, aU, aU, aU, aU, aU, aU, aU, aU, aU, aU, aU, aU], [.blk (b1) [aN 0, aN 100, aN 10, aN 90, aN 20, aN 81, aN 30, aN 70] 39 false, .blk ((L3 2).b) [aN 0, aN 0, aN 1, aN 0] 3 true, .blk ((L3 4).b) [aN 0, aN 0, aN 3] 3 true], []⟩)
    (fun L9 => [])
    fol (by kernel_rfl) (fun _ => by kernel_rfl) (fun L9 => trivial) (fun L9 => ?_)
  refine nrm_thn ?_
  refine aw_round ?_
  refine aw_seq ?_
  refine aw_sr [⟨.pure, [], none, true⟩, ⟨.pure, [0], none, true⟩]
    (fun L10 => ⟨[aS b1 0 4 4, aI 1, aU, aU, some (.slice none 0 0), aI 3, aS (L3 2).b 0 4 4, aS (L3 4).b 0 3 3, aI 1, aI 4, aS b1 0 4 4, aI 4, aI 3, aI 3, aI 4, aS (L3 2).b 0 4 4, aI 3, aS (L3 4).b 0 3 3, aI 3, aI 2, aI 1, aT, aI 2, aI 1, aS (L3 2).b 0 4 4, aI 2, aS (L3 4).b 0 3 3, aI 2, aS (L3 2).b 0 4 4, aI 2, aI 3, aP (L3 2).b 3, aI 0, aI 1, aI 2, aI 3, aP (L3 2).b 2, aP (L3 4).b 2, aI 2, aI 4, aI 4, aI 3, aF, aU, aU, aU, aU, aU, aU, aU, aU, aU, aU, aU, aU, aU, aU, aU, aU, aU, aU, aU, aU, aU, aU, aU, aU, aU, aU, aU, aU, aU, aU, aU, aU], [.blk (b1) [aN 0, aN 100, aN 10, aN 90, aN 20, aN 81, aN 30, aN 70] 39 false, .blk ((L3 2).b) [aN 0, aN 0, aN 1, aN 0] 3 true, .blk ((L3 4).b) [aN 0, aN 0, aN 3] 3 true], []⟩)
    (fun L10 => [])
    fol (by kernel_rfl) (fun _ => by kernel_rfl) (fun L10 => trivial) (fun L10 => ?_)
  refine aw_true (true) rfl rfl ?_
  refine aw_skip ?_
  refine nrm_thn ?_
  refine aw_seq ?_
  refine aw_block ?_
  refine aw_sr [⟨.pure, [], none, true⟩, ⟨.pure, [], none, true⟩, ⟨.pure, [], none, true⟩, ⟨.pure, [], none, true⟩, ⟨.pure, [], none, true⟩, ⟨.pure, [], none, true⟩, ⟨.pure, [5], none, true⟩, ⟨.pure, [4, 5, 6], none, true⟩, ⟨(.read 1), [4, 5, 6, 7], none, true⟩, ⟨.pure, [4, 5, 6, 7, 8], none, true⟩, ⟨.pure, [], none, true⟩, ⟨.pure, [10], none, true⟩, ⟨.pure, [0, 1, 4, 5, 6, 7, 8, 9], none, true⟩, ⟨(.write 1), [0, 1, 4, 5, 6, 7, 8, 9, 12], none, true⟩, ⟨.pure, [0, 1, 2, 3, 4, 5, 6, 7, 8, 9, 10, 11, 12, 13], none, true⟩, ⟨(.write 2), [0, 1, 2, 3, 4, 5, 6, 7, 8, 9, 10, 11, 12, 13, 14], none, true⟩]
    (fun L11 => ⟨[aS b1 0 4 4, aI 1, aU, aU, some (.slice none 0 0), aI 3, aS (L3 2).b 0 4 4, aS (L3 4).b 0 3 3, aI 1, aI 4, aS b1 0 4 4, aI 4, aI 3, aI 3, aI 4, aS (L3 2).b 0 4 4, aI 3, aS (L3 4).b 0 3 3, aI 3, aI 2, aI 1, aT, aI 2, aI 1, aS (L3 2).b 0 4 4, aI 1, aS (L3 4).b 0 3 3, aI 1, aS (L3 2).b 0 4 4, aI 1, aI 2, aP (L3 2).b 2, aI 1, aI 2, aI 1, aI 2, aP (L3 2).b 1, aP (L3 4).b 1, aI 2, aI 4, aI 4, aI 3, aF, aU, aU, aU, aU, aU, aU, aU, aU, aU, aU, aU, aU, aU, aU, aU, aU, aU, aU, aU, aU, aU, aU, aU, aU, aU, aU, aU, aU, aU, aU, aU, aU], [.blk (b1) [aN 0, aN 100, aN 10, aN 90, aN 20, aN 81, aN 30, aN 70] 39 false, .blk ((L3 2).b) [aN 0, aN 2, aN 1, aN 0] 3 true, .blk ((L3 4).b) [aN 0, aN 2, aN 3] 3 true], []⟩)
    (fun L11 => [(L3 2).b = (L3 2).b, (L3 2).b = (L3 2).b, 1 + 1 ≤ 4, 1 = 1, true = true, (L3 4).b = (L3 4).b, 1 + 1 ≤ 3, 1 = 1, true = true])
    fol (by kernel_rfl) (fun _ => by kernel_rfl) (fun L11 => ⟨rfl, rfl, (by decide), rfl, rfl, rfl, (by decide), rfl, rfl, trivial⟩) (fun L11 => ?_)
  refine aw_sr [⟨.pure, [], none, true⟩, ⟨.pure, [0], none, true⟩, ⟨.pure, [0, 1], none, true⟩]
    (fun L12 => ⟨[aS b1 0 4 4, aI 1, aU, aU, some (.slice none 0 0), aI 3, aS (L3 2).b 0 4 4, aS (L3 4).b 0 3 3, aI 1, aI 3, aS b1 0 4 4, aI 4, aI 3, aI 3, aI 4, aS (L3 2).b 0 4 4, aI 3, aS (L3 4).b 0 3 3, aI 3, aI 2, aI 1, aT, aI 2, aI 1, aS (L3 2).b 0 4 4, aI 1, aS (L3 4).b 0 3 3, aI 1, aS (L3 2).b 0 4 4, aI 1, aI 2, aP (L3 2).b 2, aI 1, aI 2, aI 1, aI 2, aP (L3 2).b 1, aP (L3 4).b 1, aI 1, aI 3, aI 4, aI 3, aF, aU, aU, aU, aU, aU, aU, aU, aU, aU, aU, aU, aU, aU, aU, aU, aU, aU, aU, aU, aU, aU, aU, aU, aU, aU, aU, aU, aU, aU, aU, aU, aU], [.blk (b1) [aN 0, aN 100, aN 10, aN 90, aN 20, aN 81, aN 30, aN 70] 39 false, .blk ((L3 2).b) [aN 0, aN 2, aN 1, aN 0] 3 true, .blk ((L3 4).b) [aN 0, aN 2, aN 3] 3 true], []⟩)
    (fun L12 => [])
    fol (by kernel_rfl) (fun _ => by kernel_rfl) (fun L12 => trivial) (fun L12 => ?_)
  refine aw_block ?_
  refine aw_rounds 2 ?_
  refine aw_round ?_
  refine aw_seq ?_
  refine aw_sr [⟨.pure, [], none, true⟩, ⟨.pure, [], none, true⟩, ⟨.pure, [0, 1], none, true⟩]
    (fun L13 => ⟨[aS b1 0 4 4, aI 1, aU, aU, some (.slice none 0 0), aI 3, aS (L3 2).b 0 4 4, aS (L3 4).b 0 3 3, aI 1, aI 3, aS b1 0 4 4, aI 4, aI 3, aI 3, aI 4, aS (L3 2).b 0 4 4, aI 3, aS (L3 4).b 0 3 3, aI 3, aI 2, aI 1, aT, aI 2, aI 1, aS (L3 2).b 0 4 4, aI 1, aS (L3 4).b 0 3 3, aI 1, aS (L3 2).b 0 4 4, aI 1, aI 2, aP (L3 2).b 2, aI 1, aI 2, aI 1, aI 2, aP (L3 2).b 1, aP (L3 4).b 1, aI 1, aI 3, aI 3, aI 3, aT, aU, aU, aU, aU, aU, aU, aU, aU, aU, aU, aU, aU, aU, aU, aU, aU, aU, aU, aU, aU, aU, aU, aU, aU, aU, aU, aU, aU, aU, aU, aU, aU], [.blk (b1) [aN 0, aN 100, aN 10, aN 90, aN 20, aN 81, aN 30, aN 70] 39 false, .blk ((L3 2).b) [aN 0, aN 2, aN 1, aN 0] 3 true, .blk ((L3 4).b) [aN 0, aN 2, aN 3] 3 true], []⟩)
    (fun L13 => [])
    fol (by kernel_rfl) (fun _ => by kernel_rfl) (fun L13 => trivial) (fun L13 => ?_)
  refine aw_true (true) rfl rfl ?_
  refine aw_skip ?_
  refine nrm_thn ?_
  refine aw_seq ?_
  refine aw_block ?_
  refine aw_sr [⟨.pure, [], none, true⟩, ⟨.pure, [], none, true⟩, ⟨.pure, [0, 1], none, true⟩, ⟨(.read 1), [0, 1, 2], none, true⟩, ⟨.pure, [0, 1, 2, 3], none, true⟩, ⟨.pure, [], none, true⟩, ⟨.pure, [], none, true⟩, ⟨.pure, [5, 6], none, true⟩, ⟨(.read 1), [5, 6, 7], none, true⟩, ⟨.pure, [0, 1, 2, 3, 4, 5, 6, 7, 8], none, true⟩, ⟨.pure, [0, 1, 2, 3, 4, 5, 6, 7, 8, 9], none, true⟩, ⟨.pure, [0, 1, 2, 3, 4, 5, 6, 7, 8, 9, 10], none, true⟩, ⟨.pure, [0, 1, 2, 3, 4, 5, 6, 7, 8, 9, 10], none, true⟩, ⟨.pure, [0, 1, 2, 3, 4, 5, 6, 7, 8, 9, 10], none, true⟩, ⟨.pure, [0, 1, 2, 3, 4, 5, 6, 7, 8, 9, 10], none, true⟩, ⟨(.call [0] (.bool (true))), [0, 1, 2, 3, 4, 5, 6, 7, 8, 9, 10, 11, 12, 13, 14], none, true⟩, ⟨.pure, [0, 1, 2, 3, 4, 5, 6, 7, 8, 9, 10, 11, 12, 13, 14, 15], aT, true⟩]
    (fun L14 => ⟨[aS b1 0 4 4, aI 1, aU, aU, some (.slice none 0 0), aI 3, aS (L3 2).b 0 4 4, aS (L3 4).b 0 3 3, aI 1, aI 3, aS b1 0 4 4, aI 4, aI 3, aI 3, aI 4, aS (L3 2).b 0 4 4, aI 3, aS (L3 4).b 0 3 3, aI 3, aI 2, aI 1, aT, aI 2, aI 1, aS (L3 2).b 0 4 4, aI 1, aS (L3 4).b 0 3 3, aI 1, aS (L3 2).b 0 4 4, aI 1, aI 2, aP (L3 2).b 2, aI 1, aI 2, aI 1, aI 2, aP (L3 2).b 1, aP (L3 4).b 1, aI 1, aI 3, aI 3, aI 3, aT, aU, aU, aS (L3 2).b 0 4 4, aI 3, aP (L3 2).b 3, aI 0, aI 1, aS (L3 2).b 0 4 4, aI 1, aP (L3 2).b 1, aI 2, aT, aT, aS b1 0 4 4, aI 1, aI 3, aI 1, aT, aT, aU, aU, aU, aU, aU, aU, aU, aU, aU, aU, aU, aU, aU], [.blk (b1) [aN 0, aN 100, aN 10, aN 90, aN 20, aN 81, aN 30, aN 70] 39 false, .blk ((L3 2).b) [aN 0, aN 2, aN 1, aN 0] 3 true, .blk ((L3 4).b) [aN 0, aN 2, aN 3] 3 true], []⟩)
    (fun L14 => [(L3 2).b = (L3 2).b, (L3 2).b = (L3 2).b, (true) = true, (true) = true, (true) = true, (true) = true, (true) = true, CallOb Try.prog 131 #[.slice (some ⟨b1, 0, none⟩) (4) (4), aN 1, aN 3, aN 1] [.blk (b1) [aN 0, aN 100, aN 10, aN 90, aN 20, aN 81, aN 30, aN 70] 39 false] (.bool (true)), (.bool (true) : Value) = .bool (true)])
    fol (by kernel_rfl) (fun _ => by kernel_rfl) (fun L14 => ⟨rfl, rfl, rfl, rfl, rfl, rfl, rfl, (callOb_frz (UA.i_186 (b1) )), rfl, trivial⟩) (fun L14 => ?_)
  refine aw_true (true) rfl rfl ?_
  refine aw_region [⟨.pure, [], none, true⟩, ⟨.pure, [], none, true⟩, ⟨.pure, [], none, true⟩, ⟨.pure, [], none, true⟩, ⟨.pure, [], none, true⟩, ⟨.pure, [], none, true⟩, ⟨.pure, [4, 5], none, true⟩, ⟨(.read 1), [4, 5, 6], none, true⟩, ⟨.pure, [4, 5, 6, 7], none, true⟩, ⟨.pure, [], none, true⟩, ⟨.pure, [0, 1, 4, 5, 6, 7, 8], none, true⟩, ⟨(.write 1), [0, 1, 4, 5, 6, 7, 8, 10], none, true⟩, ⟨.pure, [0, 1, 2, 3, 4, 5, 6, 7, 8, 9, 10, 11], none, true⟩, ⟨(.write 2), [0, 1, 2, 3, 4, 5, 6, 7, 8, 9, 10, 11, 12], none, true⟩]
    (fun L15 => ⟨[aS b1 0 4 4, aI 1, aU, aU, some (.slice none 0 0), aI 3, aS (L3 2).b 0 4 4, aS (L3 4).b 0 3 3, aI 1, aI 3, aS b1 0 4 4, aI 4, aI 3, aI 3, aI 4, aS (L3 2).b 0 4 4, aI 3, aS (L3 4).b 0 3 3, aI 3, aI 2, aI 1, aT, aI 2, aI 1, aS (L3 2).b 0 4 4, aI 1, aS (L3 4).b 0 3 3, aI 1, aS (L3 2).b 0 4 4, aI 1, aI 2, aP (L3 2).b 2, aI 1, aI 2, aI 1, aI 2, aP (L3 2).b 1, aP (L3 4).b 1, aI 1, aI 3, aI 3, aI 3, aT, aU, aU, aS (L3 2).b 0 4 4, aI 3, aP (L3 2).b 3, aI 0, aI 1, aS (L3 2).b 0 4 4, aI 1, aP (L3 2).b 1, aI 2, aT, aT, aS b1 0 4 4, aI 1, aI 3, aI 1, aT, aT, aS (L3 2).b 0 4 4, aI 1, aS (L3 4).b 0 3 3, aI 1, aS (L3 2).b 0 4 4, aI 3, aP (L3 2).b 3, aI 0, aI 1, aI 3, aP (L3 2).b 1, aP (L3 4).b 1, aU], [.blk (b1) [aN 0, aN 100, aN 10, aN 90, aN 20, aN 81, aN 30, aN 70] 39 false, .blk ((L3 2).b) [aN 0, aN 1, aN 1, aN 0] 3 true, .blk ((L3 4).b) [aN 0, aN 3, aN 3] 3 true], []⟩)
    (fun L15 => [(L3 2).b = (L3 2).b, (L3 2).b = (L3 2).b, 1 + 1 ≤ 4, 1 = 1, true = true, (L3 4).b = (L3 4).b, 1 + 1 ≤ 3, 1 = 1, true = true])
    fol (by kernel_rfl) (fun _ => by kernel_rfl) (fun L15 => ⟨rfl, rfl, (by decide), rfl, rfl, rfl, (by decide), rfl, rfl, trivial⟩) (fun L15 => ?_)
  refine nrm_inB ?_
  refine nrm_thn ?_
  refine aw_region [⟨.pure, [], none, true⟩, ⟨.pure, [0], none, true⟩, ⟨.pure, [0, 1], none, true⟩]
    (fun L16 => ⟨[aS b1 0 4 4, aI 1, aU, aU, some (.slice none 0 0), aI 3, aS (L3 2).b 0 4 4, aS (L3 4).b 0 3 3, aI 1, aI 4, aS b1 0 4 4, aI 4, aI 3, aI 3, aI 4, aS (L3 2).b 0 4 4, aI 3, aS (L3 4).b 0 3 3, aI 3, aI 2, aI 1, aT, aI 2, aI 1, aS (L3 2).b 0 4 4, aI 1, aS (L3 4).b 0 3 3, aI 1, aS (L3 2).b 0 4 4, aI 1, aI 2, aP (L3 2).b 2, aI 1, aI 2, aI 1, aI 2, aP (L3 2).b 1, aP (L3 4).b 1, aI 1, aI 3, aI 3, aI 3, aT, aI 3, aI 4, aS (L3 2).b 0 4 4, aI 3, aP (L3 2).b 3, aI 0, aI 1, aS (L3 2).b 0 4 4, aI 1, aP (L3 2).b 1, aI 2, aT, aT, aS b1 0 4 4, aI 1, aI 3, aI 1, aT, aT, aS (L3 2).b 0 4 4, aI 1, aS (L3 4).b 0 3 3, aI 1, aS (L3 2).b 0 4 4, aI 3, aP (L3 2).b 3, aI 0, aI 1, aI 3, aP (L3 2).b 1, aP (L3 4).b 1, aU], [.blk (b1) [aN 0, aN 100, aN 10, aN 90, aN 20, aN 81, aN 30, aN 70] 39 false, .blk ((L3 2).b) [aN 0, aN 1, aN 1, aN 0] 3 true, .blk ((L3 4).b) [aN 0, aN 3, aN 3] 3 true], []⟩)
    (fun L16 => [])
    fol (by kernel_rfl) (fun _ => by kernel_rfl) (fun L16 => trivial) (fun L16 => ?_)
  refine nrm_thn ?_
  refine aw_round ?_
  refine aw_seq ?_
  refine aw_sr [⟨.pure, [], none, true⟩, ⟨.pure, [], none, true⟩, ⟨.pure, [0, 1], none, true⟩]
    (fun L17 => ⟨[aS b1 0 4 4, aI 1, aU, aU, some (.slice none 0 0), aI 3, aS (L3 2).b 0 4 4, aS (L3 4).b 0 3 3, aI 1, aI 4, aS b1 0 4 4, aI 4, aI 3, aI 3, aI 4, aS (L3 2).b 0 4 4, aI 3, aS (L3 4).b 0 3 3, aI 3, aI 2, aI 1, aT, aI 2, aI 1, aS (L3 2).b 0 4 4, aI 1, aS (L3 4).b 0 3 3, aI 1, aS (L3 2).b 0 4 4, aI 1, aI 2, aP (L3 2).b 2, aI 1, aI 2, aI 1, aI 2, aP (L3 2).b 1, aP (L3 4).b 1, aI 1, aI 3, aI 4, aI 3, aF, aI 3, aI 4, aS (L3 2).b 0 4 4, aI 3, aP (L3 2).b 3, aI 0, aI 1, aS (L3 2).b 0 4 4, aI 1, aP (L3 2).b 1, aI 2, aT, aT, aS b1 0 4 4, aI 1, aI 3, aI 1, aT, aT, aS (L3 2).b 0 4 4, aI 1, aS (L3 4).b 0 3 3, aI 1, aS (L3 2).b 0 4 4, aI 3, aP (L3 2).b 3, aI 0, aI 1, aI 3, aP (L3 2).b 1, aP (L3 4).b 1, aU], [.blk (b1) [aN 0, aN 100, aN 10, aN 90, aN 20, aN 81, aN 30, aN 70] 39 false, .blk ((L3 2).b) [aN 0, aN 1, aN 1, aN 0] 3 true, .blk ((L3 4).b) [aN 0, aN 3, aN 3] 3 true], []⟩)
    (fun L17 => [])
    fol (by kernel_rfl) (fun _ => by kernel_rfl) (fun L17 => trivial) (fun L17 => ?_)
  refine aw_false (false) rfl rfl ?_
  refine aw_exit ?_
  refine ex_thn ?_
  refine ex_thn ?_
  refine ex_hit ?_
  refine nrm_inB ?_
  refine nrm_thn ?_
  refine aw_region [⟨.pure, [], none, true⟩, ⟨.pure, [0], none, true⟩, ⟨.pure, [0, 1], none, true⟩]
    (fun L18 => ⟨[aS b1 0 4 4, aI 1, aU, aU, some (.slice none 0 0), aI 3, aS (L3 2).b 0 4 4, aS (L3 4).b 0 3 3, aI 0, aI 4, aS b1 0 4 4, aI 4, aI 3, aI 3, aI 4, aS (L3 2).b 0 4 4, aI 3, aS (L3 4).b 0 3 3, aI 3, aI 2, aI 1, aT, aI 1, aI 0, aS (L3 2).b 0 4 4, aI 1, aS (L3 4).b 0 3 3, aI 1, aS (L3 2).b 0 4 4, aI 1, aI 2, aP (L3 2).b 2, aI 1, aI 2, aI 1, aI 2, aP (L3 2).b 1, aP (L3 4).b 1, aI 1, aI 3, aI 4, aI 3, aF, aI 3, aI 4, aS (L3 2).b 0 4 4, aI 3, aP (L3 2).b 3, aI 0, aI 1, aS (L3 2).b 0 4 4, aI 1, aP (L3 2).b 1, aI 2, aT, aT, aS b1 0 4 4, aI 1, aI 3, aI 1, aT, aT, aS (L3 2).b 0 4 4, aI 1, aS (L3 4).b 0 3 3, aI 1, aS (L3 2).b 0 4 4, aI 3, aP (L3 2).b 3, aI 0, aI 1, aI 3, aP (L3 2).b 1, aP (L3 4).b 1, aU], [.blk (b1) [aN 0, aN 100, aN 10, aN 90, aN 20, aN 81, aN 30, aN 70] 39 false, .blk ((L3 2).b) [aN 0, aN 1, aN 1, aN 0] 3 true, .blk ((L3 4).b) [aN 0, aN 3, aN 3] 3 true], []⟩)
    (fun L18 => [])
    fol (by kernel_rfl) (fun _ => by kernel_rfl) (fun L18 => trivial) (fun L18 => ?_)
  refine nrm_thn ?_
  refine aw_round ?_
  refine aw_seq ?_
  refine aw_sr [⟨.pure, [], none, true⟩, ⟨.pure, [0], none, true⟩]
    (fun L19 => ⟨[aS b1 0 4 4, aI 1, aU, aU, some (.slice none 0 0), aI 3, aS (L3 2).b 0 4 4, aS (L3 4).b 0 3 3, aI 0, aI 4, aS b1 0 4 4, aI 4, aI 3, aI 3, aI 4, aS (L3 2).b 0 4 4, aI 3, aS (L3 4).b 0 3 3, aI 3, aI 2, aI 0, aT, aI 1, aI 0, aS (L3 2).b 0 4 4, aI 1, aS (L3 4).b 0 3 3, aI 1, aS (L3 2).b 0 4 4, aI 1, aI 2, aP (L3 2).b 2, aI 1, aI 2, aI 1, aI 2, aP (L3 2).b 1, aP (L3 4).b 1, aI 1, aI 3, aI 4, aI 3, aF, aI 3, aI 4, aS (L3 2).b 0 4 4, aI 3, aP (L3 2).b 3, aI 0, aI 1, aS (L3 2).b 0 4 4, aI 1, aP (L3 2).b 1, aI 2, aT, aT, aS b1 0 4 4, aI 1, aI 3, aI 1, aT, aT, aS (L3 2).b 0 4 4, aI 1, aS (L3 4).b 0 3 3, aI 1, aS (L3 2).b 0 4 4, aI 3, aP (L3 2).b 3, aI 0, aI 1, aI 3, aP (L3 2).b 1, aP (L3 4).b 1, aU], [.blk (b1) [aN 0, aN 100, aN 10, aN 90, aN 20, aN 81, aN 30, aN 70] 39 false, .blk ((L3 2).b) [aN 0, aN 1, aN 1, aN 0] 3 true, .blk ((L3 4).b) [aN 0, aN 3, aN 3] 3 true], []⟩)
    (fun L19 => [])
    fol (by kernel_rfl) (fun _ => by kernel_rfl) (fun L19 => trivial) (fun L19 => ?_)
  refine aw_true (true) rfl rfl ?_
  refine aw_skip ?_
  refine nrm_thn ?_
  refine aw_seq ?_
  refine aw_block ?_
  refine aw_sr [⟨.pure, [], none, true⟩, ⟨.pure, [], none, true⟩, ⟨.pure, [], none, true⟩, ⟨.pure, [], none, true⟩, ⟨.pure, [], none, true⟩, ⟨.pure, [], none, true⟩, ⟨.pure, [5], none, true⟩, ⟨.pure, [4, 5, 6], none, true⟩, ⟨(.read 1), [4, 5, 6, 7], none, true⟩, ⟨.pure, [4, 5, 6, 7, 8], none, true⟩, ⟨.pure, [], none, true⟩, ⟨.pure, [10], none, true⟩, ⟨.pure, [0, 1, 4, 5, 6, 7, 8, 9], none, true⟩, ⟨(.write 1), [0, 1, 4, 5, 6, 7, 8, 9, 12], none, true⟩, ⟨.pure, [0, 1, 2, 3, 4, 5, 6, 7, 8, 9, 10, 11, 12, 13], none, true⟩, ⟨(.write 2), [0, 1, 2, 3, 4, 5, 6, 7, 8, 9, 10, 11, 12, 13, 14], none, true⟩]
    (fun L20 => ⟨[aS b1 0 4 4, aI 1, aU, aU, some (.slice none 0 0), aI 3, aS (L3 2).b 0 4 4, aS (L3 4).b 0 3 3, aI 0, aI 4, aS b1 0 4 4, aI 4, aI 3, aI 3, aI 4, aS (L3 2).b 0 4 4, aI 3, aS (L3 4).b 0 3 3, aI 3, aI 2, aI 0, aT, aI 1, aI 0, aS (L3 2).b 0 4 4, aI 0, aS (L3 4).b 0 3 3, aI 0, aS (L3 2).b 0 4 4, aI 0, aI 1, aP (L3 2).b 1, aI 1, aI 2, aI 0, aI 1, aP (L3 2).b 0, aP (L3 4).b 0, aI 1, aI 3, aI 4, aI 3, aF, aI 3, aI 4, aS (L3 2).b 0 4 4, aI 3, aP (L3 2).b 3, aI 0, aI 1, aS (L3 2).b 0 4 4, aI 1, aP (L3 2).b 1, aI 2, aT, aT, aS b1 0 4 4, aI 1, aI 3, aI 1, aT, aT, aS (L3 2).b 0 4 4, aI 1, aS (L3 4).b 0 3 3, aI 1, aS (L3 2).b 0 4 4, aI 3, aP (L3 2).b 3, aI 0, aI 1, aI 3, aP (L3 2).b 1, aP (L3 4).b 1, aU], [.blk (b1) [aN 0, aN 100, aN 10, aN 90, aN 20, aN 81, aN 30, aN 70] 39 false, .blk ((L3 2).b) [aN 2, aN 1, aN 1, aN 0] 3 true, .blk ((L3 4).b) [aN 1, aN 3, aN 3] 3 true], []⟩)
    (fun L20 => [(L3 2).b = (L3 2).b, (L3 2).b = (L3 2).b, 0 + 1 ≤ 4, 1 = 1, true = true, (L3 4).b = (L3 4).b, 0 + 1 ≤ 3, 1 = 1, true = true])
    fol (by kernel_rfl) (fun _ => by kernel_rfl) (fun L20 => ⟨rfl, rfl, (by decide), rfl, rfl, rfl, (by decide), rfl, rfl, trivial⟩) (fun L20 => ?_)
  refine aw_sr [⟨.pure, [], none, true⟩, ⟨.pure, [0], none, true⟩, ⟨.pure, [0, 1], none, true⟩]
    (fun L21 => ⟨[aS b1 0 4 4, aI 1, aU, aU, some (.slice none 0 0), aI 3, aS (L3 2).b 0 4 4, aS (L3 4).b 0 3 3, aI 0, aI 2, aS b1 0 4 4, aI 4, aI 3, aI 3, aI 4, aS (L3 2).b 0 4 4, aI 3, aS (L3 4).b 0 3 3, aI 3, aI 2, aI 0, aT, aI 1, aI 0, aS (L3 2).b 0 4 4, aI 0, aS (L3 4).b 0 3 3, aI 0, aS (L3 2).b 0 4 4, aI 0, aI 1, aP (L3 2).b 1, aI 1, aI 2, aI 0, aI 1, aP (L3 2).b 0, aP (L3 4).b 0, aI 0, aI 2, aI 4, aI 3, aF, aI 3, aI 4, aS (L3 2).b 0 4 4, aI 3, aP (L3 2).b 3, aI 0, aI 1, aS (L3 2).b 0 4 4, aI 1, aP (L3 2).b 1, aI 2, aT, aT, aS b1 0 4 4, aI 1, aI 3, aI 1, aT, aT, aS (L3 2).b 0 4 4, aI 1, aS (L3 4).b 0 3 3, aI 1, aS (L3 2).b 0 4 4, aI 3, aP (L3 2).b 3, aI 0, aI 1, aI 3, aP (L3 2).b 1, aP (L3 4).b 1, aU], [.blk (b1) [aN 0, aN 100, aN 10, aN 90, aN 20, aN 81, aN 30, aN 70] 39 false, .blk ((L3 2).b) [aN 2, aN 1, aN 1, aN 0] 3 true, .blk ((L3 4).b) [aN 1, aN 3, aN 3] 3 true], []⟩)
    (fun L21 => [])
    fol (by kernel_rfl) (fun _ => by kernel_rfl) (fun L21 => trivial) (fun L21 => ?_)
  refine aw_block ?_
  refine aw_rounds 3 ?_
  refine aw_round ?_
  refine aw_seq ?_
  refine aw_sr [⟨.pure, [], none, true⟩, ⟨.pure, [], none, true⟩, ⟨.pure, [0, 1], none, true⟩]
    (fun L22 => ⟨[aS b1 0 4 4, aI 1, aU, aU, some (.slice none 0 0), aI 3, aS (L3 2).b 0 4 4, aS (L3 4).b 0 3 3, aI 0, aI 2, aS b1 0 4 4, aI 4, aI 3, aI 3, aI 4, aS (L3 2).b 0 4 4, aI 3, aS (L3 4).b 0 3 3, aI 3, aI 2, aI 0, aT, aI 1, aI 0, aS (L3 2).b 0 4 4, aI 0, aS (L3 4).b 0 3 3, aI 0, aS (L3 2).b 0 4 4, aI 0, aI 1, aP (L3 2).b 1, aI 1, aI 2, aI 0, aI 1, aP (L3 2).b 0, aP (L3 4).b 0, aI 0, aI 2, aI 2, aI 3, aT, aI 3, aI 4, aS (L3 2).b 0 4 4, aI 3, aP (L3 2).b 3, aI 0, aI 1, aS (L3 2).b 0 4 4, aI 1, aP (L3 2).b 1, aI 2, aT, aT, aS b1 0 4 4, aI 1, aI 3, aI 1, aT, aT, aS (L3 2).b 0 4 4, aI 1, aS (L3 4).b 0 3 3, aI 1, aS (L3 2).b 0 4 4, aI 3, aP (L3 2).b 3, aI 0, aI 1, aI 3, aP (L3 2).b 1, aP (L3 4).b 1, aU], [.blk (b1) [aN 0, aN 100, aN 10, aN 90, aN 20, aN 81, aN 30, aN 70] 39 false, .blk ((L3 2).b) [aN 2, aN 1, aN 1, aN 0] 3 true, .blk ((L3 4).b) [aN 1, aN 3, aN 3] 3 true], []⟩)
    (fun L22 => [])
    fol (by kernel_rfl) (fun _ => by kernel_rfl) (fun L22 => trivial) (fun L22 => ?_)
  refine aw_true (true) rfl rfl ?_
  refine aw_skip ?_
  refine nrm_thn ?_
  refine aw_seq ?_
  refine aw_block ?_
  refine aw_sr [⟨.pure, [], none, true⟩, ⟨.pure, [], none, true⟩, ⟨.pure, [0, 1], none, true⟩, ⟨(.read 1), [0, 1, 2], none, true⟩, ⟨.pure, [0, 1, 2, 3], none, true⟩, ⟨.pure, [], none, true⟩, ⟨.pure, [], none, true⟩, ⟨.pure, [5, 6], none, true⟩, ⟨(.read 1), [5, 6, 7], none, true⟩, ⟨.pure, [0, 1, 2, 3, 4, 5, 6, 7, 8], none, true⟩, ⟨.pure, [0, 1, 2, 3, 4, 5, 6, 7, 8, 9], none, true⟩, ⟨.pure, [0, 1, 2, 3, 4, 5, 6, 7, 8, 9, 10], none, false⟩, ⟨.pure, [0, 1, 2, 3, 4, 5, 6, 7, 8, 9, 10], none, false⟩, ⟨.pure, [0, 1, 2, 3, 4, 5, 6, 7, 8, 9, 10], none, false⟩, ⟨.pure, [0, 1, 2, 3, 4, 5, 6, 7, 8, 9, 10], none, false⟩, ⟨.pure, [0, 1, 2, 3, 4, 5, 6, 7, 8, 9, 10, 11, 12, 13, 14], none, false⟩, ⟨.pure, [0, 1, 2, 3, 4, 5, 6, 7, 8, 9, 10, 11, 12, 13, 14, 15], aF, true⟩]
    (fun L23 => ⟨[aS b1 0 4 4, aI 1, aU, aU, some (.slice none 0 0), aI 3, aS (L3 2).b 0 4 4, aS (L3 4).b 0 3 3, aI 0, aI 2, aS b1 0 4 4, aI 4, aI 3, aI 3, aI 4, aS (L3 2).b 0 4 4, aI 3, aS (L3 4).b 0 3 3, aI 3, aI 2, aI 0, aT, aI 1, aI 0, aS (L3 2).b 0 4 4, aI 0, aS (L3 4).b 0 3 3, aI 0, aS (L3 2).b 0 4 4, aI 0, aI 1, aP (L3 2).b 1, aI 1, aI 2, aI 0, aI 1, aP (L3 2).b 0, aP (L3 4).b 0, aI 0, aI 2, aI 2, aI 3, aT, aI 3, aI 4, aS (L3 2).b 0 4 4, aI 2, aP (L3 2).b 2, aI 1, aI 2, aS (L3 2).b 0 4 4, aI 0, aP (L3 2).b 0, aI 2, aF, aF, aU, aU, aU, aU, aU, aF, aS (L3 2).b 0 4 4, aI 1, aS (L3 4).b 0 3 3, aI 1, aS (L3 2).b 0 4 4, aI 3, aP (L3 2).b 3, aI 0, aI 1, aI 3, aP (L3 2).b 1, aP (L3 4).b 1, aU], [.blk (b1) [aN 0, aN 100, aN 10, aN 90, aN 20, aN 81, aN 30, aN 70] 39 false, .blk ((L3 2).b) [aN 2, aN 1, aN 1, aN 0] 3 true, .blk ((L3 4).b) [aN 1, aN 3, aN 3] 3 true], []⟩)
    (fun L23 => [(L3 2).b = (L3 2).b, (L3 2).b = (L3 2).b, (false) = false, (false) = false, (false) = false, (false) = false, (false) = false, (.bool (false) : Value) = .bool (false)])
    fol (by kernel_rfl) (fun _ => by kernel_rfl) (fun L23 => ⟨rfl, rfl, rfl, rfl, rfl, rfl, rfl, rfl, trivial⟩) (fun L23 => ?_)
  refine aw_false (false) rfl rfl ?_
  refine aw_skip ?_
  refine nrm_inB ?_
  refine nrm_thn ?_
  refine aw_region [⟨.pure, [], none, true⟩, ⟨.pure, [0], none, true⟩, ⟨.pure, [0, 1], none, true⟩]
    (fun L24 => ⟨[aS b1 0 4 4, aI 1, aU, aU, some (.slice none 0 0), aI 3, aS (L3 2).b 0 4 4, aS (L3 4).b 0 3 3, aI 0, aI 3, aS b1 0 4 4, aI 4, aI 3, aI 3, aI 4, aS (L3 2).b 0 4 4, aI 3, aS (L3 4).b 0 3 3, aI 3, aI 2, aI 0, aT, aI 1, aI 0, aS (L3 2).b 0 4 4, aI 0, aS (L3 4).b 0 3 3, aI 0, aS (L3 2).b 0 4 4, aI 0, aI 1, aP (L3 2).b 1, aI 1, aI 2, aI 0, aI 1, aP (L3 2).b 0, aP (L3 4).b 0, aI 0, aI 2, aI 2, aI 3, aT, aI 2, aI 3, aS (L3 2).b 0 4 4, aI 2, aP (L3 2).b 2, aI 1, aI 2, aS (L3 2).b 0 4 4, aI 0, aP (L3 2).b 0, aI 2, aF, aF, aU, aU, aU, aU, aU, aF, aS (L3 2).b 0 4 4, aI 1, aS (L3 4).b 0 3 3, aI 1, aS (L3 2).b 0 4 4, aI 3, aP (L3 2).b 3, aI 0, aI 1, aI 3, aP (L3 2).b 1, aP (L3 4).b 1, aU], [.blk (b1) [aN 0, aN 100, aN 10, aN 90, aN 20, aN 81, aN 30, aN 70] 39 false, .blk ((L3 2).b) [aN 2, aN 1, aN 1, aN 0] 3 true, .blk ((L3 4).b) [aN 1, aN 3, aN 3] 3 true], []⟩)
    (fun L24 => [])
    fol (by kernel_rfl) (fun _ => by kernel_rfl) (fun L24 => trivial) (fun L24 => ?_)
  refine nrm_thn ?_
  refine aw_round ?_
  refine aw_seq ?_
  refine aw_sr [⟨.pure, [], none, true⟩, ⟨.pure, [], none, true⟩, ⟨.pure, [0, 1], none, true⟩]
    (fun L25 => ⟨[aS b1 0 4 4, aI 1, aU, aU, some (.slice none 0 0), aI 3, aS (L3 2).b 0 4 4, aS (L3 4).b 0 3 3, aI 0, aI 3, aS b1 0 4 4, aI 4, aI 3, aI 3, aI 4, aS (L3 2).b 0 4 4, aI 3, aS (L3 4).b 0 3 3, aI 3, aI 2, aI 0, aT, aI 1, aI 0, aS (L3 2).b 0 4 4, aI 0, aS (L3 4).b 0 3 3, aI 0, aS (L3 2).b 0 4 4, aI 0, aI 1, aP (L3 2).b 1, aI 1, aI 2, aI 0, aI 1, aP (L3 2).b 0, aP (L3 4).b 0, aI 0, aI 2, aI 3, aI 3, aT, aI 2, aI 3, aS (L3 2).b 0 4 4, aI 2, aP (L3 2).b 2, aI 1, aI 2, aS (L3 2).b 0 4 4, aI 0, aP (L3 2).b 0, aI 2, aF, aF, aU, aU, aU, aU, aU, aF, aS (L3 2).b 0 4 4, aI 1, aS (L3 4).b 0 3 3, aI 1, aS (L3 2).b 0 4 4, aI 3, aP (L3 2).b 3, aI 0, aI 1, aI 3, aP (L3 2).b 1, aP (L3 4).b 1, aU], [.blk (b1) [aN 0, aN 100, aN 10, aN 90, aN 20, aN 81, aN 30, aN 70] 39 false, .blk ((L3 2).b) [aN 2, aN 1, aN 1, aN 0] 3 true, .blk ((L3 4).b) [aN 1, aN 3, aN 3] 3 true], []⟩)
    (fun L25 => [])
    fol (by kernel_rfl) (fun _ => by kernel_rfl) (fun L25 => trivial) (fun L25 => ?_)
  refine aw_true (true) rfl rfl ?_
  refine aw_skip ?_
  refine nrm_thn ?_
  refine aw_seq ?_
  refine aw_block ?_
  refine aw_sr [⟨.pure, [], none, true⟩, ⟨.pure, [], none, true⟩, ⟨.pure, [0, 1], none, true⟩, ⟨(.read 1), [0, 1, 2], none, true⟩, ⟨.pure, [0, 1, 2, 3], none, true⟩, ⟨.pure, [], none, true⟩, ⟨.pure, [], none, true⟩, ⟨.pure, [5, 6], none, true⟩, ⟨(.read 1), [5, 6, 7], none, true⟩, ⟨.pure, [0, 1, 2, 3, 4, 5, 6, 7, 8], none, true⟩, ⟨.pure, [0, 1, 2, 3, 4, 5, 6, 7, 8, 9], none, true⟩, ⟨.pure, [0, 1, 2, 3, 4, 5, 6, 7, 8, 9, 10], none, true⟩, ⟨.pure, [0, 1, 2, 3, 4, 5, 6, 7, 8, 9, 10], none, true⟩, ⟨.pure, [0, 1, 2, 3, 4, 5, 6, 7, 8, 9, 10], none, true⟩, ⟨.pure, [0, 1, 2, 3, 4, 5, 6, 7, 8, 9, 10], none, true⟩, ⟨(.call [0] (.bool (true))), [0, 1, 2, 3, 4, 5, 6, 7, 8, 9, 10, 11, 12, 13, 14], none, true⟩, ⟨.pure, [0, 1, 2, 3, 4, 5, 6, 7, 8, 9, 10, 11, 12, 13, 14, 15], aT, true⟩]
    (fun L26 => ⟨[aS b1 0 4 4, aI 1, aU, aU, some (.slice none 0 0), aI 3, aS (L3 2).b 0 4 4, aS (L3 4).b 0 3 3, aI 0, aI 3, aS b1 0 4 4, aI 4, aI 3, aI 3, aI 4, aS (L3 2).b 0 4 4, aI 3, aS (L3 4).b 0 3 3, aI 3, aI 2, aI 0, aT, aI 1, aI 0, aS (L3 2).b 0 4 4, aI 0, aS (L3 4).b 0 3 3, aI 0, aS (L3 2).b 0 4 4, aI 0, aI 1, aP (L3 2).b 1, aI 1, aI 2, aI 0, aI 1, aP (L3 2).b 0, aP (L3 4).b 0, aI 0, aI 2, aI 3, aI 3, aT, aI 2, aI 3, aS (L3 2).b 0 4 4, aI 3, aP (L3 2).b 3, aI 0, aI 1, aS (L3 2).b 0 4 4, aI 0, aP (L3 2).b 0, aI 2, aT, aT, aS b1 0 4 4, aI 0, aI 3, aI 1, aT, aT, aS (L3 2).b 0 4 4, aI 1, aS (L3 4).b 0 3 3, aI 1, aS (L3 2).b 0 4 4, aI 3, aP (L3 2).b 3, aI 0, aI 1, aI 3, aP (L3 2).b 1, aP (L3 4).b 1, aU], [.blk (b1) [aN 0, aN 100, aN 10, aN 90, aN 20, aN 81, aN 30, aN 70] 39 false, .blk ((L3 2).b) [aN 2, aN 1, aN 1, aN 0] 3 true, .blk ((L3 4).b) [aN 1, aN 3, aN 3] 3 true], []⟩)
    (fun L26 => [(L3 2).b = (L3 2).b, (L3 2).b = (L3 2).b, (true) = true, (true) = true, (true) = true, (true) = true, (true) = true, CallOb Try.prog 131 #[.slice (some ⟨b1, 0, none⟩) (4) (4), aN 0, aN 3, aN 1] [.blk (b1) [aN 0, aN 100, aN 10, aN 90, aN 20, aN 81, aN 30, aN 70] 39 false] (.bool (true)), (.bool (true) : Value) = .bool (true)])
    fol (by kernel_rfl) (fun _ => by kernel_rfl) (fun L26 => ⟨rfl, rfl, rfl, rfl, rfl, rfl, rfl, (callOb_frz (UA.i_200 (b1) )), rfl, trivial⟩) (fun L26 => ?_)
  refine aw_true (true) rfl rfl ?_
  refine aw_region [⟨.pure, [], none, true⟩, ⟨.pure, [], none, true⟩, ⟨.pure, [], none, true⟩, ⟨.pure, [], none, true⟩, ⟨.pure, [], none, true⟩, ⟨.pure, [], none, true⟩, ⟨.pure, [4, 5], none, true⟩, ⟨(.read 1), [4, 5, 6], none, true⟩, ⟨.pure, [4, 5, 6, 7], none, true⟩, ⟨.pure, [], none, true⟩, ⟨.pure, [0, 1, 4, 5, 6, 7, 8], none, true⟩, ⟨(.write 1), [0, 1, 4, 5, 6, 7, 8, 10], none, true⟩, ⟨.pure, [0, 1, 2, 3, 4, 5, 6, 7, 8, 9, 10, 11], none, true⟩, ⟨(.write 2), [0, 1, 2, 3, 4, 5, 6, 7, 8, 9, 10, 11, 12], none, true⟩]
    (fun L27 => ⟨[aS b1 0 4 4, aI 1, aU, aU, some (.slice none 0 0), aI 3, aS (L3 2).b 0 4 4, aS (L3 4).b 0 3 3, aI 0, aI 3, aS b1 0 4 4, aI 4, aI 3, aI 3, aI 4, aS (L3 2).b 0 4 4, aI 3, aS (L3 4).b 0 3 3, aI 3, aI 2, aI 0, aT, aI 1, aI 0, aS (L3 2).b 0 4 4, aI 0, aS (L3 4).b 0 3 3, aI 0, aS (L3 2).b 0 4 4, aI 0, aI 1, aP (L3 2).b 1, aI 1, aI 2, aI 0, aI 1, aP (L3 2).b 0, aP (L3 4).b 0, aI 0, aI 2, aI 3, aI 3, aT, aI 2, aI 3, aS (L3 2).b 0 4 4, aI 3, aP (L3 2).b 3, aI 0, aI 1, aS (L3 2).b 0 4 4, aI 0, aP (L3 2).b 0, aI 2, aT, aT, aS b1 0 4 4, aI 0, aI 3, aI 1, aT, aT, aS (L3 2).b 0 4 4, aI 0, aS (L3 4).b 0 3 3, aI 0, aS (L3 2).b 0 4 4, aI 3, aP (L3 2).b 3, aI 0, aI 1, aI 3, aP (L3 2).b 0, aP (L3 4).b 0, aU], [.blk (b1) [aN 0, aN 100, aN 10, aN 90, aN 20, aN 81, aN 30, aN 70] 39 false, .blk ((L3 2).b) [aN 1, aN 1, aN 1, aN 0] 3 true, .blk ((L3 4).b) [aN 3, aN 3, aN 3] 3 true], []⟩)
    (fun L27 => [(L3 2).b = (L3 2).b, (L3 2).b = (L3 2).b, 0 + 1 ≤ 4, 1 = 1, true = true, (L3 4).b = (L3 4).b, 0 + 1 ≤ 3, 1 = 1, true = true])
    fol (by kernel_rfl) (fun _ => by kernel_rfl) (fun L27 => ⟨rfl, rfl, (by decide), rfl, rfl, rfl, (by decide), rfl, rfl, trivial⟩) (fun L27 => ?_)
  refine nrm_inB ?_
  refine nrm_thn ?_
  refine aw_region [⟨.pure, [], none, true⟩, ⟨.pure, [0], none, true⟩, ⟨.pure, [0, 1], none, true⟩]
    (fun L28 => ⟨[aS b1 0 4 4, aI 1, aU, aU, some (.slice none 0 0), aI 3, aS (L3 2).b 0 4 4, aS (L3 4).b 0 3 3, aI 0, aI 4, aS b1 0 4 4, aI 4, aI 3, aI 3, aI 4, aS (L3 2).b 0 4 4, aI 3, aS (L3 4).b 0 3 3, aI 3, aI 2, aI 0, aT, aI 1, aI 0, aS (L3 2).b 0 4 4, aI 0, aS (L3 4).b 0 3 3, aI 0, aS (L3 2).b 0 4 4, aI 0, aI 1, aP (L3 2).b 1, aI 1, aI 2, aI 0, aI 1, aP (L3 2).b 0, aP (L3 4).b 0, aI 0, aI 2, aI 3, aI 3, aT, aI 3, aI 4, aS (L3 2).b 0 4 4, aI 3, aP (L3 2).b 3, aI 0, aI 1, aS (L3 2).b 0 4 4, aI 0, aP (L3 2).b 0, aI 2, aT, aT, aS b1 0 4 4, aI 0, aI 3, aI 1, aT, aT, aS (L3 2).b 0 4 4, aI 0, aS (L3 4).b 0 3 3, aI 0, aS (L3 2).b 0 4 4, aI 3, aP (L3 2).b 3, aI 0, aI 1, aI 3, aP (L3 2).b 0, aP (L3 4).b 0, aU], [.blk (b1) [aN 0, aN 100, aN 10, aN 90, aN 20, aN 81, aN 30, aN 70] 39 false, .blk ((L3 2).b) [aN 1, aN 1, aN 1, aN 0] 3 true, .blk ((L3 4).b) [aN 3, aN 3, aN 3] 3 true], []⟩)
    (fun L28 => [])
    fol (by kernel_rfl) (fun _ => by kernel_rfl) (fun L28 => trivial) (fun L28 => ?_)
  refine nrm_thn ?_
  refine aw_round ?_
  refine aw_seq ?_
  refine aw_sr [⟨.pure, [], none, true⟩, ⟨.pure, [], none, true⟩, ⟨.pure, [0, 1], none, true⟩]
    (fun L29 => ⟨[aS b1 0 4 4, aI 1, aU, aU, some (.slice none 0 0), aI 3, aS (L3 2).b 0 4 4, aS (L3 4).b 0 3 3, aI 0, aI 4, aS b1 0 4 4, aI 4, aI 3, aI 3, aI 4, aS (L3 2).b 0 4 4, aI 3, aS (L3 4).b 0 3 3, aI 3, aI 2, aI 0, aT, aI 1, aI 0, aS (L3 2).b 0 4 4, aI 0, aS (L3 4).b 0 3 3, aI 0, aS (L3 2).b 0 4 4, aI 0, aI 1, aP (L3 2).b 1, aI 1, aI 2, aI 0, aI 1, aP (L3 2).b 0, aP (L3 4).b 0, aI 0, aI 2, aI 4, aI 3, aF, aI 3, aI 4, aS (L3 2).b 0 4 4, aI 3, aP (L3 2).b 3, aI 0, aI 1, aS (L3 2).b 0 4 4, aI 0, aP (L3 2).b 0, aI 2, aT, aT, aS b1 0 4 4, aI 0, aI 3, aI 1, aT, aT, aS (L3 2).b 0 4 4, aI 0, aS (L3 4).b 0 3 3, aI 0, aS (L3 2).b 0 4 4, aI 3, aP (L3 2).b 3, aI 0, aI 1, aI 3, aP (L3 2).b 0, aP (L3 4).b 0, aU], [.blk (b1) [aN 0, aN 100, aN 10, aN 90, aN 20, aN 81, aN 30, aN 70] 39 false, .blk ((L3 2).b) [aN 1, aN 1, aN 1, aN 0] 3 true, .blk ((L3 4).b) [aN 3, aN 3, aN 3] 3 true], []⟩)
    (fun L29 => [])
    fol (by kernel_rfl) (fun _ => by kernel_rfl) (fun L29 => trivial) (fun L29 => ?_)
  refine aw_false (false) rfl rfl ?_
  refine aw_exit ?_
  refine ex_thn ?_
  refine ex_thn ?_
  refine ex_hit ?_
  refine nrm_inB ?_
  refine nrm_thn ?_
  refine aw_region [⟨.pure, [], none, true⟩, ⟨.pure, [0], none, true⟩, ⟨.pure, [0, 1], none, true⟩]
    (fun L30 => ⟨[aS b1 0 4 4, aI 1, aU, aU, some (.slice none 0 0), aI 3, aS (L3 2).b 0 4 4, aS (L3 4).b 0 3 3, aI (-1), aI 4, aS b1 0 4 4, aI 4, aI 3, aI 3, aI 4, aS (L3 2).b 0 4 4, aI 3, aS (L3 4).b 0 3 3, aI 3, aI 2, aI 0, aT, aI 0, aI (-1), aS (L3 2).b 0 4 4, aI 0, aS (L3 4).b 0 3 3, aI 0, aS (L3 2).b 0 4 4, aI 0, aI 1, aP (L3 2).b 1, aI 1, aI 2, aI 0, aI 1, aP (L3 2).b 0, aP (L3 4).b 0, aI 0, aI 2, aI 4, aI 3, aF, aI 3, aI 4, aS (L3 2).b 0 4 4, aI 3, aP (L3 2).b 3, aI 0, aI 1, aS (L3 2).b 0 4 4, aI 0, aP (L3 2).b 0, aI 2, aT, aT, aS b1 0 4 4, aI 0, aI 3, aI 1, aT, aT, aS (L3 2).b 0 4 4, aI 0, aS (L3 4).b 0 3 3, aI 0, aS (L3 2).b 0 4 4, aI 3, aP (L3 2).b 3, aI 0, aI 1, aI 3, aP (L3 2).b 0, aP (L3 4).b 0, aU], [.blk (b1) [aN 0, aN 100, aN 10, aN 90, aN 20, aN 81, aN 30, aN 70] 39 false, .blk ((L3 2).b) [aN 1, aN 1, aN 1, aN 0] 3 true, .blk ((L3 4).b) [aN 3, aN 3, aN 3] 3 true], []⟩)
    (fun L30 => [])
    fol (by kernel_rfl) (fun _ => by kernel_rfl) (fun L30 => trivial) (fun L30 => ?_)
  refine nrm_thn ?_
  refine aw_round ?_
  refine aw_seq ?_
  refine aw_sr [⟨.pure, [], none, true⟩, ⟨.pure, [0], none, true⟩]
    (fun L31 => ⟨[aS b1 0 4 4, aI 1, aU, aU, some (.slice none 0 0), aI 3, aS (L3 2).b 0 4 4, aS (L3 4).b 0 3 3, aI (-1), aI 4, aS b1 0 4 4, aI 4, aI 3, aI 3, aI 4, aS (L3 2).b 0 4 4, aI 3, aS (L3 4).b 0 3 3, aI 3, aI 2, aI (-1), aF, aI 0, aI (-1), aS (L3 2).b 0 4 4, aI 0, aS (L3 4).b 0 3 3, aI 0, aS (L3 2).b 0 4 4, aI 0, aI 1, aP (L3 2).b 1, aI 1, aI 2, aI 0, aI 1, aP (L3 2).b 0, aP (L3 4).b 0, aI 0, aI 2, aI 4, aI 3, aF, aI 3, aI 4, aS (L3 2).b 0 4 4, aI 3, aP (L3 2).b 3, aI 0, aI 1, aS (L3 2).b 0 4 4, aI 0, aP (L3 2).b 0, aI 2, aT, aT, aS b1 0 4 4, aI 0, aI 3, aI 1, aT, aT, aS (L3 2).b 0 4 4, aI 0, aS (L3 4).b 0 3 3, aI 0, aS (L3 2).b 0 4 4, aI 3, aP (L3 2).b 3, aI 0, aI 1, aI 3, aP (L3 2).b 0, aP (L3 4).b 0, aU], [.blk (b1) [aN 0, aN 100, aN 10, aN 90, aN 20, aN 81, aN 30, aN 70] 39 false, .blk ((L3 2).b) [aN 1, aN 1, aN 1, aN 0] 3 true, .blk ((L3 4).b) [aN 3, aN 3, aN 3] 3 true], []⟩)
    (fun L31 => [])
    fol (by kernel_rfl) (fun _ => by kernel_rfl) (fun L31 => trivial) (fun L31 => ?_)
  refine aw_false (false) rfl rfl ?_
  refine aw_exit ?_
  refine ex_thn ?_
  refine ex_thn ?_
  refine ex_hit ?_
  refine nrm_thn ?_
  refine aw_sr [⟨.pure, [], none, true⟩, ⟨.pure, [0], none, true⟩]
    (fun L32 => ⟨[aS b1 0 4 4, aI 1, aU, aU, aS (L3 4).b 0 3 3, aI 3, aS (L3 2).b 0 4 4, aS (L3 4).b 0 3 3, aI (-1), aI 4, aS b1 0 4 4, aI 4, aI 3, aI 3, aI 4, aS (L3 2).b 0 4 4, aI 3, aS (L3 4).b 0 3 3, aI 3, aI 2, aI (-1), aF, aI 0, aI (-1), aS (L3 2).b 0 4 4, aI 0, aS (L3 4).b 0 3 3, aI 0, aS (L3 2).b 0 4 4, aI 0, aI 1, aP (L3 2).b 1, aI 1, aI 2, aI 0, aI 1, aP (L3 2).b 0, aP (L3 4).b 0, aI 0, aI 2, aI 4, aI 3, aF, aI 3, aI 4, aS (L3 2).b 0 4 4, aI 3, aP (L3 2).b 3, aI 0, aI 1, aS (L3 2).b 0 4 4, aI 0, aP (L3 2).b 0, aI 2, aT, aT, aS b1 0 4 4, aI 0, aI 3, aI 1, aT, aT, aS (L3 2).b 0 4 4, aI 0, aS (L3 4).b 0 3 3, aI 0, aS (L3 2).b 0 4 4, aI 3, aP (L3 2).b 3, aI 0, aI 1, aI 3, aP (L3 2).b 0, aP (L3 4).b 0, aS (L3 4).b 0 3 3], [.blk (b1) [aN 0, aN 100, aN 10, aN 90, aN 20, aN 81, aN 30, aN 70] 39 false, .blk ((L3 2).b) [aN 1, aN 1, aN 1, aN 0] 3 true, .blk ((L3 4).b) [aN 3, aN 3, aN 3] 3 true], []⟩)
    (fun L32 => [])
    fol (by kernel_rfl) (fun _ => by kernel_rfl) (fun L32 => trivial) (fun L32 => ?_)
  refine aw_ret ?_
  exact fin_new none [0] (.slice (some ⟨(L3 4).b, 0, none⟩) (3) (3)) [] (⟨(L3 4).b, none, 0⟩) (fun l => .slice (some ⟨l.b, 0, none⟩) (3) (3)) (fun l => .blk (l.b) [aN 3, aN 3, aN 3] 3 true) 2 (.inr rfl) rfl (by kernel_rfl) trivial rfl rfl rfl

-- couplant/tune.Thinned
set_option maxRecDepth 100000 in
set_option maxHeartbeats 400000 in
theorem UA.i_202 (b1 : Nat) : CallN Try.prog 30 #[.slice (some ⟨b1, 0, none⟩) (4) (4), aN 1] [.blk (b1) [aN 0, aN 100, aN 10, aN 90, aN 20, aN 81, aN 30, aN 70] 39 false] (fun l => .tuple #[.slice (l.a) (2) (l.n), aN 0]) (fun l => .row (l.a) (2) (l.n) 1 [aN 0, aN 3] 3 true) := by
  intro w hw
  refine calls_aw [aS b1 0 4 4, aI 1, aU, aU, aU, aU, aU, aU, aU, aU, aU, aU, aU, aU, aU, aU, aU, aU, aU, aU, aU, aU, aU, aU, aU, aU, aU, aU, aU, aU, aU, aU, aU, aU, aU, aU, aU, aU, aU, aU, aU] [.blk (b1) [aN 0, aN 100, aN 10, aN 90, aN 20, aN 81, aN 30, aN 70] 39 false] Try.func30 rfl (by kernel_rfl) (esOk hw (by simp [Cel.mine])) ?_
  refine aw_sr [⟨.pure, [], none, true⟩, ⟨.pure, [0], none, true⟩]
    (fun L1 => ⟨[aS b1 0 4 4, aI 1, aU, aU, some (.slice none 0 0), aI 0, aU, aU, aU, aU, aU, aU, aU, aU, aU, aU, aU, aU, aU, aU, aU, aU, aU, aU, aU, aU, aU, aU, aU, aU, aU, aU, aU, aU, aU, aU, aU, aU, aU, aU, aU], [.blk (b1) [aN 0, aN 100, aN 10, aN 90, aN 20, aN 81, aN 30, aN 70] 39 false], []⟩)
    (fun L1 => [])
    fol (by kernel_rfl) (fun _ => by kernel_rfl) (fun L1 => trivial) (fun L1 => ?_)
  refine aw_sr [⟨.pure, [], none, true⟩, ⟨(.call [0] (.tuple #[aN 0, aN 0])), [0], none, true⟩, ⟨.pure, [0, 1], none, true⟩, ⟨.pure, [0, 1, 2], none, true⟩, ⟨.pure, [0, 1, 2], none, true⟩, ⟨.pure, [0, 1, 2, 3], none, true⟩, ⟨.pure, [0, 1, 2, 3, 4, 5], none, true⟩]
    (fun L2 => ⟨[aS b1 0 4 4, aI 1, aU, aU, some (.slice none 0 0), aI 0, aI 0, aI 0, aU, aU, aU, some (.tuple #[aN 0, aN 0]), aS b1 0 4 4, some (.tuple #[aN 0, aN 0]), aI 0, aI 0, aU, aU, aU, aU, aU, aU, aU, aU, aU, aU, aU, aU, aU, aU, aU, aU, aU, aU, aU, aU, aU, aU, aU, aU, aU], [.blk (b1) [aN 0, aN 100, aN 10, aN 90, aN 20, aN 81, aN 30, aN 70] 39 false], []⟩)
    (fun L2 => [CallOb Try.prog 19 #[.slice (some ⟨b1, 0, none⟩) (4) (4)] [.blk (b1) [aN 0, aN 100, aN 10, aN 90, aN 20, aN 81, aN 30, aN 70] 39 false] (.tuple #[aN 0, aN 0])])
    fol (by kernel_rfl) (fun _ => by kernel_rfl) (fun L2 => ⟨(callOb_frz (UA.i_175 (b1) )), trivial⟩) (fun L2 => ?_)
  refine aw_seq ?_
  refine aw_sr [⟨.pure, [], none, true⟩, ⟨.pure, [], none, true⟩, ⟨(.call [] (aN 0)), [1], none, true⟩, ⟨.new, [0, 1, 2], none, true⟩, ⟨(.call [4] (aN 0)), [0, 1, 2, 3], none, true⟩, ⟨.pure, [0, 1, 2, 3, 4], none, true⟩]
    (fun L3 => ⟨[aS b1 0 4 4, aI 1, aU, aU, some (.slice none 0 0), aI 0, aI 0, aI 0, aU, aU, aU, some (.tuple #[aN 0, aN 0]), aS b1 0 4 4, some (.tuple #[aN 0, aN 0]), aI 0, aI 0, aI 0, aI 1, aI 0, aS (L3 3).b 0 2 2, aI 0, aU, aU, aU, aU, aU, aU, aU, aU, aU, aU, aU, aU, aU, aU, aU, aU, aU, aU, aU, aU], [.blk (b1) [aN 0, aN 100, aN 10, aN 90, aN 20, aN 81, aN 30, aN 70] 39 false, .blk ((L3 3).b) [aN 0, aN 0] 25 true], []⟩)
    (fun L3 => [CallOb Try.prog 79 #[aN 1, aN 0, aN 1000000] [] (aN 0), CallOb Try.prog 78 #[.slice (some ⟨(L3 3).b, 0, none⟩) (2) (2)] [.blk ((L3 3).b) [aN 0, aN 0] 25 true] (aN 0)])
    fol (by kernel_rfl) (fun _ => by kernel_rfl) (fun L3 => ⟨(callOb_frz (UA.i_177  )), (callOb_frz (UA.i_3 ((L3 3).b) )), trivial⟩) (fun L3 => ?_)
  refine aw_sr [⟨.pure, [], none, true⟩, ⟨.pure, [0], none, true⟩]
    (fun L4 => ⟨[aS b1 0 4 4, aI 1, aU, aU, some (.slice none 0 0), aI 0, aI 0, aI 0, aU, aU, aU, some (.tuple #[aN 0, aN 0]), aS b1 0 4 4, some (.tuple #[aN 0, aN 0]), aI 0, aI 0, aI 0, aI 1, aI 0, aS (L3 3).b 0 2 2, aI 0, aI 0, aF, aU, aU, aU, aU, aU, aU, aU, aU, aU, aU, aU, aU, aU, aU, aU, aU, aU, aU], [.blk (b1) [aN 0, aN 100, aN 10, aN 90, aN 20, aN 81, aN 30, aN 70] 39 false, .blk ((L3 3).b) [aN 0, aN 0] 25 true], []⟩)
    (fun L4 => [])
    fol (by kernel_rfl) (fun _ => by kernel_rfl) (fun L4 => trivial) (fun L4 => ?_)
  refine aw_false (false) rfl rfl ?_
  refine aw_skip ?_
  refine nrm_thn ?_
  refine aw_sr [⟨.pure, [], none, true⟩, ⟨.pure, [], none, true⟩, ⟨(.callN [0] (fun l => .slice (some ⟨l.b, 0, none⟩) (3) (3)) (fun l => .blk (l.b) [aN 3, aN 3, aN 3] 3 true)), [0, 1], none, true⟩, ⟨.pure, [0, 1, 2], none, true⟩]
    (fun L5 => ⟨[aS b1 0 4 4, aI 1, aU, aU, some (.slice none 0 0), aI 0, aI 0, aI 0, aS (L5 2).b 0 3 3, aU, aU, some (.tuple #[aN 0, aN 0]), aS b1 0 4 4, some (.tuple #[aN 0, aN 0]), aI 0, aI 0, aI 0, aI 1, aI 0, aS (L3 3).b 0 2 2, aI 0, aI 0, aF, aU, aS b1 0 4 4, aI 1, aS (L5 2).b 0 3 3, aU, aU, aU, aU, aU, aU, aU, aU, aU, aU, aU, aU, aU, aU], [.blk (b1) [aN 0, aN 100, aN 10, aN 90, aN 20, aN 81, aN 30, aN 70] 39 false, .blk ((L3 3).b) [aN 0, aN 0] 25 true, .blk ((L5 2).b) [aN 3, aN 3, aN 3] 3 true], []⟩)
    (fun L5 => [CallN Try.prog 87 #[.slice (some ⟨b1, 0, none⟩) (4) (4), aN 1] [.blk (b1) [aN 0, aN 100, aN 10, aN 90, aN 20, aN 81, aN 30, aN 70] 39 false] (fun l => .slice (some ⟨l.b, 0, none⟩) (3) (3)) (fun l => .blk (l.b) [aN 3, aN 3, aN 3] 3 true)])
    fol (by kernel_rfl) (fun _ => by kernel_rfl) (fun L5 => ⟨(callN_frz (UA.i_201 (b1) )), trivial⟩) (fun L5 => ?_)
  refine aw_sr [⟨.new, [], none, true⟩, ⟨.pure, [0], none, true⟩]
    (fun L6 => ⟨[aS b1 0 4 4, aI 1, aU, aU, some (.slice none 0 0), aI 0, aI 0, aI 0, aS (L5 2).b 0 3 3, aS (L6 0).b 0 1 1, aU, some (.tuple #[aN 0, aN 0]), aS b1 0 4 4, some (.tuple #[aN 0, aN 0]), aI 0, aI 0, aI 0, aI 1, aI 0, aS (L3 3).b 0 2 2, aI 0, aI 0, aF, aU, aS b1 0 4 4, aI 1, aS (L5 2).b 0 3 3, aS (L6 0).b 0 1 1, aU, aU, aU, aU, aU, aU, aU, aU, aU, aU, aU, aU, aU], [.blk (b1) [aN 0, aN 100, aN 10, aN 90, aN 20, aN 81, aN 30, aN 70] 39 false, .blk ((L3 3).b) [aN 0, aN 0] 25 true, .blk ((L5 2).b) [aN 3, aN 3, aN 3] 3 true, .blk ((L6 0).b) [aN 0] 3 true], []⟩)
    (fun L6 => [])
    fol (by kernel_rfl) (fun _ => by kernel_rfl) (fun L6 => trivial) (fun L6 => ?_)
  refine aw_seq ?_
  refine aw_sr [⟨.pure, [], none, true⟩]
    (fun L7 => ⟨[aS b1 0 4 4, aI 1, aU, aU, some (.slice none 0 0), aI 0, aI 0, aI 0, aS (L5 2).b 0 3 3, aS (L6 0).b 0 1 1, aI 0, some (.tuple #[aN 0, aN 0]), aS b1 0 4 4, some (.tuple #[aN 0, aN 0]), aI 0, aI 0, aI 0, aI 1, aI 0, aS (L3 3).b 0 2 2, aI 0, aI 0, aF, aU, aS b1 0 4 4, aI 1, aS (L5 2).b 0 3 3, aS (L6 0).b 0 1 1, aU, aU, aU, aU, aU, aU, aU, aU, aU, aU, aU, aU, aU], [.blk (b1) [aN 0, aN 100, aN 10, aN 90, aN 20, aN 81, aN 30, aN 70] 39 false, .blk ((L3 3).b) [aN 0, aN 0] 25 true, .blk ((L5 2).b) [aN 3, aN 3, aN 3] 3 true, .blk ((L6 0).b) [aN 0] 3 true], []⟩)
    (fun L7 => [])
    fol (by kernel_rfl) (fun _ => by kernel_rfl) (fun L7 => trivial) (fun L7 => ?_)
  refine aw_block ?_
  refine aw_rounds 2 ?_
  refine aw_round ?_
  refine aw_seq ?_
  refine aw_sr [⟨.pure, [], none, true⟩, ⟨.pure, [], none, true⟩, ⟨.pure, [1], none, true⟩, ⟨.pure, [0, 1, 2], none, true⟩]
    (fun L8 => ⟨[aS b1 0 4 4, aI 1, aU, aU, some (.slice none 0 0), aI 0, aI 0, aI 0, aS (L5 2).b 0 3 3, aS (L6 0).b 0 1 1, aI 0, some (.tuple #[aN 0, aN 0]), aS b1 0 4 4, some (.tuple #[aN 0, aN 0]), aI 0, aI 0, aI 0, aI 1, aI 0, aS (L3 3).b 0 2 2, aI 0, aI 0, aF, aU, aS b1 0 4 4, aI 1, aS (L5 2).b 0 3 3, aS (L6 0).b 0 1 1, aI 0, aS (L5 2).b 0 3 3, aI 3, aT, aU, aU, aU, aU, aU, aU, aU, aU, aU], [.blk (b1) [aN 0, aN 100, aN 10, aN 90, aN 20, aN 81, aN 30, aN 70] 39 false, .blk ((L3 3).b) [aN 0, aN 0] 25 true, .blk ((L5 2).b) [aN 3, aN 3, aN 3] 3 true, .blk ((L6 0).b) [aN 0] 3 true], []⟩)
    (fun L8 => [])
    fol (by kernel_rfl) (fun _ => by kernel_rfl) (fun L8 => trivial) (fun L8 => ?_)
  refine aw_true (true) rfl rfl ?_
  refine aw_skip ?_
  refine nrm_thn ?_
  refine aw_block ?_
  refine aw_sr [⟨.pure, [], none, true⟩, ⟨.pure, [], none, true⟩, ⟨.pure, [0, 1], none, true⟩, ⟨(.read 2), [0, 1, 2], none, true⟩, ⟨.pure, [0, 1, 2, 3], none, true⟩]
    (fun L9 => ⟨[aS b1 0 4 4, aI 1, aU, aU, some (.slice none 0 0), aI 0, aI 0, aI 0, aS (L5 2).b 0 3 3, aS (L6 0).b 0 1 1, aI 3, some (.tuple #[aN 0, aN 0]), aS b1 0 4 4, some (.tuple #[aN 0, aN 0]), aI 0, aI 0, aI 0, aI 1, aI 0, aS (L3 3).b 0 2 2, aI 0, aI 0, aF, aU, aS b1 0 4 4, aI 1, aS (L5 2).b 0 3 3, aS (L6 0).b 0 1 1, aI 0, aS (L5 2).b 0 3 3, aI 3, aT, aS (L5 2).b 0 3 3, aI 0, aP (L5 2).b 0, aI 3, aU, aU, aU, aU, aU], [.blk (b1) [aN 0, aN 100, aN 10, aN 90, aN 20, aN 81, aN 30, aN 70] 39 false, .blk ((L3 3).b) [aN 0, aN 0] 25 true, .blk ((L5 2).b) [aN 3, aN 3, aN 3] 3 true, .blk ((L6 0).b) [aN 0] 3 true], []⟩)
    (fun L9 => [(L5 2).b = (L5 2).b])
    fol (by kernel_rfl) (fun _ => by kernel_rfl) (fun L9 => ⟨rfl, trivial⟩) (fun L9 => ?_)
  refine aw_weak (σ' := ⟨[aS b1 0 4 4, aI 1, aU, aU, some (.slice none 0 0), aI 0, aI 0, aI 0, aS (L5 2).b 0 3 3, aS (L6 0).b 0 1 1, aI 3, some (.tuple #[aN 0, aN 0]), aS b1 0 4 4, some (.tuple #[aN 0, aN 0]), aI 0, aI 0, aI 0, aI 1, aI 0, aS (L3 3).b 0 2 2, aI 0, aI 0, aF, aU, aS b1 0 4 4, aI 1, aS (L5 2).b 0 3 3, aS (L6 0).b 0 1 1, aI 0, aS (L5 2).b 0 3 3, aI 3, aT, aS (L5 2).b 0 3 3, aI 0, aP (L5 2).b 0, aI 3, aU, aU, aU, aU, aU], [.blk (b1) [aN 0, aN 100, aN 10, aN 90, aN 20, aN 81, aN 30, aN 70] 39 false, .blk ((L3 3).b) [aN 0, aN 0] 25 true, .blk ((L5 2).b) [aN 3, aN 3, aN 3] 3 true, .row (some ⟨(L6 0).b, 0, none⟩) (1) (1) 1 [aN 0] 3 true], []⟩) (weak_asrow 3 (L6 0).b 1 1 1 [aN 0] [aN 0] 3 true (by kernel_rfl) (by decide) (by decide) rfl (by kernel_rfl) (by decide) (by kernel_rfl)) ?_
  refine aw_region [⟨.pure, [], none, true⟩, ⟨.pure, [], none, true⟩, ⟨.new, [1], none, true⟩, ⟨(.app 3 6), [0, 1, 2], none, true⟩, ⟨.pure, [0, 1, 2, 3], none, true⟩]
    (fun L11 => ⟨[aS b1 0 4 4, aI 1, aU, aU, some (.slice none 0 0), aI 0, aI 0, aI 0, aS (L5 2).b 0 3 3, some (.slice ((L11 3).a) (2) ((L11 3).n)), aI 3, some (.tuple #[aN 0, aN 0]), aS b1 0 4 4, some (.tuple #[aN 0, aN 0]), aI 0, aI 0, aI 0, aI 1, aI 0, aS (L3 3).b 0 2 2, aI 0, aI 0, aF, aU, aS b1 0 4 4, aI 1, aS (L5 2).b 0 3 3, aS (L6 0).b 0 1 1, aI 0, aS (L5 2).b 0 3 3, aI 3, aT, aS (L5 2).b 0 3 3, aI 0, aP (L5 2).b 0, aI 3, aS (L6 0).b 0 1 1, aI 3, aS (L11 2).b 0 1 1, some (.slice ((L11 3).a) (2) ((L11 3).n)), aU], [.blk (b1) [aN 0, aN 100, aN 10, aN 90, aN 20, aN 81, aN 30, aN 70] 39 false, .blk ((L3 3).b) [aN 0, aN 0] 25 true, .blk ((L5 2).b) [aN 3, aN 3, aN 3] 3 true, .row ((L11 3).a) (2) ((L11 3).n) 1 [aN 0, aN 3] 3 true, .blk ((L11 2).b) [aN 3] 3 true], []⟩)
    (fun L11 => [46 = 46, 3 = 3, (some ⟨(L6 0).b, 0, none⟩ : Option Addr) = some ⟨(L6 0).b, 0, none⟩, 1 = 1, 1 = 1, (L11 2).b = (L11 2).b, 1 = 1, some 1 = some 1, 0 < 1, 0 + 1 * 1 ≤ 1, ∀ u ∈ ([aN 3] : List Value), u.oneCell' = true, 1 + 1 ≤ maxLen, (1 + 1) * 8 ≤ 140737488355328])
    fol (by kernel_rfl) (fun _ => by kernel_rfl) (fun L11 => ⟨rfl, rfl, rfl, rfl, rfl, rfl, rfl, rfl, (by decide), (by decide), (by simp [Value.oneCell']), (by unfold maxLen; decide), (by decide), trivial⟩) (fun L11 => ?_)
  refine nrm_inB ?_
  refine nrm_thn ?_
  refine aw_round ?_
  refine aw_seq ?_
  refine aw_sr [⟨.pure, [], none, true⟩, ⟨.pure, [], none, true⟩, ⟨.pure, [1], none, true⟩, ⟨.pure, [0, 1, 2], none, true⟩]
    (fun L12 => ⟨[aS b1 0 4 4, aI 1, aU, aU, some (.slice none 0 0), aI 0, aI 0, aI 0, aS (L5 2).b 0 3 3, some (.slice ((L11 3).a) (2) ((L11 3).n)), aI 3, some (.tuple #[aN 0, aN 0]), aS b1 0 4 4, some (.tuple #[aN 0, aN 0]), aI 0, aI 0, aI 0, aI 1, aI 0, aS (L3 3).b 0 2 2, aI 0, aI 0, aF, aU, aS b1 0 4 4, aI 1, aS (L5 2).b 0 3 3, aS (L6 0).b 0 1 1, aI 3, aS (L5 2).b 0 3 3, aI 3, aF, aS (L5 2).b 0 3 3, aI 0, aP (L5 2).b 0, aI 3, aS (L6 0).b 0 1 1, aI 3, aS (L11 2).b 0 1 1, some (.slice ((L11 3).a) (2) ((L11 3).n)), aU], [.blk (b1) [aN 0, aN 100, aN 10, aN 90, aN 20, aN 81, aN 30, aN 70] 39 false, .blk ((L3 3).b) [aN 0, aN 0] 25 true, .blk ((L5 2).b) [aN 3, aN 3, aN 3] 3 true, .row ((L11 3).a) (2) ((L11 3).n) 1 [aN 0, aN 3] 3 true, .blk ((L11 2).b) [aN 3] 3 true], []⟩)
    (fun L12 => [])
    fol (by kernel_rfl) (fun _ => by kernel_rfl) (fun L12 => trivial) (fun L12 => ?_)
  refine aw_false (false) rfl rfl ?_
  refine aw_exit ?_
  refine ex_thn ?_
  refine ex_thn ?_
  refine ex_hit ?_
  refine nrm_thn ?_
  refine aw_sr [⟨.pure, [], none, true⟩, ⟨.pure, [0], none, true⟩, ⟨.pure, [0, 1], none, true⟩]
    (fun L13 => ⟨[aS b1 0 4 4, aI 1, aU, aU, some (.slice ((L11 3).a) (2) ((L11 3).n)), aI 0, aI 0, aI 0, aS (L5 2).b 0 3 3, some (.slice ((L11 3).a) (2) ((L11 3).n)), aI 3, some (.tuple #[aN 0, aN 0]), aS b1 0 4 4, some (.tuple #[aN 0, aN 0]), aI 0, aI 0, aI 0, aI 1, aI 0, aS (L3 3).b 0 2 2, aI 0, aI 0, aF, aU, aS b1 0 4 4, aI 1, aS (L5 2).b 0 3 3, aS (L6 0).b 0 1 1, aI 3, aS (L5 2).b 0 3 3, aI 3, aF, aS (L5 2).b 0 3 3, aI 0, aP (L5 2).b 0, aI 3, aS (L6 0).b 0 1 1, aI 3, aS (L11 2).b 0 1 1, some (.slice ((L11 3).a) (2) ((L11 3).n)), some (.slice ((L11 3).a) (2) ((L11 3).n))], [.blk (b1) [aN 0, aN 100, aN 10, aN 90, aN 20, aN 81, aN 30, aN 70] 39 false, .blk ((L3 3).b) [aN 0, aN 0] 25 true, .blk ((L5 2).b) [aN 3, aN 3, aN 3] 3 true, .row ((L11 3).a) (2) ((L11 3).n) 1 [aN 0, aN 3] 3 true, .blk ((L11 2).b) [aN 3] 3 true], []⟩)
    (fun L13 => [])
    fol (by kernel_rfl) (fun _ => by kernel_rfl) (fun L13 => trivial) (fun L13 => ?_)
  refine aw_ret ?_
  exact fin_new none [0, 0] (.tuple #[.slice ((L11 3).a) (2) ((L11 3).n), aN 0]) [] (⟨0, (L11 3).a, (L11 3).n⟩) (fun l => .tuple #[.slice (l.a) (2) (l.n), aN 0]) (fun l => .row (l.a) (2) (l.n) 1 [aN 0, aN 3] 3 true) 3 (.inr rfl) rfl (by kernel_rfl) trivial rfl rfl rfl

-- couplant/couplantbase.Ints
set_option maxRecDepth 100000 in
set_option maxHeartbeats 400000 in
theorem UA.i_203 (b1 b2 : Nat) (c1 : Nat) : CallOb Try.prog 32 #[.slice (some ⟨b1, 0, none⟩) (2) (c1), .slice (some ⟨b2, 0, none⟩) (2) (2)] [.row (some ⟨b1, 0, none⟩) (2) (c1) 1 [aN 0, aN 3] 3 false, .blk (b2) [aN 0, aN 3] 3 false] (.bool (true)) := by
  intro w hw
  refine calls_aw [aS b1 0 2 c1, aS b2 0 2 2, aU, aU, aU, aU, aU, aU, aU, aU, aU, aU, aU, aU, aU, aU, aU, aU, aU, aU, aU, aU, aU, aU, aU, aU] [.row (some ⟨b1, 0, none⟩) (2) (c1) 1 [aN 0, aN 3] 3 false, .blk (b2) [aN 0, aN 3] 3 false] Try.func32 rfl (by kernel_rfl) (esOk hw (by simp [Cel.mine])) ?_
  refine aw_sr [⟨.pure, [], none, true⟩]
    (fun L1 => ⟨[aS b1 0 2 c1, aS b2 0 2 2, aU, aU, aF, aU, aU, aU, aU, aU, aU, aU, aU, aU, aU, aU, aU, aU, aU, aU, aU, aU, aU, aU, aU, aU], [.row (some ⟨b1, 0, none⟩) (2) (c1) 1 [aN 0, aN 3] 3 false, .blk (b2) [aN 0, aN 3] 3 false], []⟩)
    (fun L1 => [])
    fol (by kernel_rfl) (fun _ => by kernel_rfl) (fun L1 => trivial) (fun L1 => ?_)
  refine aw_seq ?_
  refine aw_sr [⟨.pure, [], none, true⟩, ⟨.pure, [0], none, true⟩, ⟨.pure, [], none, true⟩, ⟨.pure, [2], none, true⟩, ⟨.pure, [0, 1, 2, 3], none, true⟩]
    (fun L2 => ⟨[aS b1 0 2 c1, aS b2 0 2 2, aU, aU, aF, aU, aS b1 0 2 c1, aI 2, aS b2 0 2 2, aI 2, aF, aU, aU, aU, aU, aU, aU, aU, aU, aU, aU, aU, aU, aU, aU, aU], [.row (some ⟨b1, 0, none⟩) (2) (c1) 1 [aN 0, aN 3] 3 false, .blk (b2) [aN 0, aN 3] 3 false], []⟩)
    (fun L2 => [])
    fol (by kernel_rfl) (fun _ => by kernel_rfl) (fun L2 => trivial) (fun L2 => ?_)
  refine aw_false (false) rfl rfl ?_
  refine aw_skip ?_
  refine nrm_thn ?_
  refine aw_seq ?_
  refine aw_sr [⟨.pure, [], none, true⟩]
    (fun L3 => ⟨[aS b1 0 2 c1, aS b2 0 2 2, aU, aU, aF, aI 0, aS b1 0 2 c1, aI 2, aS b2 0 2 2, aI 2, aF, aU, aU, aU, aU, aU, aU, aU, aU, aU, aU, aU, aU, aU, aU, aU], [.row (some ⟨b1, 0, none⟩) (2) (c1) 1 [aN 0, aN 3] 3 false, .blk (b2) [aN 0, aN 3] 3 false], []⟩)
    (fun L3 => [])
    fol (by kernel_rfl) (fun _ => by kernel_rfl) (fun L3 => trivial) (fun L3 => ?_)
  refine aw_block ?_
  refine aw_rounds 3 ?_
  refine aw_round ?_
  refine aw_seq ?_
  refine aw_sr [⟨.pure, [], none, true⟩, ⟨.pure, [], none, true⟩, ⟨.pure, [1], none, true⟩, ⟨.pure, [0, 1, 2], none, true⟩]
    (fun L4 => ⟨[aS b1 0 2 c1, aS b2 0 2 2, aU, aU, aF, aI 0, aS b1 0 2 c1, aI 2, aS b2 0 2 2, aI 2, aF, aI 0, aS b1 0 2 c1, aI 2, aT, aU, aU, aU, aU, aU, aU, aU, aU, aU, aU, aU], [.row (some ⟨b1, 0, none⟩) (2) (c1) 1 [aN 0, aN 3] 3 false, .blk (b2) [aN 0, aN 3] 3 false], []⟩)
    (fun L4 => [])
    fol (by kernel_rfl) (fun _ => by kernel_rfl) (fun L4 => trivial) (fun L4 => ?_)
  refine aw_true (true) rfl rfl ?_
  refine aw_skip ?_
  refine nrm_thn ?_
  refine aw_seq ?_
  refine aw_block ?_
  refine aw_sr [⟨.pure, [], none, true⟩, ⟨.pure, [], none, true⟩, ⟨.pure, [0, 1], none, true⟩, ⟨(.read 0), [0, 1, 2], none, true⟩, ⟨.pure, [], none, true⟩, ⟨.pure, [], none, true⟩, ⟨.pure, [4, 5], none, true⟩, ⟨(.read 1), [4, 5, 6], none, true⟩, ⟨.pure, [0, 1, 2, 3, 4, 5, 6, 7], none, true⟩]
    (fun L5 => ⟨[aS b1 0 2 c1, aS b2 0 2 2, aU, aU, aF, aI 0, aS b1 0 2 c1, aI 2, aS b2 0 2 2, aI 2, aF, aI 0, aS b1 0 2 c1, aI 2, aT, aU, aU, aS b1 0 2 c1, aI 0, aP b1 0, aI 0, aS b2 0 2 2, aI 0, aP b2 0, aI 0, aF], [.row (some ⟨b1, 0, none⟩) (2) (c1) 1 [aN 0, aN 3] 3 false, .blk (b2) [aN 0, aN 3] 3 false], []⟩)
    (fun L5 => [b1 = b1, b2 = b2])
    fol (by kernel_rfl) (fun _ => by kernel_rfl) (fun L5 => ⟨rfl, rfl, trivial⟩) (fun L5 => ?_)
  refine aw_false (false) rfl rfl ?_
  refine aw_skip ?_
  refine nrm_inB ?_
  refine nrm_thn ?_
  refine aw_region [⟨.pure, [], none, true⟩, ⟨.pure, [0], none, true⟩, ⟨.pure, [0, 1], none, true⟩]
    (fun L6 => ⟨[aS b1 0 2 c1, aS b2 0 2 2, aU, aU, aF, aI 1, aS b1 0 2 c1, aI 2, aS b2 0 2 2, aI 2, aF, aI 0, aS b1 0 2 c1, aI 2, aT, aI 0, aI 1, aS b1 0 2 c1, aI 0, aP b1 0, aI 0, aS b2 0 2 2, aI 0, aP b2 0, aI 0, aF], [.row (some ⟨b1, 0, none⟩) (2) (c1) 1 [aN 0, aN 3] 3 false, .blk (b2) [aN 0, aN 3] 3 false], []⟩)
    (fun L6 => [])
    fol (by kernel_rfl) (fun _ => by kernel_rfl) (fun L6 => trivial) (fun L6 => ?_)
  refine nrm_thn ?_
  refine aw_round ?_
  refine aw_seq ?_
  refine aw_sr [⟨.pure, [], none, true⟩, ⟨.pure, [], none, true⟩, ⟨.pure, [1], none, true⟩, ⟨.pure, [0, 1, 2], none, true⟩]
    (fun L7 => ⟨[aS b1 0 2 c1, aS b2 0 2 2, aU, aU, aF, aI 1, aS b1 0 2 c1, aI 2, aS b2 0 2 2, aI 2, aF, aI 1, aS b1 0 2 c1, aI 2, aT, aI 0, aI 1, aS b1 0 2 c1, aI 0, aP b1 0, aI 0, aS b2 0 2 2, aI 0, aP b2 0, aI 0, aF], [.row (some ⟨b1, 0, none⟩) (2) (c1) 1 [aN 0, aN 3] 3 false, .blk (b2) [aN 0, aN 3] 3 false], []⟩)
    (fun L7 => [])
    fol (by kernel_rfl) (fun _ => by kernel_rfl) (fun L7 => trivial) (fun L7 => ?_)
  refine aw_true (true) rfl rfl ?_
  refine aw_skip ?_
  refine nrm_thn ?_
  refine aw_seq ?_
  refine aw_block ?_
  refine aw_sr [⟨.pure, [], none, true⟩, ⟨.pure, [], none, true⟩, ⟨.pure, [0, 1], none, true⟩, ⟨(.read 0), [0, 1, 2], none, true⟩, ⟨.pure, [], none, true⟩, ⟨.pure, [], none, true⟩, ⟨.pure, [4, 5], none, true⟩, ⟨(.read 1), [4, 5, 6], none, true⟩, ⟨.pure, [0, 1, 2, 3, 4, 5, 6, 7], none, true⟩]
    (fun L8 => ⟨[aS b1 0 2 c1, aS b2 0 2 2, aU, aU, aF, aI 1, aS b1 0 2 c1, aI 2, aS b2 0 2 2, aI 2, aF, aI 1, aS b1 0 2 c1, aI 2, aT, aI 0, aI 1, aS b1 0 2 c1, aI 1, aP b1 1, aI 3, aS b2 0 2 2, aI 1, aP b2 1, aI 3, aF], [.row (some ⟨b1, 0, none⟩) (2) (c1) 1 [aN 0, aN 3] 3 false, .blk (b2) [aN 0, aN 3] 3 false], []⟩)
    (fun L8 => [b1 = b1, b2 = b2])
    fol (by kernel_rfl) (fun _ => by kernel_rfl) (fun L8 => ⟨rfl, rfl, trivial⟩) (fun L8 => ?_)
  refine aw_false (false) rfl rfl ?_
  refine aw_skip ?_
  refine nrm_inB ?_
  refine nrm_thn ?_
  refine aw_region [⟨.pure, [], none, true⟩, ⟨.pure, [0], none, true⟩, ⟨.pure, [0, 1], none, true⟩]
    (fun L9 => ⟨[aS b1 0 2 c1, aS b2 0 2 2, aU, aU, aF, aI 2, aS b1 0 2 c1, aI 2, aS b2 0 2 2, aI 2, aF, aI 1, aS b1 0 2 c1, aI 2, aT, aI 1, aI 2, aS b1 0 2 c1, aI 1, aP b1 1, aI 3, aS b2 0 2 2, aI 1, aP b2 1, aI 3, aF], [.row (some ⟨b1, 0, none⟩) (2) (c1) 1 [aN 0, aN 3] 3 false, .blk (b2) [aN 0, aN 3] 3 false], []⟩)
    (fun L9 => [])
    fol (by kernel_rfl) (fun _ => by kernel_rfl) (fun L9 => trivial) (fun L9 => ?_)
  refine nrm_thn ?_
  refine aw_round ?_
  refine aw_seq ?_
  refine aw_sr [⟨.pure, [], none, true⟩, ⟨.pure, [], none, true⟩, ⟨.pure, [1], none, true⟩, ⟨.pure, [0, 1, 2], none, true⟩]
    (fun L10 => ⟨[aS b1 0 2 c1, aS b2 0 2 2, aU, aU, aF, aI 2, aS b1 0 2 c1, aI 2, aS b2 0 2 2, aI 2, aF, aI 2, aS b1 0 2 c1, aI 2, aF, aI 1, aI 2, aS b1 0 2 c1, aI 1, aP b1 1, aI 3, aS b2 0 2 2, aI 1, aP b2 1, aI 3, aF], [.row (some ⟨b1, 0, none⟩) (2) (c1) 1 [aN 0, aN 3] 3 false, .blk (b2) [aN 0, aN 3] 3 false], []⟩)
    (fun L10 => [])
    fol (by kernel_rfl) (fun _ => by kernel_rfl) (fun L10 => trivial) (fun L10 => ?_)
  refine aw_false (false) rfl rfl ?_
  refine aw_exit ?_
  refine ex_thn ?_
  refine ex_thn ?_
  refine ex_hit ?_
  refine nrm_thn ?_
  refine aw_sr [⟨.pure, [], none, true⟩]
    (fun L11 => ⟨[aS b1 0 2 c1, aS b2 0 2 2, aU, aU, aT, aI 2, aS b1 0 2 c1, aI 2, aS b2 0 2 2, aI 2, aF, aI 2, aS b1 0 2 c1, aI 2, aF, aI 1, aI 2, aS b1 0 2 c1, aI 1, aP b1 1, aI 3, aS b2 0 2 2, aI 1, aP b2 1, aI 3, aF], [.row (some ⟨b1, 0, none⟩) (2) (c1) 1 [aN 0, aN 3] 3 false, .blk (b2) [aN 0, aN 3] 3 false], []⟩)
    (fun L11 => [])
    fol (by kernel_rfl) (fun _ => by kernel_rfl) (fun L11 => trivial) (fun L11 => ?_)
  refine aw_ret ?_
  exact fin_ret none [0] (.bool (true)) [] (.inr rfl) rfl (by kernel_rfl) trivial (fun w' hb => ⟨rfl, hb⟩)

-- couplant/couplantlaw06.awake
set_option maxRecDepth 100000 in
set_option maxHeartbeats 400000 in
theorem UA.i_204 : CallOb Try.prog 17 #[] [] (.bool (true)) := by
  intro w hw
  refine calls_aw [aU, aU, aU, aU, aU, aU, aU, aU, aU, aU, aU, aU, aU, aU, aU, aU, aU, aU, aU, aU, aU, aU, aU, aU, aU, aU, aU, aU, aU, aU, aU, aU, aU, aU, aU, aU, aU, aU, aU, aU, aU, aU, aU, aU, aU, aU, aU, aU, aU, aU, aU, aU, aU, aU, aU, aU, aU, aU, aU, aU, aU, aU, aU, aU, aU, aU, aU, aU, aU, aU, aU, aU, aU] [] Try.func17 rfl (by kernel_rfl) (fun e x h => by cases h) ?_
  refine aw_sr [⟨.pure, [], none, true⟩]
    (fun L1 => ⟨[aF, aU, aU, aU, aU, aU, aU, aU, aU, aU, aU, aU, aU, aU, aU, aU, aU, aU, aU, aU, aU, aU, aU, aU, aU, aU, aU, aU, aU, aU, aU, aU, aU, aU, aU, aU, aU, aU, aU, aU, aU, aU, aU, aU, aU, aU, aU, aU, aU, aU, aU, aU, aU, aU, aU, aU, aU, aU, aU, aU, aU, aU, aU, aU, aU, aU, aU, aU, aU, aU, aU, aU, aU], [], []⟩)
    (fun L1 => [])
    fol (by kernel_rfl) (fun _ => by kernel_rfl) (fun L1 => trivial) (fun L1 => ?_)
  refine aw_sr [⟨.pure, [], none, true⟩, ⟨.pure, [], none, true⟩, ⟨.new, [0, 1], none, true⟩, ⟨(.call [2] (.tuple #[.agg #[aN 1000, aN 1000], aN 0])), [0, 1, 2], none, true⟩, ⟨.pure, [0, 1, 2, 3], none, true⟩, ⟨.pure, [0, 1, 2, 3, 4], none, true⟩, ⟨.pure, [0, 1, 2, 3, 4], none, true⟩, ⟨.new, [], none, true⟩, ⟨(.write 7), [0, 1, 2, 3, 4, 5, 7], none, true⟩, ⟨.pure, [0, 1, 2, 3, 4, 5, 6, 7, 8], none, true⟩]
    (fun L2 => ⟨[aF, aP (L2 7).b 0, aI 0, aU, aU, aU, aU, aU, aU, some (.tuple #[.agg #[aN 1000, aN 1000], aN 0]), some (.agg #[aN 1000, aN 800]), some (.agg #[aN 2000, aN 400]), aS (L2 2).b 0 2 2, some (.tuple #[.agg #[aN 1000, aN 1000], aN 0]), some (.agg #[aN 1000, aN 1000]), aI 0, aU, aU, aU, aU, aU, aU, aU, aU, aU, aU, aU, aU, aU, aU, aU, aU, aU, aU, aU, aU, aU, aU, aU, aU, aU, aU, aU, aU, aU, aU, aU, aU, aU, aU, aU, aU, aU, aU, aU, aU, aU, aU, aU, aU, aU, aU, aU, aU, aU, aU, aU, aU, aU, aU, aU, aU, aU], [.blk ((L2 2).b) [aN 1000, aN 800, aN 2000, aN 400] 39 true, .blk ((L2 7).b) [aN 1000, aN 1000] 30 true], []⟩)
    (fun L2 => [CallOb Try.prog 22 #[.slice (some ⟨(L2 2).b, 0, none⟩) (2) (2), aN 1500, aN 600] [.blk ((L2 2).b) [aN 1000, aN 800, aN 2000, aN 400] 39 true] (.tuple #[.agg #[aN 1000, aN 1000], aN 0]), (L2 7).b = (L2 7).b, 0 + 2 ≤ 2, 2 = 2, true = true])
    fol (by kernel_rfl) (fun _ => by kernel_rfl) (fun L2 => ⟨(callOb_frz (UA.i_46 ((L2 2).b) )), rfl, (by decide), rfl, rfl, trivial⟩) (fun L2 => ?_)
  refine aw_sr [⟨.pure, [], none, true⟩, ⟨.pure, [0], none, true⟩, ⟨.pure, [], none, true⟩, ⟨.pure, [2], none, true⟩, ⟨.new, [0, 1, 2, 3], none, true⟩, ⟨(.call [6] (.tuple #[.agg #[aN 3333, aN 3334], aN 0])), [0, 1, 2, 3, 4], none, true⟩, ⟨.pure, [0, 1, 2, 3, 4, 5], none, true⟩, ⟨.pure, [0, 1, 2, 3, 4, 5, 6], none, true⟩, ⟨.pure, [0, 1, 2, 3, 4, 5, 6], none, true⟩, ⟨.new, [], none, true⟩, ⟨(.write 11), [0, 1, 2, 3, 4, 5, 6, 7, 9], none, true⟩, ⟨.pure, [0, 1, 2, 3, 4, 5, 6, 7, 8, 9, 10], none, true⟩]
    (fun L3 => ⟨[aF, aP (L2 7).b 0, aI 0, aP (L3 9).b 0, aI 0, aU, aU, aU, aU, some (.tuple #[.agg #[aN 1000, aN 1000], aN 0]), some (.agg #[aN 1000, aN 800]), some (.agg #[aN 2000, aN 400]), aS (L2 2).b 0 2 2, some (.tuple #[.agg #[aN 1000, aN 1000], aN 0]), some (.agg #[aN 1000, aN 1000]), aI 0, some (.tuple #[.agg #[aN 3333, aN 3334], aN 0]), some (.agg #[aN 20000000, aN 20000000]), some (.agg #[aN 2500, aN 20000000, aN 20000000]), some (.agg #[aN 35000000, aN 35000000]), some (.agg #[aN 5000, aN 35000000, aN 35000000]), aS (L3 4).b 0 2 2, some (.tuple #[.agg #[aN 3333, aN 3334], aN 0]), some (.agg #[aN 3333, aN 3334]), aI 0, aU, aU, aU, aU, aU, aU, aU, aU, aU, aU, aU, aU, aU, aU, aU, aU, aU, aU, aU, aU, aU, aU, aU, aU, aU, aU, aU, aU, aU, aU, aU, aU, aU, aU, aU, aU, aU, aU, aU, aU, aU, aU, aU, aU, aU, aU, aU, aU], [.blk ((L2 2).b) [aN 1000, aN 800, aN 2000, aN 400] 39 true, .blk ((L2 7).b) [aN 1000, aN 1000] 30 true, .blk ((L3 4).b) [aN 2500, aN 20000000, aN 20000000, aN 5000, aN 35000000, aN 35000000] 77 true, .blk ((L3 9).b) [aN 3333, aN 3334] 30 true], []⟩)
    (fun L3 => [CallOb Try.prog 40 #[.slice (some ⟨(L3 4).b, 0, none⟩) (2) (2)] [.blk ((L3 4).b) [aN 2500, aN 20000000, aN 20000000, aN 5000, aN 35000000, aN 35000000] 77 true] (.tuple #[.agg #[aN 3333, aN 3334], aN 0]), (L3 9).b = (L3 9).b, 0 + 2 ≤ 2, 2 = 2, true = true])
    fol (by kernel_rfl) (fun _ => by kernel_rfl) (fun L3 => ⟨(callOb_frz (UA.i_78 ((L3 4).b) )), rfl, (by decide), rfl, rfl, trivial⟩) (fun L3 => ?_)
  refine aw_seq ?_
  refine aw_steps ?_
  refine aws_inline [] [aU, aU, aU, aU, aU] rfl rfl rfl (fun t ht => by cases ht; exact Nat.le_of_ble_eq_true (by kernel_rfl)) rfl rfl Try.func73 rfl (enters_of Try.func73 (by kernel_rfl) rfl) (by kernel_rfl) ?_
  refine aw_sr [⟨.pure, [], none, true⟩]
    (fun L6 => ⟨[some (.slice none 0 0), aU, aU, aU, aU], [.blk ((L2 2).b) [aN 1000, aN 800, aN 2000, aN 400] 39 true, .blk ((L2 7).b) [aN 1000, aN 1000] 30 true, .blk ((L3 4).b) [aN 2500, aN 20000000, aN 20000000, aN 5000, aN 35000000, aN 35000000] 77 true, .blk ((L3 9).b) [aN 3333, aN 3334] 30 true], []⟩)
    (fun L6 => [])
    fol (by kernel_rfl) (fun _ => by kernel_rfl) (fun L6 => trivial) (fun L6 => ?_)
  refine aw_sr [⟨.pure, [], none, true⟩, ⟨.new, [], none, true⟩, ⟨.pure, [1], none, true⟩, ⟨.new, [0, 1, 2], none, true⟩, ⟨.pure, [0, 1, 2, 3], none, true⟩]
    (fun L7 => ⟨[aS (L7 3).b 0 2 2, some (.agg #[.string (ByteArray.mk #[119, 101, 100, 103, 101]), aN 100, aN 50, .slice none 0 0]), aS (L7 1).b 0 1 1, some (.agg #[.string (ByteArray.mk #[103, 97, 105, 110]), aN 50, aN 50, .slice (some ⟨(L7 1).b, 0, none⟩) (1) (1)]), aS (L7 3).b 0 2 2], [.blk ((L2 2).b) [aN 1000, aN 800, aN 2000, aN 400] 39 true, .blk ((L2 7).b) [aN 1000, aN 1000] 30 true, .blk ((L3 4).b) [aN 2500, aN 20000000, aN 20000000, aN 5000, aN 35000000, aN 35000000] 77 true, .blk ((L3 9).b) [aN 3333, aN 3334] 30 true, .blk ((L7 1).b) [aN 0] 3 true, .blk ((L7 3).b) [.string (ByteArray.mk #[119, 101, 100, 103, 101]), aN 100, aN 50, .slice none 0 0, .string (ByteArray.mk #[103, 97, 105, 110]), aN 50, aN 50, .slice (some ⟨(L7 1).b, 0, none⟩) (1) (1)] 105 true], []⟩)
    (fun L7 => [])
    fol (by kernel_rfl) (fun _ => by kernel_rfl) (fun L7 => trivial) (fun L7 => ?_)
  refine aw_ret ?_
  refine fin_inl (⟨[aF, aP (L2 7).b 0, aI 0, aP (L3 9).b 0, aI 0, aU, aU, aU, aU, some (.tuple #[.agg #[aN 1000, aN 1000], aN 0]), some (.agg #[aN 1000, aN 800]), some (.agg #[aN 2000, aN 400]), aS (L2 2).b 0 2 2, some (.tuple #[.agg #[aN 1000, aN 1000], aN 0]), some (.agg #[aN 1000, aN 1000]), aI 0, some (.tuple #[.agg #[aN 3333, aN 3334], aN 0]), some (.agg #[aN 20000000, aN 20000000]), some (.agg #[aN 2500, aN 20000000, aN 20000000]), some (.agg #[aN 35000000, aN 35000000]), some (.agg #[aN 5000, aN 35000000, aN 35000000]), aS (L3 4).b 0 2 2, some (.tuple #[.agg #[aN 3333, aN 3334], aN 0]), some (.agg #[aN 3333, aN 3334]), aI 0, aU, aS (L7 3).b 0 2 2, aU, aU, aU, aU, aU, aU, aU, aU, aU, aU, aU, aU, aU, aU, aU, aU, aU, aU, aU, aU, aU, aU, aU, aU, aU, aU, aU, aU, aU, aU, aU, aU, aU, aU, aU, aU, aU, aU, aU, aU, aU, aU, aU, aU, aU, aU], [.blk ((L2 2).b) [aN 1000, aN 800, aN 2000, aN 400] 39 true, .blk ((L2 7).b) [aN 1000, aN 1000] 30 true, .blk ((L3 4).b) [aN 2500, aN 20000000, aN 20000000, aN 5000, aN 35000000, aN 35000000] 77 true, .blk ((L3 9).b) [aN 3333, aN 3334] 30 true, .blk ((L7 1).b) [aN 0] 3 true, .blk ((L7 3).b) [.string (ByteArray.mk #[119, 101, 100, 103, 101]), aN 100, aN 50, .slice none 0 0, .string (ByteArray.mk #[103, 97, 105, 110]), aN 50, aN 50, .slice (some ⟨(L7 1).b, 0, none⟩) (1) (1)] 105 true], []⟩) none [0] (.slice (some ⟨(L7 3).b, 0, none⟩) (2) (2)) [] (.inr rfl) rfl (by kernel_rfl) trivial (weak_to [] [0, 1, 2, 3, 4, 5] (by decide) (by kernel_rfl)) ?_
  refine aws_op (⟨(.callN [] (fun l => .slice (some ⟨l.b, 0, none⟩) (2) (2)) (fun l => .blk (l.b) [aN 0, aN 0, aN 200, aN 10, aN 1, aN 210] 110 true)), [], none, true⟩) (fun L8 => ⟨[aF, aP (L2 7).b 0, aI 0, aP (L3 9).b 0, aI 0, aU, aU, aU, aU, some (.tuple #[.agg #[aN 1000, aN 1000], aN 0]), some (.agg #[aN 1000, aN 800]), some (.agg #[aN 2000, aN 400]), aS (L2 2).b 0 2 2, some (.tuple #[.agg #[aN 1000, aN 1000], aN 0]), some (.agg #[aN 1000, aN 1000]), aI 0, some (.tuple #[.agg #[aN 3333, aN 3334], aN 0]), some (.agg #[aN 20000000, aN 20000000]), some (.agg #[aN 2500, aN 20000000, aN 20000000]), some (.agg #[aN 35000000, aN 35000000]), some (.agg #[aN 5000, aN 35000000, aN 35000000]), aS (L3 4).b 0 2 2, some (.tuple #[.agg #[aN 3333, aN 3334], aN 0]), some (.agg #[aN 3333, aN 3334]), aI 0, aU, aS (L7 3).b 0 2 2, some (.slice (some ⟨L8.b, 0, none⟩) (2) (2)), aU, aU, aU, aU, aU, aU, aU, aU, aU, aU, aU, aU, aU, aU, aU, aU, aU, aU, aU, aU, aU, aU, aU, aU, aU, aU, aU, aU, aU, aU, aU, aU, aU, aU, aU, aU, aU, aU, aU, aU, aU, aU, aU, aU, aU], [.blk ((L2 2).b) [aN 1000, aN 800, aN 2000, aN 400] 39 true, .blk ((L2 7).b) [aN 1000, aN 1000] 30 true, .blk ((L3 4).b) [aN 2500, aN 20000000, aN 20000000, aN 5000, aN 35000000, aN 35000000] 77 true, .blk ((L3 9).b) [aN 3333, aN 3334] 30 true, .blk ((L7 1).b) [aN 0] 3 true, .blk ((L7 3).b) [.string (ByteArray.mk #[119, 101, 100, 103, 101]), aN 100, aN 50, .slice none 0 0, .string (ByteArray.mk #[103, 97, 105, 110]), aN 50, aN 50, .slice (some ⟨(L7 1).b, 0, none⟩) (1) (1)] 105 true, .blk (L8.b) [aN 0, aN 0, aN 200, aN 10, aN 1, aN 210] 110 true], []⟩) (fun L8 => [CallN Try.prog 74 #[] [] (fun l => .slice (some ⟨l.b, 0, none⟩) (2) (2)) (fun l => .blk (l.b) [aN 0, aN 0, aN 200, aN 10, aN 1, aN 210] 110 true)]) (by kernel_rfl) rfl (fun t ht => by cases ht; exact Nat.le_of_ble_eq_true (by kernel_rfl)) (fun _ => by kernel_rfl) (fun L8 => ⟨(callN_frz (UA.i_79  )), trivial⟩) (fun L8 => ?_)
  refine aws_op (⟨(.call [5, 4, 6] (.tuple #[aN 60, aN 0])), [], none, true⟩) (fun L9 => ⟨[aF, aP (L2 7).b 0, aI 0, aP (L3 9).b 0, aI 0, aU, aU, aU, aU, some (.tuple #[.agg #[aN 1000, aN 1000], aN 0]), some (.agg #[aN 1000, aN 800]), some (.agg #[aN 2000, aN 400]), aS (L2 2).b 0 2 2, some (.tuple #[.agg #[aN 1000, aN 1000], aN 0]), some (.agg #[aN 1000, aN 1000]), aI 0, some (.tuple #[.agg #[aN 3333, aN 3334], aN 0]), some (.agg #[aN 20000000, aN 20000000]), some (.agg #[aN 2500, aN 20000000, aN 20000000]), some (.agg #[aN 35000000, aN 35000000]), some (.agg #[aN 5000, aN 35000000, aN 35000000]), aS (L3 4).b 0 2 2, some (.tuple #[.agg #[aN 3333, aN 3334], aN 0]), some (.agg #[aN 3333, aN 3334]), aI 0, aU, aS (L7 3).b 0 2 2, some (.slice (some ⟨L8.b, 0, none⟩) (2) (2)), some (.tuple #[aN 60, aN 0]), aU, aU, aU, aU, aU, aU, aU, aU, aU, aU, aU, aU, aU, aU, aU, aU, aU, aU, aU, aU, aU, aU, aU, aU, aU, aU, aU, aU, aU, aU, aU, aU, aU, aU, aU, aU, aU, aU, aU, aU, aU, aU, aU, aU], [.blk ((L2 2).b) [aN 1000, aN 800, aN 2000, aN 400] 39 true, .blk ((L2 7).b) [aN 1000, aN 1000] 30 true, .blk ((L3 4).b) [aN 2500, aN 20000000, aN 20000000, aN 5000, aN 35000000, aN 35000000] 77 true, .blk ((L3 9).b) [aN 3333, aN 3334] 30 true, .blk ((L7 1).b) [aN 0] 3 true, .blk ((L7 3).b) [.string (ByteArray.mk #[119, 101, 100, 103, 101]), aN 100, aN 50, .slice none 0 0, .string (ByteArray.mk #[103, 97, 105, 110]), aN 50, aN 50, .slice (some ⟨(L7 1).b, 0, none⟩) (1) (1)] 105 true, .blk (L8.b) [aN 0, aN 0, aN 200, aN 10, aN 1, aN 210] 110 true], []⟩) (fun L9 => [CallOb Try.prog 69 #[.slice (some ⟨(L7 3).b, 0, none⟩) (2) (2), .slice (some ⟨L8.b, 0, none⟩) (2) (2), aN 1] [.blk ((L7 3).b) [.string (ByteArray.mk #[119, 101, 100, 103, 101]), aN 100, aN 50, .slice none 0 0, .string (ByteArray.mk #[103, 97, 105, 110]), aN 50, aN 50, .slice (some ⟨(L7 1).b, 0, none⟩) (1) (1)] 105 true, .blk ((L7 1).b) [aN 0] 3 true, .blk (L8.b) [aN 0, aN 0, aN 200, aN 10, aN 1, aN 210] 110 true] (.tuple #[aN 60, aN 0])]) (by kernel_rfl) rfl (fun t ht => by cases ht; exact Nat.le_of_ble_eq_true (by kernel_rfl)) (fun _ => by kernel_rfl) (fun L9 => ⟨(callOb_frz (UA.i_150 ((L7 3).b) ((L7 1).b) (L8.b) )), trivial⟩) (fun L9 => ?_)
  refine aws_op (⟨.pure, [], none, true⟩) (fun L10 => ⟨[aF, aP (L2 7).b 0, aI 0, aP (L3 9).b 0, aI 0, aU, aU, aU, aU, some (.tuple #[.agg #[aN 1000, aN 1000], aN 0]), some (.agg #[aN 1000, aN 800]), some (.agg #[aN 2000, aN 400]), aS (L2 2).b 0 2 2, some (.tuple #[.agg #[aN 1000, aN 1000], aN 0]), some (.agg #[aN 1000, aN 1000]), aI 0, some (.tuple #[.agg #[aN 3333, aN 3334], aN 0]), some (.agg #[aN 20000000, aN 20000000]), some (.agg #[aN 2500, aN 20000000, aN 20000000]), some (.agg #[aN 35000000, aN 35000000]), some (.agg #[aN 5000, aN 35000000, aN 35000000]), aS (L3 4).b 0 2 2, some (.tuple #[.agg #[aN 3333, aN 3334], aN 0]), some (.agg #[aN 3333, aN 3334]), aI 0, some (.tuple #[aN 60, aN 0]), aS (L7 3).b 0 2 2, some (.slice (some ⟨L8.b, 0, none⟩) (2) (2)), some (.tuple #[aN 60, aN 0]), aU, aU, aU, aU, aU, aU, aU, aU, aU, aU, aU, aU, aU, aU, aU, aU, aU, aU, aU, aU, aU, aU, aU, aU, aU, aU, aU, aU, aU, aU, aU, aU, aU, aU, aU, aU, aU, aU, aU, aU, aU, aU, aU, aU], [.blk ((L2 2).b) [aN 1000, aN 800, aN 2000, aN 400] 39 true, .blk ((L2 7).b) [aN 1000, aN 1000] 30 true, .blk ((L3 4).b) [aN 2500, aN 20000000, aN 20000000, aN 5000, aN 35000000, aN 35000000] 77 true, .blk ((L3 9).b) [aN 3333, aN 3334] 30 true, .blk ((L7 1).b) [aN 0] 3 true, .blk ((L7 3).b) [.string (ByteArray.mk #[119, 101, 100, 103, 101]), aN 100, aN 50, .slice none 0 0, .string (ByteArray.mk #[103, 97, 105, 110]), aN 50, aN 50, .slice (some ⟨(L7 1).b, 0, none⟩) (1) (1)] 105 true, .blk (L8.b) [aN 0, aN 0, aN 200, aN 10, aN 1, aN 210] 110 true], []⟩) (fun L10 => []) (by kernel_rfl) rfl (fun t ht => by cases ht; exact Nat.le_of_ble_eq_true (by kernel_rfl)) (fun _ => by kernel_rfl) (fun L10 => trivial) (fun L10 => ?_)
  refine aws_op (⟨.pure, [], none, true⟩) (fun L11 => ⟨[aF, aP (L2 7).b 0, aI 0, aP (L3 9).b 0, aI 0, aU, aU, aU, aU, some (.tuple #[.agg #[aN 1000, aN 1000], aN 0]), some (.agg #[aN 1000, aN 800]), some (.agg #[aN 2000, aN 400]), aS (L2 2).b 0 2 2, some (.tuple #[.agg #[aN 1000, aN 1000], aN 0]), some (.agg #[aN 1000, aN 1000]), aI 0, some (.tuple #[.agg #[aN 3333, aN 3334], aN 0]), some (.agg #[aN 20000000, aN 20000000]), some (.agg #[aN 2500, aN 20000000, aN 20000000]), some (.agg #[aN 35000000, aN 35000000]), some (.agg #[aN 5000, aN 35000000, aN 35000000]), aS (L3 4).b 0 2 2, some (.tuple #[.agg #[aN 3333, aN 3334], aN 0]), some (.agg #[aN 3333, aN 3334]), aI 0, some (.tuple #[aN 60, aN 0]), aS (L7 3).b 0 2 2, some (.slice (some ⟨L8.b, 0, none⟩) (2) (2)), some (.tuple #[aN 60, aN 0]), aI 60, aU, aU, aU, aU, aU, aU, aU, aU, aU, aU, aU, aU, aU, aU, aU, aU, aU, aU, aU, aU, aU, aU, aU, aU, aU, aU, aU, aU, aU, aU, aU, aU, aU, aU, aU, aU, aU, aU, aU, aU, aU, aU, aU], [.blk ((L2 2).b) [aN 1000, aN 800, aN 2000, aN 400] 39 true, .blk ((L2 7).b) [aN 1000, aN 1000] 30 true, .blk ((L3 4).b) [aN 2500, aN 20000000, aN 20000000, aN 5000, aN 35000000, aN 35000000] 77 true, .blk ((L3 9).b) [aN 3333, aN 3334] 30 true, .blk ((L7 1).b) [aN 0] 3 true, .blk ((L7 3).b) [.string (ByteArray.mk #[119, 101, 100, 103, 101]), aN 100, aN 50, .slice none 0 0, .string (ByteArray.mk #[103, 97, 105, 110]), aN 50, aN 50, .slice (some ⟨(L7 1).b, 0, none⟩) (1) (1)] 105 true, .blk (L8.b) [aN 0, aN 0, aN 200, aN 10, aN 1, aN 210] 110 true], []⟩) (fun L11 => []) (by kernel_rfl) rfl (fun t ht => by cases ht; exact Nat.le_of_ble_eq_true (by kernel_rfl)) (fun _ => by kernel_rfl) (fun L11 => trivial) (fun L11 => ?_)
  refine aws_op (⟨.pure, [], none, true⟩) (fun L12 => ⟨[aF, aP (L2 7).b 0, aI 0, aP (L3 9).b 0, aI 0, aU, aU, aU, aU, some (.tuple #[.agg #[aN 1000, aN 1000], aN 0]), some (.agg #[aN 1000, aN 800]), some (.agg #[aN 2000, aN 400]), aS (L2 2).b 0 2 2, some (.tuple #[.agg #[aN 1000, aN 1000], aN 0]), some (.agg #[aN 1000, aN 1000]), aI 0, some (.tuple #[.agg #[aN 3333, aN 3334], aN 0]), some (.agg #[aN 20000000, aN 20000000]), some (.agg #[aN 2500, aN 20000000, aN 20000000]), some (.agg #[aN 35000000, aN 35000000]), some (.agg #[aN 5000, aN 35000000, aN 35000000]), aS (L3 4).b 0 2 2, some (.tuple #[.agg #[aN 3333, aN 3334], aN 0]), some (.agg #[aN 3333, aN 3334]), aI 0, some (.tuple #[aN 60, aN 0]), aS (L7 3).b 0 2 2, some (.slice (some ⟨L8.b, 0, none⟩) (2) (2)), some (.tuple #[aN 60, aN 0]), aI 60, aI 0, aU, aU, aU, aU, aU, aU, aU, aU, aU, aU, aU, aU, aU, aU, aU, aU, aU, aU, aU, aU, aU, aU, aU, aU, aU, aU, aU, aU, aU, aU, aU, aU, aU, aU, aU, aU, aU, aU, aU, aU, aU, aU], [.blk ((L2 2).b) [aN 1000, aN 800, aN 2000, aN 400] 39 true, .blk ((L2 7).b) [aN 1000, aN 1000] 30 true, .blk ((L3 4).b) [aN 2500, aN 20000000, aN 20000000, aN 5000, aN 35000000, aN 35000000] 77 true, .blk ((L3 9).b) [aN 3333, aN 3334] 30 true, .blk ((L7 1).b) [aN 0] 3 true, .blk ((L7 3).b) [.string (ByteArray.mk #[119, 101, 100, 103, 101]), aN 100, aN 50, .slice none 0 0, .string (ByteArray.mk #[103, 97, 105, 110]), aN 50, aN 50, .slice (some ⟨(L7 1).b, 0, none⟩) (1) (1)] 105 true, .blk (L8.b) [aN 0, aN 0, aN 200, aN 10, aN 1, aN 210] 110 true], []⟩) (fun L12 => []) (by kernel_rfl) rfl (fun t ht => by cases ht; exact Nat.le_of_ble_eq_true (by kernel_rfl)) (fun _ => by kernel_rfl) (fun L12 => trivial) (fun L12 => ?_)
  refine aws_op (⟨.pure, [], none, true⟩) (fun L13 => ⟨[aF, aP (L2 7).b 0, aI 0, aP (L3 9).b 0, aI 0, aI 60, aU, aU, aU, some (.tuple #[.agg #[aN 1000, aN 1000], aN 0]), some (.agg #[aN 1000, aN 800]), some (.agg #[aN 2000, aN 400]), aS (L2 2).b 0 2 2, some (.tuple #[.agg #[aN 1000, aN 1000], aN 0]), some (.agg #[aN 1000, aN 1000]), aI 0, some (.tuple #[.agg #[aN 3333, aN 3334], aN 0]), some (.agg #[aN 20000000, aN 20000000]), some (.agg #[aN 2500, aN 20000000, aN 20000000]), some (.agg #[aN 35000000, aN 35000000]), some (.agg #[aN 5000, aN 35000000, aN 35000000]), aS (L3 4).b 0 2 2, some (.tuple #[.agg #[aN 3333, aN 3334], aN 0]), some (.agg #[aN 3333, aN 3334]), aI 0, some (.tuple #[aN 60, aN 0]), aS (L7 3).b 0 2 2, some (.slice (some ⟨L8.b, 0, none⟩) (2) (2)), some (.tuple #[aN 60, aN 0]), aI 60, aI 0, aU, aU, aU, aU, aU, aU, aU, aU, aU, aU, aU, aU, aU, aU, aU, aU, aU, aU, aU, aU, aU, aU, aU, aU, aU, aU, aU, aU, aU, aU, aU, aU, aU, aU, aU, aU, aU, aU, aU, aU, aU, aU], [.blk ((L2 2).b) [aN 1000, aN 800, aN 2000, aN 400] 39 true, .blk ((L2 7).b) [aN 1000, aN 1000] 30 true, .blk ((L3 4).b) [aN 2500, aN 20000000, aN 20000000, aN 5000, aN 35000000, aN 35000000] 77 true, .blk ((L3 9).b) [aN 3333, aN 3334] 30 true, .blk ((L7 1).b) [aN 0] 3 true, .blk ((L7 3).b) [.string (ByteArray.mk #[119, 101, 100, 103, 101]), aN 100, aN 50, .slice none 0 0, .string (ByteArray.mk #[103, 97, 105, 110]), aN 50, aN 50, .slice (some ⟨(L7 1).b, 0, none⟩) (1) (1)] 105 true, .blk (L8.b) [aN 0, aN 0, aN 200, aN 10, aN 1, aN 210] 110 true], []⟩) (fun L13 => []) (by kernel_rfl) rfl (fun t ht => by cases ht; exact Nat.le_of_ble_eq_true (by kernel_rfl)) (fun _ => by kernel_rfl) (fun L13 => trivial) (fun L13 => ?_)
  refine aws_op (⟨.pure, [], none, true⟩) (fun L14 => ⟨[aF, aP (L2 7).b 0, aI 0, aP (L3 9).b 0, aI 0, aI 60, aI 0, aU, aU, some (.tuple #[.agg #[aN 1000, aN 1000], aN 0]), some (.agg #[aN 1000, aN 800]), some (.agg #[aN 2000, aN 400]), aS (L2 2).b 0 2 2, some (.tuple #[.agg #[aN 1000, aN 1000], aN 0]), some (.agg #[aN 1000, aN 1000]), aI 0, some (.tuple #[.agg #[aN 3333, aN 3334], aN 0]), some (.agg #[aN 20000000, aN 20000000]), some (.agg #[aN 2500, aN 20000000, aN 20000000]), some (.agg #[aN 35000000, aN 35000000]), some (.agg #[aN 5000, aN 35000000, aN 35000000]), aS (L3 4).b 0 2 2, some (.tuple #[.agg #[aN 3333, aN 3334], aN 0]), some (.agg #[aN 3333, aN 3334]), aI 0, some (.tuple #[aN 60, aN 0]), aS (L7 3).b 0 2 2, some (.slice (some ⟨L8.b, 0, none⟩) (2) (2)), some (.tuple #[aN 60, aN 0]), aI 60, aI 0, aU, aU, aU, aU, aU, aU, aU, aU, aU, aU, aU, aU, aU, aU, aU, aU, aU, aU, aU, aU, aU, aU, aU, aU, aU, aU, aU, aU, aU, aU, aU, aU, aU, aU, aU, aU, aU, aU, aU, aU, aU, aU], [.blk ((L2 2).b) [aN 1000, aN 800, aN 2000, aN 400] 39 true, .blk ((L2 7).b) [aN 1000, aN 1000] 30 true, .blk ((L3 4).b) [aN 2500, aN 20000000, aN 20000000, aN 5000, aN 35000000, aN 35000000] 77 true, .blk ((L3 9).b) [aN 3333, aN 3334] 30 true, .blk ((L7 1).b) [aN 0] 3 true, .blk ((L7 3).b) [.string (ByteArray.mk #[119, 101, 100, 103, 101]), aN 100, aN 50, .slice none 0 0, .string (ByteArray.mk #[103, 97, 105, 110]), aN 50, aN 50, .slice (some ⟨(L7 1).b, 0, none⟩) (1) (1)] 105 true, .blk (L8.b) [aN 0, aN 0, aN 200, aN 10, aN 1, aN 210] 110 true], []⟩) (fun L14 => []) (by kernel_rfl) rfl (fun t ht => by cases ht; exact Nat.le_of_ble_eq_true (by kernel_rfl)) (fun _ => by kernel_rfl) (fun L14 => trivial) (fun L14 => ?_)
  refine aws_end rfl ?_
  refine nrm_thn ?_
  refine aw_sr [⟨.pure, [], none, true⟩, ⟨.pure, [], none, true⟩, ⟨.pure, [], none, true⟩, ⟨.pure, [], none, true⟩, ⟨.new, [0, 1, 2, 3], none, true⟩, ⟨(.callN [11] (fun l => .tuple #[.slice (l.a) (2) (l.n), aN 0]) (fun l => .row (l.a) (2) (l.n) 1 [aN 0, aN 3] 3 true)), [0, 1, 2, 3, 4], none, true⟩, ⟨.pure, [0, 1, 2, 3, 4, 5], none, true⟩, ⟨.pure, [0, 1, 2, 3, 4, 5, 6], none, true⟩, ⟨.pure, [0, 1, 2, 3, 4, 5, 6], none, true⟩, ⟨.pure, [0, 1, 2, 3, 4, 5, 6, 7], none, true⟩, ⟨.pure, [0, 1, 2, 3, 4, 5, 6, 7, 8, 9], none, true⟩]
    (fun L15 => ⟨[aF, aP (L2 7).b 0, aI 0, aP (L3 9).b 0, aI 0, aI 60, aI 0, some (.slice ((L15 5).a) (2) ((L15 5).n)), aI 0, some (.tuple #[.agg #[aN 1000, aN 1000], aN 0]), some (.agg #[aN 1000, aN 800]), some (.agg #[aN 2000, aN 400]), aS (L2 2).b 0 2 2, some (.tuple #[.agg #[aN 1000, aN 1000], aN 0]), some (.agg #[aN 1000, aN 1000]), aI 0, some (.tuple #[.agg #[aN 3333, aN 3334], aN 0]), some (.agg #[aN 20000000, aN 20000000]), some (.agg #[aN 2500, aN 20000000, aN 20000000]), some (.agg #[aN 35000000, aN 35000000]), some (.agg #[aN 5000, aN 35000000, aN 35000000]), aS (L3 4).b 0 2 2, some (.tuple #[.agg #[aN 3333, aN 3334], aN 0]), some (.agg #[aN 3333, aN 3334]), aI 0, some (.tuple #[aN 60, aN 0]), aS (L7 3).b 0 2 2, some (.slice (some ⟨L8.b, 0, none⟩) (2) (2)), some (.tuple #[aN 60, aN 0]), aI 60, aI 0, some (.tuple #[.slice ((L15 5).a) (2) ((L15 5).n), aN 0]), some (.agg #[aN 0, aN 100]), some (.agg #[aN 10, aN 90]), some (.agg #[aN 20, aN 81]), some (.agg #[aN 30, aN 70]), aS (L15 4).b 0 4 4, some (.tuple #[.slice ((L15 5).a) (2) ((L15 5).n), aN 0]), some (.slice ((L15 5).a) (2) ((L15 5).n)), aI 0, aU, aU, aU, aU, aU, aU, aU, aU, aU, aU, aU, aU, aU, aU, aU, aU, aU, aU, aU, aU, aU, aU, aU, aU, aU, aU, aU, aU, aU, aU, aU, aU, aU], [.blk ((L2 2).b) [aN 1000, aN 800, aN 2000, aN 400] 39 true, .blk ((L2 7).b) [aN 1000, aN 1000] 30 true, .blk ((L3 4).b) [aN 2500, aN 20000000, aN 20000000, aN 5000, aN 35000000, aN 35000000] 77 true, .blk ((L3 9).b) [aN 3333, aN 3334] 30 true, .blk ((L7 1).b) [aN 0] 3 true, .blk ((L7 3).b) [.string (ByteArray.mk #[119, 101, 100, 103, 101]), aN 100, aN 50, .slice none 0 0, .string (ByteArray.mk #[103, 97, 105, 110]), aN 50, aN 50, .slice (some ⟨(L7 1).b, 0, none⟩) (1) (1)] 105 true, .blk (L8.b) [aN 0, aN 0, aN 200, aN 10, aN 1, aN 210] 110 true, .blk ((L15 4).b) [aN 0, aN 100, aN 10, aN 90, aN 20, aN 81, aN 30, aN 70] 39 true, .row ((L15 5).a) (2) ((L15 5).n) 1 [aN 0, aN 3] 3 true], []⟩)
    (fun L15 => [CallN Try.prog 30 #[.slice (some ⟨(L15 4).b, 0, none⟩) (4) (4), aN 1] [.blk ((L15 4).b) [aN 0, aN 100, aN 10, aN 90, aN 20, aN 81, aN 30, aN 70] 39 true] (fun l => .tuple #[.slice (l.a) (2) (l.n), aN 0]) (fun l => .row (l.a) (2) (l.n) 1 [aN 0, aN 3] 3 true)])
    fol (by kernel_rfl) (fun _ => by kernel_rfl) (fun L15 => ⟨(callN_frz (UA.i_202 ((L15 4).b) )), trivial⟩) (fun L15 => ?_)
  refine aw_open 8 rfl (by decide) (fun g17 hg17 hcg17 _ => ?_)
  rw [hg17]
  refine aw_sr [⟨.pure, [], none, true⟩, ⟨.pure, [0], none, true⟩, ⟨.pure, [0, 1], none, true⟩, ⟨(.read 1), [0, 1, 2], none, true⟩, ⟨.pure, [0, 1, 2], none, true⟩, ⟨.pure, [0, 1, 2, 3, 4], none, true⟩, ⟨.pure, [0, 1, 2, 3, 4, 5], aT, true⟩, ⟨.pure, [0, 1, 2, 3, 4, 5, 6], none, true⟩, ⟨.pure, [0, 1, 2, 3, 4, 5, 6, 7], none, true⟩, ⟨.pure, [0, 1, 2, 3, 4, 5, 6, 7, 8], none, true⟩, ⟨.pure, [0, 1, 2, 3, 4, 5, 6, 7, 8, 9], aT, true⟩, ⟨.pure, [0, 1, 2, 3, 4, 5, 6, 7, 8, 9, 10], none, true⟩, ⟨(.read 3), [0, 1, 2, 3, 4, 5, 6, 7, 8, 9, 10, 11], none, true⟩, ⟨.pure, [0, 1, 2, 3, 4, 5, 6, 7, 8, 9, 10, 11], none, true⟩, ⟨.pure, [0, 1, 2, 3, 4, 5, 6, 7, 8, 9, 10, 11, 12, 13], none, true⟩, ⟨.pure, [0, 1, 2, 3, 4, 5, 6, 7, 8, 9, 10, 11, 12, 13, 14], aT, true⟩, ⟨.pure, [0, 1, 2, 3, 4, 5, 6, 7, 8, 9, 10, 11, 12, 13, 14, 15], none, true⟩, ⟨.pure, [0, 1, 2, 3, 4, 5, 6, 7, 8, 9, 10, 11, 12, 13, 14, 15, 16], none, true⟩, ⟨.pure, [0, 1, 2, 3, 4, 5, 6, 7, 8, 9, 10, 11, 12, 13, 14, 15, 16, 17], none, true⟩, ⟨.pure, [0, 1, 2, 3, 4, 5, 6, 7, 8, 9, 10, 11, 12, 13, 14, 15, 16, 17, 18], aT, true⟩, ⟨.pure, [0, 1, 2, 3, 4, 5, 6, 7, 8, 9, 10, 11, 12, 13, 14, 15, 16, 17, 18, 19], none, true⟩, ⟨.pure, [0, 1, 2, 3, 4, 5, 6, 7, 8, 9, 10, 11, 12, 13, 14, 15, 16, 17, 18, 19, 20], none, true⟩, ⟨.pure, [0, 1, 2, 3, 4, 5, 6, 7, 8, 9, 10, 11, 12, 13, 14, 15, 16, 17, 18, 19, 20, 21], none, true⟩, ⟨.pure, [0, 1, 2, 3, 4, 5, 6, 7, 8, 9, 10, 11, 12, 13, 14, 15, 16, 17, 18, 19, 20, 21, 22], aT, true⟩, ⟨.pure, [0, 1, 2, 3, 4, 5, 6, 7, 8, 9, 10, 11, 12, 13, 14, 15, 16, 17, 18, 19, 20, 21, 22, 23], none, true⟩, ⟨.pure, [0, 1, 2, 3, 4, 5, 6, 7, 8, 9, 10, 11, 12, 13, 14, 15, 16, 17, 18, 19, 20, 21, 22, 23, 24], none, true⟩, ⟨.pure, [0, 1, 2, 3, 4, 5, 6, 7, 8, 9, 10, 11, 12, 13, 14, 15, 16, 17, 18, 19, 20, 21, 22, 23, 24, 25], none, true⟩, ⟨.pure, [0, 1, 2, 3, 4, 5, 6, 7, 8, 9, 10, 11, 12, 13, 14, 15, 16, 17, 18, 19, 20, 21, 22, 23, 24, 25, 26], aT, true⟩, ⟨.pure, [0, 1, 2, 3, 4, 5, 6, 7, 8, 9, 10, 11, 12, 13, 14, 15, 16, 17, 18, 19, 20, 21, 22, 23, 24, 25, 26, 27], none, true⟩, ⟨.pure, [0, 1, 2, 3, 4, 5, 6, 7, 8, 9, 10, 11, 12, 13, 14, 15, 16, 17, 18, 19, 20, 21, 22, 23, 24, 25, 26, 27, 28], none, true⟩, ⟨.new, [0, 1, 2, 3, 4, 5, 6, 7, 8, 9, 10, 11, 12, 13, 14, 15, 16, 17, 18, 19, 20, 21, 22, 23, 24, 25, 26, 27, 28], none, true⟩, ⟨(.call [8, 39] (.bool (true))), [0, 1, 2, 3, 4, 5, 6, 7, 8, 9, 10, 11, 12, 13, 14, 15, 16, 17, 18, 19, 20, 21, 22, 23, 24, 25, 26, 27, 28, 29, 30], none, true⟩, ⟨.pure, [0, 1, 2, 3, 4, 5, 6, 7, 8, 9, 10, 11, 12, 13, 14, 15, 16, 17, 18, 19, 20, 21, 22, 23, 24, 25, 26, 27, 28, 29, 30, 31], aT, true⟩, ⟨.pure, [0, 1, 2, 3, 4, 5, 6, 7, 8, 9, 10, 11, 12, 13, 14, 15, 16, 17, 18, 19, 20, 21, 22, 23, 24, 25, 26, 27, 28, 29, 30, 31, 32], none, true⟩]
    (fun L18 => ⟨[aT, aP (L2 7).b 0, aI 0, aP (L3 9).b 0, aI 0, aI 60, aI 0, aS g17 0 2 (L15 5).n, aI 0, some (.tuple #[.agg #[aN 1000, aN 1000], aN 0]), some (.agg #[aN 1000, aN 800]), some (.agg #[aN 2000, aN 400]), aS (L2 2).b 0 2 2, some (.tuple #[.agg #[aN 1000, aN 1000], aN 0]), some (.agg #[aN 1000, aN 1000]), aI 0, some (.tuple #[.agg #[aN 3333, aN 3334], aN 0]), some (.agg #[aN 20000000, aN 20000000]), some (.agg #[aN 2500, aN 20000000, aN 20000000]), some (.agg #[aN 35000000, aN 35000000]), some (.agg #[aN 5000, aN 35000000, aN 35000000]), aS (L3 4).b 0 2 2, some (.tuple #[.agg #[aN 3333, aN 3334], aN 0]), some (.agg #[aN 3333, aN 3334]), aI 0, some (.tuple #[aN 60, aN 0]), aS (L7 3).b 0 2 2, some (.slice (some ⟨L8.b, 0, none⟩) (2) (2)), some (.tuple #[aN 60, aN 0]), aI 60, aI 0, some (.tuple #[.slice (some ⟨g17, 0, none⟩) (2) ((L15 5).n), aN 0]), some (.agg #[aN 0, aN 100]), some (.agg #[aN 10, aN 90]), some (.agg #[aN 20, aN 81]), some (.agg #[aN 30, aN 70]), aS (L15 4).b 0 4 4, some (.tuple #[.slice (some ⟨g17, 0, none⟩) (2) ((L15 5).n), aN 0]), aS g17 0 2 (L15 5).n, aI 0, aI 0, aT, aT, some (.agg #[aN 1000, aN 1000]), some (.agg #[aN 1000, aN 1000]), aT, aT, aT, aI 0, aT, aT, aT, some (.agg #[aN 3333, aN 3334]), some (.agg #[aN 3333, aN 3334]), aT, aT, aT, aI 0, aT, aT, aT, aI 60, aT, aT, aT, aI 0, aT, aT, aT, aS g17 0 2 (L15 5).n, aS (L18 30).b 0 2 2, aT, aT], [.blk ((L2 2).b) [aN 1000, aN 800, aN 2000, aN 400] 39 true, .blk ((L2 7).b) [aN 1000, aN 1000] 30 true, .blk ((L3 4).b) [aN 2500, aN 20000000, aN 20000000, aN 5000, aN 35000000, aN 35000000] 77 true, .blk ((L3 9).b) [aN 3333, aN 3334] 30 true, .blk ((L7 1).b) [aN 0] 3 true, .blk ((L7 3).b) [.string (ByteArray.mk #[119, 101, 100, 103, 101]), aN 100, aN 50, .slice none 0 0, .string (ByteArray.mk #[103, 97, 105, 110]), aN 50, aN 50, .slice (some ⟨(L7 1).b, 0, none⟩) (1) (1)] 105 true, .blk (L8.b) [aN 0, aN 0, aN 200, aN 10, aN 1, aN 210] 110 true, .blk ((L15 4).b) [aN 0, aN 100, aN 10, aN 90, aN 20, aN 81, aN 30, aN 70] 39 true, .row (some ⟨g17, 0, none⟩) (2) ((L15 5).n) 1 [aN 0, aN 3] 3 true, .blk ((L18 30).b) [aN 0, aN 3] 3 true], []⟩)
    (fun L18 => [(true) = true, (L2 7).b = (L2 7).b, 0 + 2 ≤ 2, (true) = true, (true) = true, (.bool (true) : Value) = .bool (true), (true) = true, (true) = true, (.bool (true) : Value) = .bool (true), (true) = true, (L3 9).b = (L3 9).b, 0 + 2 ≤ 2, (true) = true, (true) = true, (.bool (true) : Value) = .bool (true), (true) = true, (true) = true, (.bool (true) : Value) = .bool (true), (true) = true, (true) = true, (.bool (true) : Value) = .bool (true), (true) = true, (true) = true, (.bool (true) : Value) = .bool (true), (true) = true, (true) = true, (true) = true, CallOb Try.prog 32 #[.slice (some ⟨g17, 0, none⟩) (2) ((L15 5).n), .slice (some ⟨(L18 30).b, 0, none⟩) (2) (2)] [.row (some ⟨g17, 0, none⟩) (2) ((L15 5).n) 1 [aN 0, aN 3] 3 true, .blk ((L18 30).b) [aN 0, aN 3] 3 true] (.bool (true)), (.bool (true) : Value) = .bool (true)])
    fol (by kernel_rfl) (fun _ => by kernel_rfl) (fun L18 => ⟨rfl, rfl, (by decide), rfl, rfl, rfl, rfl, rfl, rfl, rfl, rfl, (by decide), rfl, rfl, rfl, rfl, rfl, rfl, rfl, rfl, rfl, rfl, rfl, rfl, rfl, rfl, rfl, (callOb_frz (UA.i_203 (g17) ((L18 30).b) ((L15 5).n))), rfl, trivial⟩) (fun L18 => ?_)
  refine aw_ret ?_
  exact fin_ret none [0] (.bool (true)) [] (.inr rfl) rfl (by kernel_rfl) trivial (fun w' hb => ⟨rfl, hb⟩)

theorem UA.awake : CallOb Try.prog 17 #[] [] (.bool true) := UA.i_204
end Go.Proofs.Ytipckfokanlcoaa
