/-
  AWAKE of chapter 6, at its fixed arguments.
-/
import Derived.Test.YtipckfokanlcoaaAgW
import Derived.Test.YtipckfokanlcoaaAgE
import Derived.Test.YtipckfokanlcoaaAgS
import Derived.Shelf.Abstract
set_option linter.unusedVariables false
set_option linter.unusedSimpArgs false
namespace Go.Proofs.Ytipckfokanlcoaa
open Go Go.RowKit

open Ag
-- couplant/base.Unless
set_option maxRecDepth 100000 in
set_option maxHeartbeats 400000 in
theorem UA.i_1 : CallOb Try.prog 81 #[.bool (true), aN 10] [] (aN 0) := by
  intro w hw
  refine calls_aw [aT, aI 10, aU, aU, aU, aU, aU] [] Try.func81 rfl (by kernel_rfl) (fun e x h => by cases h) ?_
  refine aw_sr [⟨.pure, [], none, true⟩]
    (fun L1 => ⟨[aT, aI 10, aU, aU, aI 0, aU, aU], [], []⟩)
    (fun L1 => [])
    fol (by kernel_rfl) (fun _ => by kernel_rfl) (fun L1 => trivial) (fun L1 => ?_)
  refine aw_seq ?_
  refine aw_sr [⟨.pure, [], none, true⟩]
    (fun L2 => ⟨[aT, aI 10, aU, aU, aI 0, aT, aU], [], []⟩)
    (fun L2 => [])
    fol (by kernel_rfl) (fun _ => by kernel_rfl) (fun L2 => trivial) (fun L2 => ?_)
  refine aw_true (true) rfl rfl ?_
  refine aw_sr [⟨.pure, [], none, true⟩]
    (fun L3 => ⟨[aT, aI 10, aU, aU, aI 0, aT, aU], [], []⟩)
    (fun L3 => [])
    fol (by kernel_rfl) (fun _ => by kernel_rfl) (fun L3 => trivial) (fun L3 => ?_)
  refine aw_ret ?_
  refine ret_thn ?_
  exact fin_ret none [0] (aN 0) [] (.inr rfl) rfl (by kernel_rfl) trivial (fun w' hb => ⟨rfl, hb⟩)

-- couplant/base.Unless
set_option maxRecDepth 100000 in
set_option maxHeartbeats 400000 in
theorem UA.i_2 : CallOb Try.prog 81 #[.bool (true), aN 8] [] (aN 0) := by
  intro w hw
  refine calls_aw [aT, aI 8, aU, aU, aU, aU, aU] [] Try.func81 rfl (by kernel_rfl) (fun e x h => by cases h) ?_
  refine aw_sr [⟨.pure, [], none, true⟩]
    (fun L1 => ⟨[aT, aI 8, aU, aU, aI 0, aU, aU], [], []⟩)
    (fun L1 => [])
    fol (by kernel_rfl) (fun _ => by kernel_rfl) (fun L1 => trivial) (fun L1 => ?_)
  refine aw_seq ?_
  refine aw_sr [⟨.pure, [], none, true⟩]
    (fun L2 => ⟨[aT, aI 8, aU, aU, aI 0, aT, aU], [], []⟩)
    (fun L2 => [])
    fol (by kernel_rfl) (fun _ => by kernel_rfl) (fun L2 => trivial) (fun L2 => ?_)
  refine aw_true (true) rfl rfl ?_
  refine aw_sr [⟨.pure, [], none, true⟩]
    (fun L3 => ⟨[aT, aI 8, aU, aU, aI 0, aT, aU], [], []⟩)
    (fun L3 => [])
    fol (by kernel_rfl) (fun _ => by kernel_rfl) (fun L3 => trivial) (fun L3 => ?_)
  refine aw_ret ?_
  refine ret_thn ?_
  exact fin_ret none [0] (aN 0) [] (.inr rfl) rfl (by kernel_rfl) trivial (fun w' hb => ⟨rfl, hb⟩)

-- couplant/base.FirstOf
set_option maxRecDepth 100000 in
set_option maxHeartbeats 400000 in
theorem UA.i_3 (b1 : Nat) : CallOb Try.prog 78 #[.slice (some ⟨b1, 0, none⟩) (2) (2)] [.blk (b1) [aN 0, aN 0] 25 false] (aN 0) := by
  intro w hw
  refine calls_aw [aS b1 0 2 2, aU, aU, aU, aU, aU, aU, aU, aU, aU, aU, aU, aU, aU, aU] [.blk (b1) [aN 0, aN 0] 25 false] Try.func78 rfl (by kernel_rfl) (esOk hw (by simp [Cel.mine])) ?_
  refine aw_sr [⟨.pure, [], none, true⟩]
    (fun L1 => ⟨[aS b1 0 2 2, aU, aI 0, aU, aU, aU, aU, aU, aU, aU, aU, aU, aU, aU, aU], [.blk (b1) [aN 0, aN 0] 25 false], []⟩)
    (fun L1 => [])
    fol (by kernel_rfl) (fun _ => by kernel_rfl) (fun L1 => trivial) (fun L1 => ?_)
  refine aw_seq ?_
  refine aw_sr [⟨.pure, [], none, true⟩, ⟨.pure, [0], none, true⟩, ⟨.pure, [], none, true⟩]
    (fun L2 => ⟨[aS b1 0 2 2, aU, aI 0, aU, aU, aS b1 0 2 2, aI 2, aI 0, aU, aU, aU, aU, aU, aU, aU], [.blk (b1) [aN 0, aN 0] 25 false], []⟩)
    (fun L2 => [])
    fol (by kernel_rfl) (fun _ => by kernel_rfl) (fun L2 => trivial) (fun L2 => ?_)
  refine aw_block ?_
  refine aw_rounds 3 ?_
  refine aw_round ?_
  refine aw_sr [⟨.pure, [], none, true⟩]
    (fun L3 => ⟨[aS b1 0 2 2, aU, aI 0, aU, aU, aS b1 0 2 2, aI 2, aI 0, aT, aU, aU, aU, aU, aU, aU], [.blk (b1) [aN 0, aN 0] 25 false], []⟩)
    (fun L3 => [])
    fol (by kernel_rfl) (fun _ => by kernel_rfl) (fun L3 => trivial) (fun L3 => ?_)
  refine aw_seq ?_
  refine aw_true (true) rfl rfl ?_
  refine aw_skip ?_
  refine nrm_thn ?_
  refine aw_seq ?_
  refine aw_block ?_
  refine aw_sr [⟨.pure, [], none, true⟩, ⟨(.read 0), [0], none, true⟩, ⟨.pure, [0, 1], none, true⟩]
    (fun L4 => ⟨[aS b1 0 2 2, aU, aI 0, aU, aI 0, aS b1 0 2 2, aI 2, aI 0, aT, aP b1 0, aI 0, aU, aU, aU, aU], [.blk (b1) [aN 0, aN 0] 25 false], []⟩)
    (fun L4 => [b1 = b1])
    fol (by kernel_rfl) (fun _ => by kernel_rfl) (fun L4 => ⟨rfl, trivial⟩) (fun L4 => ?_)
  refine aw_sr [⟨.pure, [], none, true⟩, ⟨.pure, [0], none, true⟩]
    (fun L5 => ⟨[aS b1 0 2 2, aU, aI 0, aU, aI 0, aS b1 0 2 2, aI 2, aI 0, aT, aP b1 0, aI 0, aI 0, aF, aU, aU], [.blk (b1) [aN 0, aN 0] 25 false], []⟩)
    (fun L5 => [])
    fol (by kernel_rfl) (fun _ => by kernel_rfl) (fun L5 => trivial) (fun L5 => ?_)
  refine aw_false (false) rfl rfl ?_
  refine aw_skip ?_
  refine nrm_inB ?_
  refine nrm_thn ?_
  refine aw_region [⟨.pure, [], none, true⟩, ⟨.pure, [0], none, true⟩]
    (fun L6 => ⟨[aS b1 0 2 2, aU, aI 0, aU, aI 0, aS b1 0 2 2, aI 2, aI 1, aT, aP b1 0, aI 0, aI 0, aF, aU, aI 1], [.blk (b1) [aN 0, aN 0] 25 false], []⟩)
    (fun L6 => [])
    fol (by kernel_rfl) (fun _ => by kernel_rfl) (fun L6 => trivial) (fun L6 => ?_)
  refine nrm_thn ?_
  refine aw_round ?_
  refine aw_sr [⟨.pure, [], none, true⟩]
    (fun L7 => ⟨[aS b1 0 2 2, aU, aI 0, aU, aI 0, aS b1 0 2 2, aI 2, aI 1, aT, aP b1 0, aI 0, aI 0, aF, aU, aI 1], [.blk (b1) [aN 0, aN 0] 25 false], []⟩)
    (fun L7 => [])
    fol (by kernel_rfl) (fun _ => by kernel_rfl) (fun L7 => trivial) (fun L7 => ?_)
  refine aw_seq ?_
  refine aw_true (true) rfl rfl ?_
  refine aw_skip ?_
  refine nrm_thn ?_
  refine aw_seq ?_
  refine aw_block ?_
  refine aw_sr [⟨.pure, [], none, true⟩, ⟨(.read 0), [0], none, true⟩, ⟨.pure, [0, 1], none, true⟩]
    (fun L8 => ⟨[aS b1 0 2 2, aU, aI 0, aU, aI 0, aS b1 0 2 2, aI 2, aI 1, aT, aP b1 1, aI 0, aI 0, aF, aU, aI 1], [.blk (b1) [aN 0, aN 0] 25 false], []⟩)
    (fun L8 => [b1 = b1])
    fol (by kernel_rfl) (fun _ => by kernel_rfl) (fun L8 => ⟨rfl, trivial⟩) (fun L8 => ?_)
  refine aw_sr [⟨.pure, [], none, true⟩, ⟨.pure, [0], none, true⟩]
    (fun L9 => ⟨[aS b1 0 2 2, aU, aI 0, aU, aI 0, aS b1 0 2 2, aI 2, aI 1, aT, aP b1 1, aI 0, aI 0, aF, aU, aI 1], [.blk (b1) [aN 0, aN 0] 25 false], []⟩)
    (fun L9 => [])
    fol (by kernel_rfl) (fun _ => by kernel_rfl) (fun L9 => trivial) (fun L9 => ?_)
  refine aw_false (false) rfl rfl ?_
  refine aw_skip ?_
  refine nrm_inB ?_
  refine nrm_thn ?_
  refine aw_region [⟨.pure, [], none, true⟩, ⟨.pure, [0], none, true⟩]
    (fun L10 => ⟨[aS b1 0 2 2, aU, aI 0, aU, aI 0, aS b1 0 2 2, aI 2, aI 2, aT, aP b1 1, aI 0, aI 0, aF, aU, aI 2], [.blk (b1) [aN 0, aN 0] 25 false], []⟩)
    (fun L10 => [])
    fol (by kernel_rfl) (fun _ => by kernel_rfl) (fun L10 => trivial) (fun L10 => ?_)
  refine nrm_thn ?_
  refine aw_round ?_
  refine aw_sr [⟨.pure, [], none, true⟩]
    (fun L11 => ⟨[aS b1 0 2 2, aU, aI 0, aU, aI 0, aS b1 0 2 2, aI 2, aI 2, aF, aP b1 1, aI 0, aI 0, aF, aU, aI 2], [.blk (b1) [aN 0, aN 0] 25 false], []⟩)
    (fun L11 => [])
    fol (by kernel_rfl) (fun _ => by kernel_rfl) (fun L11 => trivial) (fun L11 => ?_)
  refine aw_seq ?_
  refine aw_false (false) rfl rfl ?_
  refine aw_exit ?_
  refine ex_thn ?_
  refine ex_thn ?_
  refine ex_hit ?_
  refine nrm_thn ?_
  refine aw_sr [⟨.pure, [], none, true⟩]
    (fun L12 => ⟨[aS b1 0 2 2, aU, aI 0, aU, aI 0, aS b1 0 2 2, aI 2, aI 2, aF, aP b1 1, aI 0, aI 0, aF, aU, aI 2], [.blk (b1) [aN 0, aN 0] 25 false], []⟩)
    (fun L12 => [])
    fol (by kernel_rfl) (fun _ => by kernel_rfl) (fun L12 => trivial) (fun L12 => ?_)
  refine aw_ret ?_
  exact fin_ret none [0] (aN 0) [] (.inr rfl) rfl (by kernel_rfl) trivial (fun w' hb => ⟨rfl, hb⟩)

-- couplant/base.LengthError
set_option maxRecDepth 100000 in
set_option maxHeartbeats 400000 in
theorem UA.i_4 : CallOb Try.prog 75 #[aN 2, aN 20] [] (aN 0) := by
  intro w hw
  refine calls_aw [aI 2, aI 20, aU, aU, aU, aU, aU, aU, aU, aU, aU, aU, aU, aU] [] Try.func75 rfl (by kernel_rfl) (fun e x h => by cases h) ?_
  refine aw_sr [⟨.pure, [], none, true⟩]
    (fun L1 => ⟨[aI 2, aI 20, aU, aU, aI 0, aU, aU, aU, aU, aU, aU, aU, aU, aU], [], []⟩)
    (fun L1 => [])
    fol (by kernel_rfl) (fun _ => by kernel_rfl) (fun L1 => trivial) (fun L1 => ?_)
  refine aw_sr [⟨.pure, [], none, true⟩, ⟨.pure, [0], none, true⟩, ⟨(.call [] (aN 0)), [0, 1], none, true⟩, ⟨.pure, [], none, true⟩, ⟨.pure, [], none, true⟩, ⟨.pure, [3, 4], none, true⟩, ⟨(.call [] (aN 0)), [0, 1, 2, 3, 4, 5], none, true⟩, ⟨.new, [0, 1, 2, 3, 4, 5, 6], none, true⟩, ⟨(.call [7] (aN 0)), [0, 1, 2, 3, 4, 5, 6, 7], none, true⟩, ⟨.pure, [0, 1, 2, 3, 4, 5, 6, 7, 8], none, true⟩]
    (fun L2 => ⟨[aI 2, aI 20, aU, aU, aI 0, aI 2, aT, aI 0, aI 2, aI 20, aT, aI 0, aS (L2 7).b 0 2 2, aI 0], [.blk ((L2 7).b) [aN 0, aN 0] 25 true], []⟩)
    (fun L2 => [CallOb Try.prog 81 #[.bool (true), aN 10] [] (aN 0), CallOb Try.prog 81 #[.bool (true), aN 8] [] (aN 0), CallOb Try.prog 78 #[.slice (some ⟨(L2 7).b, 0, none⟩) (2) (2)] [.blk ((L2 7).b) [aN 0, aN 0] 25 true] (aN 0)])
    fol (by kernel_rfl) (fun _ => by kernel_rfl) (fun L2 => ⟨(callOb_frz (UA.i_1  )), (callOb_frz (UA.i_2  )), (callOb_frz (UA.i_3 ((L2 7).b) )), trivial⟩) (fun L2 => ?_)
  refine aw_ret ?_
  exact fin_ret none [0] (aN 0) [] (.inr rfl) rfl (by kernel_rfl) trivial (fun w' hb => ⟨rfl, hb⟩)

-- couplant/base.Within
set_option maxRecDepth 100000 in
set_option maxHeartbeats 400000 in
theorem UA.i_5 : CallOb Try.prog 127 #[aN 1000, aN 0, aN 100000] [] (.bool (true)) := by
  intro w hw
  refine calls_aw [aI 1000, aI 0, aI 100000, aU, aU, aU, aU, aU, aU, aU, aU, aU, aU, aU, aU] [] Try.func127 rfl (by kernel_rfl) (fun e x h => by cases h) ?_
  refine aw_sr [⟨.pure, [], none, true⟩]
    (fun L1 => ⟨[aI 1000, aI 0, aI 100000, aU, aU, aU, aF, aU, aU, aU, aU, aU, aU, aU, aU], [], []⟩)
    (fun L1 => [])
    fol (by kernel_rfl) (fun _ => by kernel_rfl) (fun L1 => trivial) (fun L1 => ?_)
  refine aw_sr [⟨.pure, [], none, true⟩, ⟨.pure, [], none, true⟩, ⟨.pure, [0, 1], none, true⟩, ⟨.pure, [0, 1, 2], none, true⟩, ⟨.pure, [0, 1, 2, 3], none, true⟩, ⟨.pure, [0, 1, 2, 3], none, true⟩, ⟨.pure, [0, 1, 2, 3, 4, 5], none, true⟩, ⟨.pure, [0, 1, 2, 3, 4, 5, 6], aT, true⟩, ⟨.pure, [0, 1, 2, 3, 4, 5, 6, 7], none, true⟩]
    (fun L2 => ⟨[aI 1000, aI 0, aI 100000, aU, aU, aU, aT, aI 0, aI 1000, aT, aT, aI 1000, aI 100000, aT, aT], [], []⟩)
    (fun L2 => [(true) = true, (true) = true, (true) = true, (.bool (true) : Value) = .bool (true)])
    fol (by kernel_rfl) (fun _ => by kernel_rfl) (fun L2 => ⟨rfl, rfl, rfl, rfl, trivial⟩) (fun L2 => ?_)
  refine aw_ret ?_
  exact fin_ret none [0] (.bool (true)) [] (.inr rfl) rfl (by kernel_rfl) trivial (fun w' hb => ⟨rfl, hb⟩)

-- couplant/base.Unless
set_option maxRecDepth 100000 in
set_option maxHeartbeats 400000 in
theorem UA.i_6 : CallOb Try.prog 81 #[.bool (true), aN 2] [] (aN 0) := by
  intro w hw
  refine calls_aw [aT, aI 2, aU, aU, aU, aU, aU] [] Try.func81 rfl (by kernel_rfl) (fun e x h => by cases h) ?_
  refine aw_sr [⟨.pure, [], none, true⟩]
    (fun L1 => ⟨[aT, aI 2, aU, aU, aI 0, aU, aU], [], []⟩)
    (fun L1 => [])
    fol (by kernel_rfl) (fun _ => by kernel_rfl) (fun L1 => trivial) (fun L1 => ?_)
  refine aw_seq ?_
  refine aw_sr [⟨.pure, [], none, true⟩]
    (fun L2 => ⟨[aT, aI 2, aU, aU, aI 0, aT, aU], [], []⟩)
    (fun L2 => [])
    fol (by kernel_rfl) (fun _ => by kernel_rfl) (fun L2 => trivial) (fun L2 => ?_)
  refine aw_true (true) rfl rfl ?_
  refine aw_sr [⟨.pure, [], none, true⟩]
    (fun L3 => ⟨[aT, aI 2, aU, aU, aI 0, aT, aU], [], []⟩)
    (fun L3 => [])
    fol (by kernel_rfl) (fun _ => by kernel_rfl) (fun L3 => trivial) (fun L3 => ?_)
  refine aw_ret ?_
  refine ret_thn ?_
  exact fin_ret none [0] (aN 0) [] (.inr rfl) rfl (by kernel_rfl) trivial (fun w' hb => ⟨rfl, hb⟩)

-- couplant/base.RangeError
set_option maxRecDepth 100000 in
set_option maxHeartbeats 400000 in
theorem UA.i_7 : CallOb Try.prog 79 #[aN 1000, aN 0, aN 100000] [] (aN 0) := by
  intro w hw
  refine calls_aw [aI 1000, aI 0, aI 100000, aU, aU, aU, aU, aU, aU, aU, aU, aU] [] Try.func79 rfl (by kernel_rfl) (fun e x h => by cases h) ?_
  refine aw_sr [⟨.pure, [], none, true⟩]
    (fun L1 => ⟨[aI 1000, aI 0, aI 100000, aU, aU, aU, aI 0, aU, aU, aU, aU, aU], [], []⟩)
    (fun L1 => [])
    fol (by kernel_rfl) (fun _ => by kernel_rfl) (fun L1 => trivial) (fun L1 => ?_)
  refine aw_sr [⟨.pure, [], none, true⟩, ⟨.pure, [], none, true⟩, ⟨.pure, [], none, true⟩, ⟨(.call [] (.bool (true))), [0, 1, 2], none, true⟩, ⟨(.call [] (aN 0)), [0, 1, 2, 3], none, true⟩, ⟨.pure, [0, 1, 2, 3, 4], none, true⟩]
    (fun L2 => ⟨[aI 1000, aI 0, aI 100000, aU, aU, aU, aI 0, aI 1000, aI 0, aI 100000, aT, aI 0], [], []⟩)
    (fun L2 => [CallOb Try.prog 127 #[aN 1000, aN 0, aN 100000] [] (.bool (true)), CallOb Try.prog 81 #[.bool (true), aN 2] [] (aN 0)])
    fol (by kernel_rfl) (fun _ => by kernel_rfl) (fun L2 => ⟨(callOb_frz (UA.i_5  )), (callOb_frz (UA.i_6  )), trivial⟩) (fun L2 => ?_)
  refine aw_ret ?_
  exact fin_ret none [0] (aN 0) [] (.inr rfl) rfl (by kernel_rfl) trivial (fun w' hb => ⟨rfl, hb⟩)

-- couplant/base.Within
set_option maxRecDepth 100000 in
set_option maxHeartbeats 400000 in
theorem UA.i_8 : CallOb Try.prog 127 #[aN 800, aN 1, aN 1000000] [] (.bool (true)) := by
  intro w hw
  refine calls_aw [aI 800, aI 1, aI 1000000, aU, aU, aU, aU, aU, aU, aU, aU, aU, aU, aU, aU] [] Try.func127 rfl (by kernel_rfl) (fun e x h => by cases h) ?_
  refine aw_sr [⟨.pure, [], none, true⟩]
    (fun L1 => ⟨[aI 800, aI 1, aI 1000000, aU, aU, aU, aF, aU, aU, aU, aU, aU, aU, aU, aU], [], []⟩)
    (fun L1 => [])
    fol (by kernel_rfl) (fun _ => by kernel_rfl) (fun L1 => trivial) (fun L1 => ?_)
  refine aw_sr [⟨.pure, [], none, true⟩, ⟨.pure, [], none, true⟩, ⟨.pure, [0, 1], none, true⟩, ⟨.pure, [0, 1, 2], none, true⟩, ⟨.pure, [0, 1, 2, 3], none, true⟩, ⟨.pure, [0, 1, 2, 3], none, true⟩, ⟨.pure, [0, 1, 2, 3, 4, 5], none, true⟩, ⟨.pure, [0, 1, 2, 3, 4, 5, 6], aT, true⟩, ⟨.pure, [0, 1, 2, 3, 4, 5, 6, 7], none, true⟩]
    (fun L2 => ⟨[aI 800, aI 1, aI 1000000, aU, aU, aU, aT, aI 1, aI 800, aT, aT, aI 800, aI 1000000, aT, aT], [], []⟩)
    (fun L2 => [(true) = true, (true) = true, (true) = true, (.bool (true) : Value) = .bool (true)])
    fol (by kernel_rfl) (fun _ => by kernel_rfl) (fun L2 => ⟨rfl, rfl, rfl, rfl, trivial⟩) (fun L2 => ?_)
  refine aw_ret ?_
  exact fin_ret none [0] (.bool (true)) [] (.inr rfl) rfl (by kernel_rfl) trivial (fun w' hb => ⟨rfl, hb⟩)

-- couplant/base.RangeError
set_option maxRecDepth 100000 in
set_option maxHeartbeats 400000 in
theorem UA.i_9 : CallOb Try.prog 79 #[aN 800, aN 1, aN 1000000] [] (aN 0) := by
  intro w hw
  refine calls_aw [aI 800, aI 1, aI 1000000, aU, aU, aU, aU, aU, aU, aU, aU, aU] [] Try.func79 rfl (by kernel_rfl) (fun e x h => by cases h) ?_
  refine aw_sr [⟨.pure, [], none, true⟩]
    (fun L1 => ⟨[aI 800, aI 1, aI 1000000, aU, aU, aU, aI 0, aU, aU, aU, aU, aU], [], []⟩)
    (fun L1 => [])
    fol (by kernel_rfl) (fun _ => by kernel_rfl) (fun L1 => trivial) (fun L1 => ?_)
  refine aw_sr [⟨.pure, [], none, true⟩, ⟨.pure, [], none, true⟩, ⟨.pure, [], none, true⟩, ⟨(.call [] (.bool (true))), [0, 1, 2], none, true⟩, ⟨(.call [] (aN 0)), [0, 1, 2, 3], none, true⟩, ⟨.pure, [0, 1, 2, 3, 4], none, true⟩]
    (fun L2 => ⟨[aI 800, aI 1, aI 1000000, aU, aU, aU, aI 0, aI 800, aI 1, aI 1000000, aT, aI 0], [], []⟩)
    (fun L2 => [CallOb Try.prog 127 #[aN 800, aN 1, aN 1000000] [] (.bool (true)), CallOb Try.prog 81 #[.bool (true), aN 2] [] (aN 0)])
    fol (by kernel_rfl) (fun _ => by kernel_rfl) (fun L2 => ⟨(callOb_frz (UA.i_8  )), (callOb_frz (UA.i_6  )), trivial⟩) (fun L2 => ?_)
  refine aw_ret ?_
  exact fin_ret none [0] (aN 0) [] (.inr rfl) rfl (by kernel_rfl) trivial (fun w' hb => ⟨rfl, hb⟩)

-- couplant/tune.echoError
set_option maxRecDepth 100000 in
set_option maxHeartbeats 400000 in
theorem UA.i_10 : CallOb Try.prog 80 #[aN 800] [] (aN 0) := by
  intro w hw
  refine calls_aw [aI 800, aU, aU, aU, aU] [] Try.func80 rfl (by kernel_rfl) (fun e x h => by cases h) ?_
  refine aw_sr [⟨.pure, [], none, true⟩]
    (fun L1 => ⟨[aI 800, aU, aI 0, aU, aU], [], []⟩)
    (fun L1 => [])
    fol (by kernel_rfl) (fun _ => by kernel_rfl) (fun L1 => trivial) (fun L1 => ?_)
  refine aw_sr [⟨.pure, [], none, true⟩, ⟨(.call [] (aN 0)), [0], none, true⟩, ⟨.pure, [0, 1], none, true⟩]
    (fun L2 => ⟨[aI 800, aU, aI 0, aI 800, aI 0], [], []⟩)
    (fun L2 => [CallOb Try.prog 79 #[aN 800, aN 1, aN 1000000] [] (aN 0)])
    fol (by kernel_rfl) (fun _ => by kernel_rfl) (fun L2 => ⟨(callOb_frz (UA.i_9  )), trivial⟩) (fun L2 => ?_)
  refine aw_ret ?_
  exact fin_ret none [0] (aN 0) [] (.inr rfl) rfl (by kernel_rfl) trivial (fun w' hb => ⟨rfl, hb⟩)

-- couplant/base.Unless
set_option maxRecDepth 100000 in
set_option maxHeartbeats 400000 in
theorem UA.i_11 : CallOb Try.prog 81 #[.bool (true), aN 9] [] (aN 0) := by
  intro w hw
  refine calls_aw [aT, aI 9, aU, aU, aU, aU, aU] [] Try.func81 rfl (by kernel_rfl) (fun e x h => by cases h) ?_
  refine aw_sr [⟨.pure, [], none, true⟩]
    (fun L1 => ⟨[aT, aI 9, aU, aU, aI 0, aU, aU], [], []⟩)
    (fun L1 => [])
    fol (by kernel_rfl) (fun _ => by kernel_rfl) (fun L1 => trivial) (fun L1 => ?_)
  refine aw_seq ?_
  refine aw_sr [⟨.pure, [], none, true⟩]
    (fun L2 => ⟨[aT, aI 9, aU, aU, aI 0, aT, aU], [], []⟩)
    (fun L2 => [])
    fol (by kernel_rfl) (fun _ => by kernel_rfl) (fun L2 => trivial) (fun L2 => ?_)
  refine aw_true (true) rfl rfl ?_
  refine aw_sr [⟨.pure, [], none, true⟩]
    (fun L3 => ⟨[aT, aI 9, aU, aU, aI 0, aT, aU], [], []⟩)
    (fun L3 => [])
    fol (by kernel_rfl) (fun _ => by kernel_rfl) (fun L3 => trivial) (fun L3 => ?_)
  refine aw_ret ?_
  refine ret_thn ?_
  exact fin_ret none [0] (aN 0) [] (.inr rfl) rfl (by kernel_rfl) trivial (fun w' hb => ⟨rfl, hb⟩)

-- couplant/base.FirstOf
set_option maxRecDepth 100000 in
set_option maxHeartbeats 400000 in
theorem UA.i_12 (b1 : Nat) : CallOb Try.prog 78 #[.slice (some ⟨b1, 0, none⟩) (3) (3)] [.blk (b1) [aN 0, aN 0, aN 0] 25 false] (aN 0) := by
  intro w hw
  refine calls_aw [aS b1 0 3 3, aU, aU, aU, aU, aU, aU, aU, aU, aU, aU, aU, aU, aU, aU] [.blk (b1) [aN 0, aN 0, aN 0] 25 false] Try.func78 rfl (by kernel_rfl) (esOk hw (by simp [Cel.mine])) ?_
  refine aw_sr [⟨.pure, [], none, true⟩]
    (fun L1 => ⟨[aS b1 0 3 3, aU, aI 0, aU, aU, aU, aU, aU, aU, aU, aU, aU, aU, aU, aU], [.blk (b1) [aN 0, aN 0, aN 0] 25 false], []⟩)
    (fun L1 => [])
    fol (by kernel_rfl) (fun _ => by kernel_rfl) (fun L1 => trivial) (fun L1 => ?_)
  refine aw_seq ?_
  refine aw_sr [⟨.pure, [], none, true⟩, ⟨.pure, [0], none, true⟩, ⟨.pure, [], none, true⟩]
    (fun L2 => ⟨[aS b1 0 3 3, aU, aI 0, aU, aU, aS b1 0 3 3, aI 3, aI 0, aU, aU, aU, aU, aU, aU, aU], [.blk (b1) [aN 0, aN 0, aN 0] 25 false], []⟩)
    (fun L2 => [])
    fol (by kernel_rfl) (fun _ => by kernel_rfl) (fun L2 => trivial) (fun L2 => ?_)
  refine aw_block ?_
  refine aw_rounds 4 ?_
  refine aw_round ?_
  refine aw_sr [⟨.pure, [], none, true⟩]
    (fun L3 => ⟨[aS b1 0 3 3, aU, aI 0, aU, aU, aS b1 0 3 3, aI 3, aI 0, aT, aU, aU, aU, aU, aU, aU], [.blk (b1) [aN 0, aN 0, aN 0] 25 false], []⟩)
    (fun L3 => [])
    fol (by kernel_rfl) (fun _ => by kernel_rfl) (fun L3 => trivial) (fun L3 => ?_)
  refine aw_seq ?_
  refine aw_true (true) rfl rfl ?_
  refine aw_skip ?_
  refine nrm_thn ?_
  refine aw_seq ?_
  refine aw_block ?_
  refine aw_sr [⟨.pure, [], none, true⟩, ⟨(.read 0), [0], none, true⟩, ⟨.pure, [0, 1], none, true⟩]
    (fun L4 => ⟨[aS b1 0 3 3, aU, aI 0, aU, aI 0, aS b1 0 3 3, aI 3, aI 0, aT, aP b1 0, aI 0, aU, aU, aU, aU], [.blk (b1) [aN 0, aN 0, aN 0] 25 false], []⟩)
    (fun L4 => [b1 = b1])
    fol (by kernel_rfl) (fun _ => by kernel_rfl) (fun L4 => ⟨rfl, trivial⟩) (fun L4 => ?_)
  refine aw_sr [⟨.pure, [], none, true⟩, ⟨.pure, [0], none, true⟩]
    (fun L5 => ⟨[aS b1 0 3 3, aU, aI 0, aU, aI 0, aS b1 0 3 3, aI 3, aI 0, aT, aP b1 0, aI 0, aI 0, aF, aU, aU], [.blk (b1) [aN 0, aN 0, aN 0] 25 false], []⟩)
    (fun L5 => [])
    fol (by kernel_rfl) (fun _ => by kernel_rfl) (fun L5 => trivial) (fun L5 => ?_)
  refine aw_false (false) rfl rfl ?_
  refine aw_skip ?_
  refine nrm_inB ?_
  refine nrm_thn ?_
  refine aw_region [⟨.pure, [], none, true⟩, ⟨.pure, [0], none, true⟩]
    (fun L6 => ⟨[aS b1 0 3 3, aU, aI 0, aU, aI 0, aS b1 0 3 3, aI 3, aI 1, aT, aP b1 0, aI 0, aI 0, aF, aU, aI 1], [.blk (b1) [aN 0, aN 0, aN 0] 25 false], []⟩)
    (fun L6 => [])
    fol (by kernel_rfl) (fun _ => by kernel_rfl) (fun L6 => trivial) (fun L6 => ?_)
  refine nrm_thn ?_
  refine aw_round ?_
  refine aw_sr [⟨.pure, [], none, true⟩]
    (fun L7 => ⟨[aS b1 0 3 3, aU, aI 0, aU, aI 0, aS b1 0 3 3, aI 3, aI 1, aT, aP b1 0, aI 0, aI 0, aF, aU, aI 1], [.blk (b1) [aN 0, aN 0, aN 0] 25 false], []⟩)
    (fun L7 => [])
    fol (by kernel_rfl) (fun _ => by kernel_rfl) (fun L7 => trivial) (fun L7 => ?_)
  refine aw_seq ?_
  refine aw_true (true) rfl rfl ?_
  refine aw_skip ?_
  refine nrm_thn ?_
  refine aw_seq ?_
  refine aw_block ?_
  refine aw_sr [⟨.pure, [], none, true⟩, ⟨(.read 0), [0], none, true⟩, ⟨.pure, [0, 1], none, true⟩]
    (fun L8 => ⟨[aS b1 0 3 3, aU, aI 0, aU, aI 0, aS b1 0 3 3, aI 3, aI 1, aT, aP b1 1, aI 0, aI 0, aF, aU, aI 1], [.blk (b1) [aN 0, aN 0, aN 0] 25 false], []⟩)
    (fun L8 => [b1 = b1])
    fol (by kernel_rfl) (fun _ => by kernel_rfl) (fun L8 => ⟨rfl, trivial⟩) (fun L8 => ?_)
  refine aw_sr [⟨.pure, [], none, true⟩, ⟨.pure, [0], none, true⟩]
    (fun L9 => ⟨[aS b1 0 3 3, aU, aI 0, aU, aI 0, aS b1 0 3 3, aI 3, aI 1, aT, aP b1 1, aI 0, aI 0, aF, aU, aI 1], [.blk (b1) [aN 0, aN 0, aN 0] 25 false], []⟩)
    (fun L9 => [])
    fol (by kernel_rfl) (fun _ => by kernel_rfl) (fun L9 => trivial) (fun L9 => ?_)
  refine aw_false (false) rfl rfl ?_
  refine aw_skip ?_
  refine nrm_inB ?_
  refine nrm_thn ?_
  refine aw_region [⟨.pure, [], none, true⟩, ⟨.pure, [0], none, true⟩]
    (fun L10 => ⟨[aS b1 0 3 3, aU, aI 0, aU, aI 0, aS b1 0 3 3, aI 3, aI 2, aT, aP b1 1, aI 0, aI 0, aF, aU, aI 2], [.blk (b1) [aN 0, aN 0, aN 0] 25 false], []⟩)
    (fun L10 => [])
    fol (by kernel_rfl) (fun _ => by kernel_rfl) (fun L10 => trivial) (fun L10 => ?_)
  refine nrm_thn ?_
  refine aw_round ?_
  refine aw_sr [⟨.pure, [], none, true⟩]
    (fun L11 => ⟨[aS b1 0 3 3, aU, aI 0, aU, aI 0, aS b1 0 3 3, aI 3, aI 2, aT, aP b1 1, aI 0, aI 0, aF, aU, aI 2], [.blk (b1) [aN 0, aN 0, aN 0] 25 false], []⟩)
    (fun L11 => [])
    fol (by kernel_rfl) (fun _ => by kernel_rfl) (fun L11 => trivial) (fun L11 => ?_)
  refine aw_seq ?_
  refine aw_true (true) rfl rfl ?_
  refine aw_skip ?_
  refine nrm_thn ?_
  refine aw_seq ?_
  refine aw_block ?_
  refine aw_sr [⟨.pure, [], none, true⟩, ⟨(.read 0), [0], none, true⟩, ⟨.pure, [0, 1], none, true⟩]
    (fun L12 => ⟨[aS b1 0 3 3, aU, aI 0, aU, aI 0, aS b1 0 3 3, aI 3, aI 2, aT, aP b1 2, aI 0, aI 0, aF, aU, aI 2], [.blk (b1) [aN 0, aN 0, aN 0] 25 false], []⟩)
    (fun L12 => [b1 = b1])
    fol (by kernel_rfl) (fun _ => by kernel_rfl) (fun L12 => ⟨rfl, trivial⟩) (fun L12 => ?_)
  refine aw_sr [⟨.pure, [], none, true⟩, ⟨.pure, [0], none, true⟩]
    (fun L13 => ⟨[aS b1 0 3 3, aU, aI 0, aU, aI 0, aS b1 0 3 3, aI 3, aI 2, aT, aP b1 2, aI 0, aI 0, aF, aU, aI 2], [.blk (b1) [aN 0, aN 0, aN 0] 25 false], []⟩)
    (fun L13 => [])
    fol (by kernel_rfl) (fun _ => by kernel_rfl) (fun L13 => trivial) (fun L13 => ?_)
  refine aw_false (false) rfl rfl ?_
  refine aw_skip ?_
  refine nrm_inB ?_
  refine nrm_thn ?_
  refine aw_region [⟨.pure, [], none, true⟩, ⟨.pure, [0], none, true⟩]
    (fun L14 => ⟨[aS b1 0 3 3, aU, aI 0, aU, aI 0, aS b1 0 3 3, aI 3, aI 3, aT, aP b1 2, aI 0, aI 0, aF, aU, aI 3], [.blk (b1) [aN 0, aN 0, aN 0] 25 false], []⟩)
    (fun L14 => [])
    fol (by kernel_rfl) (fun _ => by kernel_rfl) (fun L14 => trivial) (fun L14 => ?_)
  refine nrm_thn ?_
  refine aw_round ?_
  refine aw_sr [⟨.pure, [], none, true⟩]
    (fun L15 => ⟨[aS b1 0 3 3, aU, aI 0, aU, aI 0, aS b1 0 3 3, aI 3, aI 3, aF, aP b1 2, aI 0, aI 0, aF, aU, aI 3], [.blk (b1) [aN 0, aN 0, aN 0] 25 false], []⟩)
    (fun L15 => [])
    fol (by kernel_rfl) (fun _ => by kernel_rfl) (fun L15 => trivial) (fun L15 => ?_)
  refine aw_seq ?_
  refine aw_false (false) rfl rfl ?_
  refine aw_exit ?_
  refine ex_thn ?_
  refine ex_thn ?_
  refine ex_hit ?_
  refine nrm_thn ?_
  refine aw_sr [⟨.pure, [], none, true⟩]
    (fun L16 => ⟨[aS b1 0 3 3, aU, aI 0, aU, aI 0, aS b1 0 3 3, aI 3, aI 3, aF, aP b1 2, aI 0, aI 0, aF, aU, aI 3], [.blk (b1) [aN 0, aN 0, aN 0] 25 false], []⟩)
    (fun L16 => [])
    fol (by kernel_rfl) (fun _ => by kernel_rfl) (fun L16 => trivial) (fun L16 => ?_)
  refine aw_ret ?_
  exact fin_ret none [0] (aN 0) [] (.inr rfl) rfl (by kernel_rfl) trivial (fun w' hb => ⟨rfl, hb⟩)

-- couplant/tune.CheckTable$1
set_option maxRecDepth 100000 in
set_option maxHeartbeats 400000 in
theorem UA.i_13 (b1 b2 : Nat) : CallOb Try.prog 77 #[aN 0, .pointer (some ⟨b1, 0, none⟩)] [.blk (b1) [.slice (some ⟨b2, 0, none⟩) (2) (2)] 22 false, .blk (b2) [aN 1000, aN 800, aN 2000, aN 400] 39 false] (aN 0) := by
  intro w hw
  refine calls_aw [aI 0, aP b1 0, aU, aU, aU, aU, aU, aU, aU, aU, aU, aU, aU, aU, aU, aU, aU, aU, aU, aU, aU, aU, aU, aU, aU, aU, aU, aU, aU, aU, aU, aU, aU, aU, aU] [.blk (b1) [.slice (some ⟨b2, 0, none⟩) (2) (2)] 22 false, .blk (b2) [aN 1000, aN 800, aN 2000, aN 400] 39 false] Try.func77 rfl (by kernel_rfl) (esOk hw (by simp [Cel.mine])) ?_
  refine aw_sr [⟨.pure, [], none, true⟩]
    (fun L1 => ⟨[aI 0, aP b1 0, aU, aI 0, aU, aU, aU, aU, aU, aU, aU, aU, aU, aU, aU, aU, aU, aU, aU, aU, aU, aU, aU, aU, aU, aU, aU, aU, aU, aU, aU, aU, aU, aU, aU], [.blk (b1) [.slice (some ⟨b2, 0, none⟩) (2) (2)] 22 false, .blk (b2) [aN 1000, aN 800, aN 2000, aN 400] 39 false], []⟩)
    (fun L1 => [])
    fol (by kernel_rfl) (fun _ => by kernel_rfl) (fun L1 => trivial) (fun L1 => ?_)
  refine aw_sr [⟨(.read 0), [], none, true⟩, ⟨.pure, [], none, true⟩, ⟨.pure, [0, 1], none, true⟩, ⟨.pure, [0, 1, 2], none, true⟩, ⟨(.read 1), [0, 1, 2, 3], none, true⟩, ⟨(.call [] (aN 0)), [0, 1, 2, 3, 4], none, true⟩, ⟨(.read 0), [], none, true⟩, ⟨.pure, [], none, true⟩, ⟨.pure, [6, 7], none, true⟩, ⟨.pure, [6, 7, 8], none, true⟩, ⟨(.read 1), [6, 7, 8, 9], none, true⟩, ⟨(.call [] (aN 0)), [0, 1, 2, 3, 4, 5, 6, 7, 8, 9, 10], none, true⟩, ⟨.pure, [], none, true⟩, ⟨.pure, [12], none, true⟩, ⟨.pure, [0, 1, 2, 3, 4, 5, 6, 7, 8, 9, 10, 11, 12, 13], none, true⟩, ⟨.pure, [0, 1, 2, 3, 4, 5, 6, 7, 8, 9, 10, 11, 12, 13, 14], none, false⟩, ⟨.pure, [0, 1, 2, 3, 4, 5, 6, 7, 8, 9, 10, 11, 12, 13, 14], none, false⟩, ⟨.pure, [0, 1, 2, 3, 4, 5, 6, 7, 8, 9, 10, 11, 12, 13, 14, 15, 16], none, false⟩, ⟨.pure, [0, 1, 2, 3, 4, 5, 6, 7, 8, 9, 10, 11, 12, 13, 14, 15, 16, 17], none, false⟩, ⟨.pure, [0, 1, 2, 3, 4, 5, 6, 7, 8, 9, 10, 11, 12, 13, 14, 15, 16, 17, 18], none, false⟩, ⟨.pure, [0, 1, 2, 3, 4, 5, 6, 7, 8, 9, 10, 11, 12, 13, 14], none, false⟩, ⟨.pure, [0, 1, 2, 3, 4, 5, 6, 7, 8, 9, 10, 11, 12, 13, 14], none, false⟩, ⟨.pure, [0, 1, 2, 3, 4, 5, 6, 7, 8, 9, 10, 11, 12, 13, 14, 21], none, false⟩, ⟨.pure, [0, 1, 2, 3, 4, 5, 6, 7, 8, 9, 10, 11, 12, 13, 14, 20, 21, 22], none, false⟩, ⟨.pure, [0, 1, 2, 3, 4, 5, 6, 7, 8, 9, 10, 11, 12, 13, 14, 20, 21, 22, 23], none, false⟩, ⟨.pure, [0, 1, 2, 3, 4, 5, 6, 7, 8, 9, 10, 11, 12, 13, 14, 20, 21, 22, 23, 24], none, false⟩, ⟨.pure, [0, 1, 2, 3, 4, 5, 6, 7, 8, 9, 10, 11, 12, 13, 14, 15, 16, 17, 18, 19, 20, 21, 22, 23, 24, 25], none, false⟩, ⟨.pure, [0, 1, 2, 3, 4, 5, 6, 7, 8, 9, 10, 11, 12, 13, 14, 15, 16, 17, 18, 19, 20, 21, 22, 23, 24, 25, 26], aT, true⟩, ⟨(.call [] (aN 0)), [0, 1, 2, 3, 4, 5, 6, 7, 8, 9, 10, 11, 12, 13, 14, 15, 16, 17, 18, 19, 20, 21, 22, 23, 24, 25, 26, 27], none, true⟩, ⟨.new, [0, 1, 2, 3, 4, 5, 6, 7, 8, 9, 10, 11, 12, 13, 14, 15, 16, 17, 18, 19, 20, 21, 22, 23, 24, 25, 26, 27, 28], none, true⟩, ⟨(.call [31] (aN 0)), [0, 1, 2, 3, 4, 5, 6, 7, 8, 9, 10, 11, 12, 13, 14, 15, 16, 17, 18, 19, 20, 21, 22, 23, 24, 25, 26, 27, 28, 29], none, true⟩, ⟨.pure, [0, 1, 2, 3, 4, 5, 6, 7, 8, 9, 10, 11, 12, 13, 14, 15, 16, 17, 18, 19, 20, 21, 22, 23, 24, 25, 26, 27, 28, 29, 30], none, true⟩]
    (fun L2 => ⟨[aI 0, aP b1 0, aU, aI 0, aS b2 0 2 2, aI 0, aP b2 0, aP b2 0, aI 1000, aI 0, aS b2 0 2 2, aI 0, aP b2 0, aP b2 1, aI 800, aI 0, aI 0, aT, aT, aU, aU, aU, aU, aU, aU, aU, aU, aU, aU, aU, aU, aT, aI 0, aS (L2 29).b 0 3 3, aI 0], [.blk (b1) [.slice (some ⟨b2, 0, none⟩) (2) (2)] 22 false, .blk (b2) [aN 1000, aN 800, aN 2000, aN 400] 39 false, .blk ((L2 29).b) [aN 0, aN 0, aN 0] 25 true], []⟩)
    (fun L2 => [b1 = b1, b2 = b2, CallOb Try.prog 79 #[aN 1000, aN 0, aN 100000] [] (aN 0), b1 = b1, b2 = b2, CallOb Try.prog 80 #[aN 800] [] (aN 0), (true) = true, (true) = true, (true) = true, (true) = true, (true) = true, (true) = true, (true) = true, (true) = true, (true) = true, (true) = true, (true) = true, (true) = true, (.bool (true) : Value) = .bool (true), CallOb Try.prog 81 #[.bool (true), aN 9] [] (aN 0), CallOb Try.prog 78 #[.slice (some ⟨(L2 29).b, 0, none⟩) (3) (3)] [.blk ((L2 29).b) [aN 0, aN 0, aN 0] 25 true] (aN 0)])
    fol (by kernel_rfl) (fun _ => by kernel_rfl) (fun L2 => ⟨rfl, rfl, (callOb_frz (UA.i_7  )), rfl, rfl, (callOb_frz (UA.i_10  )), rfl, rfl, rfl, rfl, rfl, rfl, rfl, rfl, rfl, rfl, rfl, rfl, rfl, (callOb_frz (UA.i_11  )), (callOb_frz (UA.i_12 ((L2 29).b) )), trivial⟩) (fun L2 => ?_)
  refine aw_ret ?_
  exact fin_ret none [0] (aN 0) [] (.inr rfl) rfl (by kernel_rfl) trivial (fun w' hb => ⟨rfl, hb⟩)

-- couplant/base.Within
set_option maxRecDepth 100000 in
set_option maxHeartbeats 400000 in
theorem UA.i_14 : CallOb Try.prog 127 #[aN 2000, aN 0, aN 100000] [] (.bool (true)) := by
  intro w hw
  refine calls_aw [aI 2000, aI 0, aI 100000, aU, aU, aU, aU, aU, aU, aU, aU, aU, aU, aU, aU] [] Try.func127 rfl (by kernel_rfl) (fun e x h => by cases h) ?_
  refine aw_sr [⟨.pure, [], none, true⟩]
    (fun L1 => ⟨[aI 2000, aI 0, aI 100000, aU, aU, aU, aF, aU, aU, aU, aU, aU, aU, aU, aU], [], []⟩)
    (fun L1 => [])
    fol (by kernel_rfl) (fun _ => by kernel_rfl) (fun L1 => trivial) (fun L1 => ?_)
  refine aw_sr [⟨.pure, [], none, true⟩, ⟨.pure, [], none, true⟩, ⟨.pure, [0, 1], none, true⟩, ⟨.pure, [0, 1, 2], none, true⟩, ⟨.pure, [0, 1, 2, 3], none, true⟩, ⟨.pure, [0, 1, 2, 3], none, true⟩, ⟨.pure, [0, 1, 2, 3, 4, 5], none, true⟩, ⟨.pure, [0, 1, 2, 3, 4, 5, 6], aT, true⟩, ⟨.pure, [0, 1, 2, 3, 4, 5, 6, 7], none, true⟩]
    (fun L2 => ⟨[aI 2000, aI 0, aI 100000, aU, aU, aU, aT, aI 0, aI 2000, aT, aT, aI 2000, aI 100000, aT, aT], [], []⟩)
    (fun L2 => [(true) = true, (true) = true, (true) = true, (.bool (true) : Value) = .bool (true)])
    fol (by kernel_rfl) (fun _ => by kernel_rfl) (fun L2 => ⟨rfl, rfl, rfl, rfl, trivial⟩) (fun L2 => ?_)
  refine aw_ret ?_
  exact fin_ret none [0] (.bool (true)) [] (.inr rfl) rfl (by kernel_rfl) trivial (fun w' hb => ⟨rfl, hb⟩)

-- couplant/base.RangeError
set_option maxRecDepth 100000 in
set_option maxHeartbeats 400000 in
theorem UA.i_15 : CallOb Try.prog 79 #[aN 2000, aN 0, aN 100000] [] (aN 0) := by
  intro w hw
  refine calls_aw [aI 2000, aI 0, aI 100000, aU, aU, aU, aU, aU, aU, aU, aU, aU] [] Try.func79 rfl (by kernel_rfl) (fun e x h => by cases h) ?_
  refine aw_sr [⟨.pure, [], none, true⟩]
    (fun L1 => ⟨[aI 2000, aI 0, aI 100000, aU, aU, aU, aI 0, aU, aU, aU, aU, aU], [], []⟩)
    (fun L1 => [])
    fol (by kernel_rfl) (fun _ => by kernel_rfl) (fun L1 => trivial) (fun L1 => ?_)
  refine aw_sr [⟨.pure, [], none, true⟩, ⟨.pure, [], none, true⟩, ⟨.pure, [], none, true⟩, ⟨(.call [] (.bool (true))), [0, 1, 2], none, true⟩, ⟨(.call [] (aN 0)), [0, 1, 2, 3], none, true⟩, ⟨.pure, [0, 1, 2, 3, 4], none, true⟩]
    (fun L2 => ⟨[aI 2000, aI 0, aI 100000, aU, aU, aU, aI 0, aI 2000, aI 0, aI 100000, aT, aI 0], [], []⟩)
    (fun L2 => [CallOb Try.prog 127 #[aN 2000, aN 0, aN 100000] [] (.bool (true)), CallOb Try.prog 81 #[.bool (true), aN 2] [] (aN 0)])
    fol (by kernel_rfl) (fun _ => by kernel_rfl) (fun L2 => ⟨(callOb_frz (UA.i_14  )), (callOb_frz (UA.i_6  )), trivial⟩) (fun L2 => ?_)
  refine aw_ret ?_
  exact fin_ret none [0] (aN 0) [] (.inr rfl) rfl (by kernel_rfl) trivial (fun w' hb => ⟨rfl, hb⟩)

-- couplant/base.Within
set_option maxRecDepth 100000 in
set_option maxHeartbeats 400000 in
theorem UA.i_16 : CallOb Try.prog 127 #[aN 400, aN 1, aN 1000000] [] (.bool (true)) := by
  intro w hw
  refine calls_aw [aI 400, aI 1, aI 1000000, aU, aU, aU, aU, aU, aU, aU, aU, aU, aU, aU, aU] [] Try.func127 rfl (by kernel_rfl) (fun e x h => by cases h) ?_
  refine aw_sr [⟨.pure, [], none, true⟩]
    (fun L1 => ⟨[aI 400, aI 1, aI 1000000, aU, aU, aU, aF, aU, aU, aU, aU, aU, aU, aU, aU], [], []⟩)
    (fun L1 => [])
    fol (by kernel_rfl) (fun _ => by kernel_rfl) (fun L1 => trivial) (fun L1 => ?_)
  refine aw_sr [⟨.pure, [], none, true⟩, ⟨.pure, [], none, true⟩, ⟨.pure, [0, 1], none, true⟩, ⟨.pure, [0, 1, 2], none, true⟩, ⟨.pure, [0, 1, 2, 3], none, true⟩, ⟨.pure, [0, 1, 2, 3], none, true⟩, ⟨.pure, [0, 1, 2, 3, 4, 5], none, true⟩, ⟨.pure, [0, 1, 2, 3, 4, 5, 6], aT, true⟩, ⟨.pure, [0, 1, 2, 3, 4, 5, 6, 7], none, true⟩]
    (fun L2 => ⟨[aI 400, aI 1, aI 1000000, aU, aU, aU, aT, aI 1, aI 400, aT, aT, aI 400, aI 1000000, aT, aT], [], []⟩)
    (fun L2 => [(true) = true, (true) = true, (true) = true, (.bool (true) : Value) = .bool (true)])
    fol (by kernel_rfl) (fun _ => by kernel_rfl) (fun L2 => ⟨rfl, rfl, rfl, rfl, trivial⟩) (fun L2 => ?_)
  refine aw_ret ?_
  exact fin_ret none [0] (.bool (true)) [] (.inr rfl) rfl (by kernel_rfl) trivial (fun w' hb => ⟨rfl, hb⟩)

-- couplant/base.RangeError
set_option maxRecDepth 100000 in
set_option maxHeartbeats 400000 in
theorem UA.i_17 : CallOb Try.prog 79 #[aN 400, aN 1, aN 1000000] [] (aN 0) := by
  intro w hw
  refine calls_aw [aI 400, aI 1, aI 1000000, aU, aU, aU, aU, aU, aU, aU, aU, aU] [] Try.func79 rfl (by kernel_rfl) (fun e x h => by cases h) ?_
  refine aw_sr [⟨.pure, [], none, true⟩]
    (fun L1 => ⟨[aI 400, aI 1, aI 1000000, aU, aU, aU, aI 0, aU, aU, aU, aU, aU], [], []⟩)
    (fun L1 => [])
    fol (by kernel_rfl) (fun _ => by kernel_rfl) (fun L1 => trivial) (fun L1 => ?_)
  refine aw_sr [⟨.pure, [], none, true⟩, ⟨.pure, [], none, true⟩, ⟨.pure, [], none, true⟩, ⟨(.call [] (.bool (true))), [0, 1, 2], none, true⟩, ⟨(.call [] (aN 0)), [0, 1, 2, 3], none, true⟩, ⟨.pure, [0, 1, 2, 3, 4], none, true⟩]
    (fun L2 => ⟨[aI 400, aI 1, aI 1000000, aU, aU, aU, aI 0, aI 400, aI 1, aI 1000000, aT, aI 0], [], []⟩)
    (fun L2 => [CallOb Try.prog 127 #[aN 400, aN 1, aN 1000000] [] (.bool (true)), CallOb Try.prog 81 #[.bool (true), aN 2] [] (aN 0)])
    fol (by kernel_rfl) (fun _ => by kernel_rfl) (fun L2 => ⟨(callOb_frz (UA.i_16  )), (callOb_frz (UA.i_6  )), trivial⟩) (fun L2 => ?_)
  refine aw_ret ?_
  exact fin_ret none [0] (aN 0) [] (.inr rfl) rfl (by kernel_rfl) trivial (fun w' hb => ⟨rfl, hb⟩)

-- couplant/tune.echoError
set_option maxRecDepth 100000 in
set_option maxHeartbeats 400000 in
theorem UA.i_18 : CallOb Try.prog 80 #[aN 400] [] (aN 0) := by
  intro w hw
  refine calls_aw [aI 400, aU, aU, aU, aU] [] Try.func80 rfl (by kernel_rfl) (fun e x h => by cases h) ?_
  refine aw_sr [⟨.pure, [], none, true⟩]
    (fun L1 => ⟨[aI 400, aU, aI 0, aU, aU], [], []⟩)
    (fun L1 => [])
    fol (by kernel_rfl) (fun _ => by kernel_rfl) (fun L1 => trivial) (fun L1 => ?_)
  refine aw_sr [⟨.pure, [], none, true⟩, ⟨(.call [] (aN 0)), [0], none, true⟩, ⟨.pure, [0, 1], none, true⟩]
    (fun L2 => ⟨[aI 400, aU, aI 0, aI 400, aI 0], [], []⟩)
    (fun L2 => [CallOb Try.prog 79 #[aN 400, aN 1, aN 1000000] [] (aN 0)])
    fol (by kernel_rfl) (fun _ => by kernel_rfl) (fun L2 => ⟨(callOb_frz (UA.i_17  )), trivial⟩) (fun L2 => ?_)
  refine aw_ret ?_
  exact fin_ret none [0] (aN 0) [] (.inr rfl) rfl (by kernel_rfl) trivial (fun w' hb => ⟨rfl, hb⟩)

-- couplant/tune.CheckTable$1
set_option maxRecDepth 100000 in
set_option maxHeartbeats 400000 in
theorem UA.i_19 (b1 b2 : Nat) : CallOb Try.prog 77 #[aN 1, .pointer (some ⟨b1, 0, none⟩)] [.blk (b1) [.slice (some ⟨b2, 0, none⟩) (2) (2)] 22 false, .blk (b2) [aN 1000, aN 800, aN 2000, aN 400] 39 false] (aN 0) := by
  intro w hw
  refine calls_aw [aI 1, aP b1 0, aU, aU, aU, aU, aU, aU, aU, aU, aU, aU, aU, aU, aU, aU, aU, aU, aU, aU, aU, aU, aU, aU, aU, aU, aU, aU, aU, aU, aU, aU, aU, aU, aU] [.blk (b1) [.slice (some ⟨b2, 0, none⟩) (2) (2)] 22 false, .blk (b2) [aN 1000, aN 800, aN 2000, aN 400] 39 false] Try.func77 rfl (by kernel_rfl) (esOk hw (by simp [Cel.mine])) ?_
  refine aw_sr [⟨.pure, [], none, true⟩]
    (fun L1 => ⟨[aI 1, aP b1 0, aU, aI 0, aU, aU, aU, aU, aU, aU, aU, aU, aU, aU, aU, aU, aU, aU, aU, aU, aU, aU, aU, aU, aU, aU, aU, aU, aU, aU, aU, aU, aU, aU, aU], [.blk (b1) [.slice (some ⟨b2, 0, none⟩) (2) (2)] 22 false, .blk (b2) [aN 1000, aN 800, aN 2000, aN 400] 39 false], []⟩)
    (fun L1 => [])
    fol (by kernel_rfl) (fun _ => by kernel_rfl) (fun L1 => trivial) (fun L1 => ?_)
  refine aw_sr [⟨(.read 0), [], none, true⟩, ⟨.pure, [], none, true⟩, ⟨.pure, [0, 1], none, true⟩, ⟨.pure, [0, 1, 2], none, true⟩, ⟨(.read 1), [0, 1, 2, 3], none, true⟩, ⟨(.call [] (aN 0)), [0, 1, 2, 3, 4], none, true⟩, ⟨(.read 0), [], none, true⟩, ⟨.pure, [], none, true⟩, ⟨.pure, [6, 7], none, true⟩, ⟨.pure, [6, 7, 8], none, true⟩, ⟨(.read 1), [6, 7, 8, 9], none, true⟩, ⟨(.call [] (aN 0)), [0, 1, 2, 3, 4, 5, 6, 7, 8, 9, 10], none, true⟩, ⟨.pure, [], none, true⟩, ⟨.pure, [12], none, true⟩, ⟨.pure, [0, 1, 2, 3, 4, 5, 6, 7, 8, 9, 10, 11, 12, 13], none, true⟩, ⟨(.read 0), [0, 1, 2, 3, 4, 5, 6, 7, 8, 9, 10, 11, 12, 13, 14], none, true⟩, ⟨.pure, [0, 1, 2, 3, 4, 5, 6, 7, 8, 9, 10, 11, 12, 13, 14], none, true⟩, ⟨.pure, [0, 1, 2, 3, 4, 5, 6, 7, 8, 9, 10, 11, 12, 13, 14, 15, 16], none, true⟩, ⟨.pure, [0, 1, 2, 3, 4, 5, 6, 7, 8, 9, 10, 11, 12, 13, 14, 15, 16, 17], none, true⟩, ⟨(.read 1), [0, 1, 2, 3, 4, 5, 6, 7, 8, 9, 10, 11, 12, 13, 14, 15, 16, 17, 18], none, true⟩, ⟨(.read 0), [0, 1, 2, 3, 4, 5, 6, 7, 8, 9, 10, 11, 12, 13, 14], none, true⟩, ⟨.pure, [0, 1, 2, 3, 4, 5, 6, 7, 8, 9, 10, 11, 12, 13, 14], none, true⟩, ⟨.pure, [0, 1, 2, 3, 4, 5, 6, 7, 8, 9, 10, 11, 12, 13, 14, 21], none, true⟩, ⟨.pure, [0, 1, 2, 3, 4, 5, 6, 7, 8, 9, 10, 11, 12, 13, 14, 20, 21, 22], none, true⟩, ⟨.pure, [0, 1, 2, 3, 4, 5, 6, 7, 8, 9, 10, 11, 12, 13, 14, 20, 21, 22, 23], none, true⟩, ⟨(.read 1), [0, 1, 2, 3, 4, 5, 6, 7, 8, 9, 10, 11, 12, 13, 14, 20, 21, 22, 23, 24], none, true⟩, ⟨.pure, [0, 1, 2, 3, 4, 5, 6, 7, 8, 9, 10, 11, 12, 13, 14, 15, 16, 17, 18, 19, 20, 21, 22, 23, 24, 25], none, true⟩, ⟨.pure, [0, 1, 2, 3, 4, 5, 6, 7, 8, 9, 10, 11, 12, 13, 14, 15, 16, 17, 18, 19, 20, 21, 22, 23, 24, 25, 26], aT, true⟩, ⟨(.call [] (aN 0)), [0, 1, 2, 3, 4, 5, 6, 7, 8, 9, 10, 11, 12, 13, 14, 15, 16, 17, 18, 19, 20, 21, 22, 23, 24, 25, 26, 27], none, true⟩, ⟨.new, [0, 1, 2, 3, 4, 5, 6, 7, 8, 9, 10, 11, 12, 13, 14, 15, 16, 17, 18, 19, 20, 21, 22, 23, 24, 25, 26, 27, 28], none, true⟩, ⟨(.call [31] (aN 0)), [0, 1, 2, 3, 4, 5, 6, 7, 8, 9, 10, 11, 12, 13, 14, 15, 16, 17, 18, 19, 20, 21, 22, 23, 24, 25, 26, 27, 28, 29], none, true⟩, ⟨.pure, [0, 1, 2, 3, 4, 5, 6, 7, 8, 9, 10, 11, 12, 13, 14, 15, 16, 17, 18, 19, 20, 21, 22, 23, 24, 25, 26, 27, 28, 29, 30], none, true⟩]
    (fun L2 => ⟨[aI 1, aP b1 0, aU, aI 0, aS b2 0 2 2, aI 1, aP b2 2, aP b2 2, aI 2000, aI 0, aS b2 0 2 2, aI 1, aP b2 2, aP b2 3, aI 400, aI 0, aI 1, aF, aF, aS b2 0 2 2, aI 1, aP b2 2, aP b2 2, aI 2000, aS b2 0 2 2, aI 1, aI 0, aP b2 0, aP b2 0, aI 1000, aT, aT, aI 0, aS (L2 29).b 0 3 3, aI 0], [.blk (b1) [.slice (some ⟨b2, 0, none⟩) (2) (2)] 22 false, .blk (b2) [aN 1000, aN 800, aN 2000, aN 400] 39 false, .blk ((L2 29).b) [aN 0, aN 0, aN 0] 25 true], []⟩)
    (fun L2 => [b1 = b1, b2 = b2, CallOb Try.prog 79 #[aN 2000, aN 0, aN 100000] [] (aN 0), b1 = b1, b2 = b2, CallOb Try.prog 80 #[aN 400] [] (aN 0), (false) = false, b1 = b1, (false) = false, (false) = false, (false) = false, (false) = false, b2 = b2, (false) = false, b1 = b1, (false) = false, (false) = false, (false) = false, (false) = false, (false) = false, b2 = b2, (false) = false, (.bool (true) : Value) = .bool (true), CallOb Try.prog 81 #[.bool (true), aN 9] [] (aN 0), CallOb Try.prog 78 #[.slice (some ⟨(L2 29).b, 0, none⟩) (3) (3)] [.blk ((L2 29).b) [aN 0, aN 0, aN 0] 25 true] (aN 0)])
    fol (by kernel_rfl) (fun _ => by kernel_rfl) (fun L2 => ⟨rfl, rfl, (callOb_frz (UA.i_15  )), rfl, rfl, (callOb_frz (UA.i_18  )), rfl, rfl, rfl, rfl, rfl, rfl, rfl, rfl, rfl, rfl, rfl, rfl, rfl, rfl, rfl, rfl, rfl, (callOb_frz (UA.i_11  )), (callOb_frz (UA.i_12 ((L2 29).b) )), trivial⟩) (fun L2 => ?_)
  refine aw_ret ?_
  exact fin_ret none [0] (aN 0) [] (.inr rfl) rfl (by kernel_rfl) trivial (fun w' hb => ⟨rfl, hb⟩)

-- couplant/base.FirstIn
set_option maxRecDepth 100000 in
set_option maxHeartbeats 400000 in
theorem UA.i_20 (b1 b2 : Nat) : CallOb Try.prog 76 #[aN 2, .func (.func 77) #[] #[.pointer (some ⟨b1, 0, none⟩)]] [.blk (b1) [.slice (some ⟨b2, 0, none⟩) (2) (2)] 22 false, .blk (b2) [aN 1000, aN 800, aN 2000, aN 400] 39 false] (.tuple #[aN 0, aN 0]) := by
  intro w hw
  refine calls_aw [aI 2, some (.func (.func 77) #[] #[.pointer (some ⟨b1, 0, none⟩)]), aU, aU, aU, aU, aU, aU, aU, aU, aU, aU, aU, aU, aU, aU, aU, aU, aU, aU] [.blk (b1) [.slice (some ⟨b2, 0, none⟩) (2) (2)] 22 false, .blk (b2) [aN 1000, aN 800, aN 2000, aN 400] 39 false] Try.func76 rfl (by kernel_rfl) (esOk hw (by simp [Cel.mine])) ?_
  refine aw_sr [⟨.pure, [], none, true⟩, ⟨.pure, [0], none, true⟩]
    (fun L1 => ⟨[aI 2, some (.func (.func 77) #[] #[.pointer (some ⟨b1, 0, none⟩)]), aU, aU, aI 0, aI 0, aU, aU, aU, aU, aU, aU, aU, aU, aU, aU, aU, aU, aU, aU], [.blk (b1) [.slice (some ⟨b2, 0, none⟩) (2) (2)] 22 false, .blk (b2) [aN 1000, aN 800, aN 2000, aN 400] 39 false], []⟩)
    (fun L1 => [])
    fol (by kernel_rfl) (fun _ => by kernel_rfl) (fun L1 => trivial) (fun L1 => ?_)
  refine aw_seq ?_
  refine aw_sr [⟨.pure, [], none, true⟩, ⟨.pure, [], none, true⟩]
    (fun L2 => ⟨[aI 2, some (.func (.func 77) #[] #[.pointer (some ⟨b1, 0, none⟩)]), aU, aU, aI 0, aI 0, aU, aU, aI 2, aI 0, aU, aU, aU, aU, aU, aU, aU, aU, aU, aU], [.blk (b1) [.slice (some ⟨b2, 0, none⟩) (2) (2)] 22 false, .blk (b2) [aN 1000, aN 800, aN 2000, aN 400] 39 false], []⟩)
    (fun L2 => [])
    fol (by kernel_rfl) (fun _ => by kernel_rfl) (fun L2 => trivial) (fun L2 => ?_)
  refine aw_block ?_
  refine aw_rounds 3 ?_
  refine aw_round ?_
  refine aw_sr [⟨.pure, [], none, true⟩]
    (fun L3 => ⟨[aI 2, some (.func (.func 77) #[] #[.pointer (some ⟨b1, 0, none⟩)]), aU, aU, aI 0, aI 0, aU, aU, aI 2, aI 0, aT, aU, aU, aU, aU, aU, aU, aU, aU, aU], [.blk (b1) [.slice (some ⟨b2, 0, none⟩) (2) (2)] 22 false, .blk (b2) [aN 1000, aN 800, aN 2000, aN 400] 39 false], []⟩)
    (fun L3 => [])
    fol (by kernel_rfl) (fun _ => by kernel_rfl) (fun L3 => trivial) (fun L3 => ?_)
  refine aw_seq ?_
  refine aw_true (true) rfl rfl ?_
  refine aw_skip ?_
  refine nrm_thn ?_
  refine aw_seq ?_
  refine aw_block ?_
  refine aw_sr [⟨.pure, [], none, true⟩, ⟨.pure, [0], none, true⟩]
    (fun L4 => ⟨[aI 2, some (.func (.func 77) #[] #[.pointer (some ⟨b1, 0, none⟩)]), aU, aU, aI 0, aI 0, aI 0, aU, aI 2, aI 0, aT, aI 0, aU, aU, aU, aU, aU, aU, aU, aU], [.blk (b1) [.slice (some ⟨b2, 0, none⟩) (2) (2)] 22 false, .blk (b2) [aN 1000, aN 800, aN 2000, aN 400] 39 false], []⟩)
    (fun L4 => [])
    fol (by kernel_rfl) (fun _ => by kernel_rfl) (fun L4 => trivial) (fun L4 => ?_)
  refine aw_sr [⟨.pure, [], none, true⟩, ⟨.pure, [], none, true⟩, ⟨(.call [0, 1] (aN 0)), [0, 1], none, true⟩, ⟨.pure, [0, 1, 2], none, true⟩]
    (fun L5 => ⟨[aI 2, some (.func (.func 77) #[] #[.pointer (some ⟨b1, 0, none⟩)]), aU, aU, aI 0, aI 0, aI 0, aI 0, aI 2, aI 0, aT, aI 0, some (.func (.func 77) #[] #[.pointer (some ⟨b1, 0, none⟩)]), aI 0, aI 0, aU, aU, aU, aU, aU], [.blk (b1) [.slice (some ⟨b2, 0, none⟩) (2) (2)] 22 false, .blk (b2) [aN 1000, aN 800, aN 2000, aN 400] 39 false], []⟩)
    (fun L5 => [CallOb Try.prog 77 #[aN 0, .pointer (some ⟨b1, 0, none⟩)] [.blk (b1) [.slice (some ⟨b2, 0, none⟩) (2) (2)] 22 false, .blk (b2) [aN 1000, aN 800, aN 2000, aN 400] 39 false] (aN 0)])
    fol (by kernel_rfl) (fun _ => by kernel_rfl) (fun L5 => ⟨(callOb_frz (UA.i_13 (b1) (b2) )), trivial⟩) (fun L5 => ?_)
  refine aw_sr [⟨.pure, [], none, true⟩, ⟨.pure, [0], none, true⟩]
    (fun L6 => ⟨[aI 2, some (.func (.func 77) #[] #[.pointer (some ⟨b1, 0, none⟩)]), aU, aU, aI 0, aI 0, aI 0, aI 0, aI 2, aI 0, aT, aI 0, some (.func (.func 77) #[] #[.pointer (some ⟨b1, 0, none⟩)]), aI 0, aI 0, aI 0, aF, aU, aU, aU], [.blk (b1) [.slice (some ⟨b2, 0, none⟩) (2) (2)] 22 false, .blk (b2) [aN 1000, aN 800, aN 2000, aN 400] 39 false], []⟩)
    (fun L6 => [])
    fol (by kernel_rfl) (fun _ => by kernel_rfl) (fun L6 => trivial) (fun L6 => ?_)
  refine aw_false (false) rfl rfl ?_
  refine aw_skip ?_
  refine nrm_inB ?_
  refine nrm_thn ?_
  refine aw_region [⟨.pure, [], none, true⟩, ⟨.pure, [0], none, true⟩]
    (fun L7 => ⟨[aI 2, some (.func (.func 77) #[] #[.pointer (some ⟨b1, 0, none⟩)]), aU, aU, aI 0, aI 0, aI 0, aI 0, aI 2, aI 1, aT, aI 0, some (.func (.func 77) #[] #[.pointer (some ⟨b1, 0, none⟩)]), aI 0, aI 0, aI 0, aF, aU, aU, aI 1], [.blk (b1) [.slice (some ⟨b2, 0, none⟩) (2) (2)] 22 false, .blk (b2) [aN 1000, aN 800, aN 2000, aN 400] 39 false], []⟩)
    (fun L7 => [])
    fol (by kernel_rfl) (fun _ => by kernel_rfl) (fun L7 => trivial) (fun L7 => ?_)
  refine nrm_thn ?_
  refine aw_round ?_
  refine aw_sr [⟨.pure, [], none, true⟩]
    (fun L8 => ⟨[aI 2, some (.func (.func 77) #[] #[.pointer (some ⟨b1, 0, none⟩)]), aU, aU, aI 0, aI 0, aI 0, aI 0, aI 2, aI 1, aT, aI 0, some (.func (.func 77) #[] #[.pointer (some ⟨b1, 0, none⟩)]), aI 0, aI 0, aI 0, aF, aU, aU, aI 1], [.blk (b1) [.slice (some ⟨b2, 0, none⟩) (2) (2)] 22 false, .blk (b2) [aN 1000, aN 800, aN 2000, aN 400] 39 false], []⟩)
    (fun L8 => [])
    fol (by kernel_rfl) (fun _ => by kernel_rfl) (fun L8 => trivial) (fun L8 => ?_)
  refine aw_seq ?_
  refine aw_true (true) rfl rfl ?_
  refine aw_skip ?_
  refine nrm_thn ?_
  refine aw_seq ?_
  refine aw_block ?_
  refine aw_sr [⟨.pure, [], none, true⟩, ⟨.pure, [0], none, true⟩]
    (fun L9 => ⟨[aI 2, some (.func (.func 77) #[] #[.pointer (some ⟨b1, 0, none⟩)]), aU, aU, aI 0, aI 0, aI 1, aI 0, aI 2, aI 1, aT, aI 1, some (.func (.func 77) #[] #[.pointer (some ⟨b1, 0, none⟩)]), aI 0, aI 0, aI 0, aF, aU, aU, aI 1], [.blk (b1) [.slice (some ⟨b2, 0, none⟩) (2) (2)] 22 false, .blk (b2) [aN 1000, aN 800, aN 2000, aN 400] 39 false], []⟩)
    (fun L9 => [])
    fol (by kernel_rfl) (fun _ => by kernel_rfl) (fun L9 => trivial) (fun L9 => ?_)
  refine aw_sr [⟨.pure, [], none, true⟩, ⟨.pure, [], none, true⟩, ⟨(.call [0, 1] (aN 0)), [0, 1], none, true⟩, ⟨.pure, [0, 1, 2], none, true⟩]
    (fun L10 => ⟨[aI 2, some (.func (.func 77) #[] #[.pointer (some ⟨b1, 0, none⟩)]), aU, aU, aI 0, aI 0, aI 1, aI 0, aI 2, aI 1, aT, aI 1, some (.func (.func 77) #[] #[.pointer (some ⟨b1, 0, none⟩)]), aI 1, aI 0, aI 0, aF, aU, aU, aI 1], [.blk (b1) [.slice (some ⟨b2, 0, none⟩) (2) (2)] 22 false, .blk (b2) [aN 1000, aN 800, aN 2000, aN 400] 39 false], []⟩)
    (fun L10 => [CallOb Try.prog 77 #[aN 1, .pointer (some ⟨b1, 0, none⟩)] [.blk (b1) [.slice (some ⟨b2, 0, none⟩) (2) (2)] 22 false, .blk (b2) [aN 1000, aN 800, aN 2000, aN 400] 39 false] (aN 0)])
    fol (by kernel_rfl) (fun _ => by kernel_rfl) (fun L10 => ⟨(callOb_frz (UA.i_19 (b1) (b2) )), trivial⟩) (fun L10 => ?_)
  refine aw_sr [⟨.pure, [], none, true⟩, ⟨.pure, [0], none, true⟩]
    (fun L11 => ⟨[aI 2, some (.func (.func 77) #[] #[.pointer (some ⟨b1, 0, none⟩)]), aU, aU, aI 0, aI 0, aI 1, aI 0, aI 2, aI 1, aT, aI 1, some (.func (.func 77) #[] #[.pointer (some ⟨b1, 0, none⟩)]), aI 1, aI 0, aI 0, aF, aU, aU, aI 1], [.blk (b1) [.slice (some ⟨b2, 0, none⟩) (2) (2)] 22 false, .blk (b2) [aN 1000, aN 800, aN 2000, aN 400] 39 false], []⟩)
    (fun L11 => [])
    fol (by kernel_rfl) (fun _ => by kernel_rfl) (fun L11 => trivial) (fun L11 => ?_)
  refine aw_false (false) rfl rfl ?_
  refine aw_skip ?_
  refine nrm_inB ?_
  refine nrm_thn ?_
  refine aw_region [⟨.pure, [], none, true⟩, ⟨.pure, [0], none, true⟩]
    (fun L12 => ⟨[aI 2, some (.func (.func 77) #[] #[.pointer (some ⟨b1, 0, none⟩)]), aU, aU, aI 0, aI 0, aI 1, aI 0, aI 2, aI 2, aT, aI 1, some (.func (.func 77) #[] #[.pointer (some ⟨b1, 0, none⟩)]), aI 1, aI 0, aI 0, aF, aU, aU, aI 2], [.blk (b1) [.slice (some ⟨b2, 0, none⟩) (2) (2)] 22 false, .blk (b2) [aN 1000, aN 800, aN 2000, aN 400] 39 false], []⟩)
    (fun L12 => [])
    fol (by kernel_rfl) (fun _ => by kernel_rfl) (fun L12 => trivial) (fun L12 => ?_)
  refine nrm_thn ?_
  refine aw_round ?_
  refine aw_sr [⟨.pure, [], none, true⟩]
    (fun L13 => ⟨[aI 2, some (.func (.func 77) #[] #[.pointer (some ⟨b1, 0, none⟩)]), aU, aU, aI 0, aI 0, aI 1, aI 0, aI 2, aI 2, aF, aI 1, some (.func (.func 77) #[] #[.pointer (some ⟨b1, 0, none⟩)]), aI 1, aI 0, aI 0, aF, aU, aU, aI 2], [.blk (b1) [.slice (some ⟨b2, 0, none⟩) (2) (2)] 22 false, .blk (b2) [aN 1000, aN 800, aN 2000, aN 400] 39 false], []⟩)
    (fun L13 => [])
    fol (by kernel_rfl) (fun _ => by kernel_rfl) (fun L13 => trivial) (fun L13 => ?_)
  refine aw_seq ?_
  refine aw_false (false) rfl rfl ?_
  refine aw_exit ?_
  refine ex_thn ?_
  refine ex_thn ?_
  refine ex_hit ?_
  refine nrm_thn ?_
  refine aw_sr [⟨.pure, [], none, true⟩, ⟨.pure, [0], none, true⟩]
    (fun L14 => ⟨[aI 2, some (.func (.func 77) #[] #[.pointer (some ⟨b1, 0, none⟩)]), aU, aU, aI 0, aI 0, aI 1, aI 0, aI 2, aI 2, aF, aI 1, some (.func (.func 77) #[] #[.pointer (some ⟨b1, 0, none⟩)]), aI 1, aI 0, aI 0, aF, aU, aU, aI 2], [.blk (b1) [.slice (some ⟨b2, 0, none⟩) (2) (2)] 22 false, .blk (b2) [aN 1000, aN 800, aN 2000, aN 400] 39 false], []⟩)
    (fun L14 => [])
    fol (by kernel_rfl) (fun _ => by kernel_rfl) (fun L14 => trivial) (fun L14 => ?_)
  refine aw_ret ?_
  exact fin_ret none [0, 0] (.tuple #[aN 0, aN 0]) [] (.inr rfl) rfl (by kernel_rfl) trivial (fun w' hb => ⟨rfl, hb⟩)

-- couplant/tune.CheckTable
set_option maxRecDepth 100000 in
set_option maxHeartbeats 400000 in
theorem UA.i_21 (b1 : Nat) : CallOb Try.prog 19 #[.slice (some ⟨b1, 0, none⟩) (2) (2)] [.blk (b1) [aN 1000, aN 800, aN 2000, aN 400] 39 false] (.tuple #[aN 0, aN 0]) := by
  intro w hw
  refine calls_aw [aS b1 0 2 2, aU, aU, aU, aU, aU, aU, aU, aU, aU, aU, aU, aU, aU, aU, aU, aU] [.blk (b1) [aN 1000, aN 800, aN 2000, aN 400] 39 false] Try.func19 rfl (by kernel_rfl) (esOk hw (by simp [Cel.mine])) ?_
  refine aw_sr [⟨.new, [], none, true⟩, ⟨.pure, [], none, true⟩, ⟨.pure, [1], none, true⟩]
    (fun L1 => ⟨[aS b1 0 2 2, aP (L1 0).b 0, aI 0, aI 0, aU, aU, aU, aU, aU, aU, aU, aU, aU, aU, aU, aU, aU], [.blk (b1) [aN 1000, aN 800, aN 2000, aN 400] 39 false, .blk ((L1 0).b) [.slice (some ⟨b1, 0, none⟩) (2) (2)] 22 true], []⟩)
    (fun L1 => [])
    fol (by kernel_rfl) (fun _ => by kernel_rfl) (fun L1 => trivial) (fun L1 => ?_)
  refine aw_seq ?_
  refine aw_sr [⟨(.read 1), [], none, true⟩, ⟨.pure, [0], none, true⟩, ⟨(.call [] (aN 0)), [0, 1], none, true⟩, ⟨.pure, [0, 1, 2], none, true⟩]
    (fun L2 => ⟨[aS b1 0 2 2, aP (L1 0).b 0, aI 0, aI 0, aI 0, aS b1 0 2 2, aI 2, aI 0, aU, aU, aU, aU, aU, aU, aU, aU, aU], [.blk (b1) [aN 1000, aN 800, aN 2000, aN 400] 39 false, .blk ((L1 0).b) [.slice (some ⟨b1, 0, none⟩) (2) (2)] 22 true], []⟩)
    (fun L2 => [(L1 0).b = (L1 0).b, CallOb Try.prog 75 #[aN 2, aN 20] [] (aN 0)])
    fol (by kernel_rfl) (fun _ => by kernel_rfl) (fun L2 => ⟨rfl, (callOb_frz (UA.i_4  )), trivial⟩) (fun L2 => ?_)
  refine aw_sr [⟨.pure, [], none, true⟩, ⟨.pure, [0], none, true⟩]
    (fun L3 => ⟨[aS b1 0 2 2, aP (L1 0).b 0, aI 0, aI 0, aI 0, aS b1 0 2 2, aI 2, aI 0, aI 0, aF, aU, aU, aU, aU, aU, aU, aU], [.blk (b1) [aN 1000, aN 800, aN 2000, aN 400] 39 false, .blk ((L1 0).b) [.slice (some ⟨b1, 0, none⟩) (2) (2)] 22 true], []⟩)
    (fun L3 => [])
    fol (by kernel_rfl) (fun _ => by kernel_rfl) (fun L3 => trivial) (fun L3 => ?_)
  refine aw_false (false) rfl rfl ?_
  refine aw_skip ?_
  refine nrm_thn ?_
  refine aw_sr [⟨(.read 1), [], none, true⟩, ⟨.pure, [0], none, true⟩, ⟨.pure, [], none, true⟩, ⟨(.call [1, 0] (.tuple #[aN 0, aN 0])), [0, 1, 2], none, true⟩, ⟨.pure, [0, 1, 2, 3], none, true⟩, ⟨.pure, [0, 1, 2, 3], none, true⟩, ⟨.pure, [0, 1, 2, 3, 4, 5], none, true⟩, ⟨.pure, [0, 1, 2, 3, 4, 5, 6], none, true⟩]
    (fun L4 => ⟨[aS b1 0 2 2, aP (L1 0).b 0, aI 0, aI 0, aI 0, aS b1 0 2 2, aI 2, aI 0, aI 0, aF, aU, aS b1 0 2 2, aI 2, some (.func (.func 77) #[] #[.pointer (some ⟨(L1 0).b, 0, none⟩)]), some (.tuple #[aN 0, aN 0]), aI 0, aI 0], [.blk (b1) [aN 1000, aN 800, aN 2000, aN 400] 39 false, .blk ((L1 0).b) [.slice (some ⟨b1, 0, none⟩) (2) (2)] 22 true], []⟩)
    (fun L4 => [(L1 0).b = (L1 0).b, CallOb Try.prog 76 #[aN 2, .func (.func 77) #[] #[.pointer (some ⟨(L1 0).b, 0, none⟩)]] [.blk ((L1 0).b) [.slice (some ⟨b1, 0, none⟩) (2) (2)] 22 true, .blk (b1) [aN 1000, aN 800, aN 2000, aN 400] 39 false] (.tuple #[aN 0, aN 0])])
    fol (by kernel_rfl) (fun _ => by kernel_rfl) (fun L4 => ⟨rfl, (callOb_frz (UA.i_20 ((L1 0).b) (b1) )), trivial⟩) (fun L4 => ?_)
  refine aw_ret ?_
  exact fin_ret none [0, 0] (.tuple #[aN 0, aN 0]) [] (.inr rfl) rfl (by kernel_rfl) trivial (fun w' hb => ⟨rfl, hb⟩)

-- couplant/base.Within
set_option maxRecDepth 100000 in
set_option maxHeartbeats 400000 in
theorem UA.i_22 : CallOb Try.prog 127 #[aN 1500, aN 0, aN 100000] [] (.bool (true)) := by
  intro w hw
  refine calls_aw [aI 1500, aI 0, aI 100000, aU, aU, aU, aU, aU, aU, aU, aU, aU, aU, aU, aU] [] Try.func127 rfl (by kernel_rfl) (fun e x h => by cases h) ?_
  refine aw_sr [⟨.pure, [], none, true⟩]
    (fun L1 => ⟨[aI 1500, aI 0, aI 100000, aU, aU, aU, aF, aU, aU, aU, aU, aU, aU, aU, aU], [], []⟩)
    (fun L1 => [])
    fol (by kernel_rfl) (fun _ => by kernel_rfl) (fun L1 => trivial) (fun L1 => ?_)
  refine aw_sr [⟨.pure, [], none, true⟩, ⟨.pure, [], none, true⟩, ⟨.pure, [0, 1], none, true⟩, ⟨.pure, [0, 1, 2], none, true⟩, ⟨.pure, [0, 1, 2, 3], none, true⟩, ⟨.pure, [0, 1, 2, 3], none, true⟩, ⟨.pure, [0, 1, 2, 3, 4, 5], none, true⟩, ⟨.pure, [0, 1, 2, 3, 4, 5, 6], aT, true⟩, ⟨.pure, [0, 1, 2, 3, 4, 5, 6, 7], none, true⟩]
    (fun L2 => ⟨[aI 1500, aI 0, aI 100000, aU, aU, aU, aT, aI 0, aI 1500, aT, aT, aI 1500, aI 100000, aT, aT], [], []⟩)
    (fun L2 => [(true) = true, (true) = true, (true) = true, (.bool (true) : Value) = .bool (true)])
    fol (by kernel_rfl) (fun _ => by kernel_rfl) (fun L2 => ⟨rfl, rfl, rfl, rfl, trivial⟩) (fun L2 => ?_)
  refine aw_ret ?_
  exact fin_ret none [0] (.bool (true)) [] (.inr rfl) rfl (by kernel_rfl) trivial (fun w' hb => ⟨rfl, hb⟩)

-- couplant/base.RangeError
set_option maxRecDepth 100000 in
set_option maxHeartbeats 400000 in
theorem UA.i_23 : CallOb Try.prog 79 #[aN 1500, aN 0, aN 100000] [] (aN 0) := by
  intro w hw
  refine calls_aw [aI 1500, aI 0, aI 100000, aU, aU, aU, aU, aU, aU, aU, aU, aU] [] Try.func79 rfl (by kernel_rfl) (fun e x h => by cases h) ?_
  refine aw_sr [⟨.pure, [], none, true⟩]
    (fun L1 => ⟨[aI 1500, aI 0, aI 100000, aU, aU, aU, aI 0, aU, aU, aU, aU, aU], [], []⟩)
    (fun L1 => [])
    fol (by kernel_rfl) (fun _ => by kernel_rfl) (fun L1 => trivial) (fun L1 => ?_)
  refine aw_sr [⟨.pure, [], none, true⟩, ⟨.pure, [], none, true⟩, ⟨.pure, [], none, true⟩, ⟨(.call [] (.bool (true))), [0, 1, 2], none, true⟩, ⟨(.call [] (aN 0)), [0, 1, 2, 3], none, true⟩, ⟨.pure, [0, 1, 2, 3, 4], none, true⟩]
    (fun L2 => ⟨[aI 1500, aI 0, aI 100000, aU, aU, aU, aI 0, aI 1500, aI 0, aI 100000, aT, aI 0], [], []⟩)
    (fun L2 => [CallOb Try.prog 127 #[aN 1500, aN 0, aN 100000] [] (.bool (true)), CallOb Try.prog 81 #[.bool (true), aN 2] [] (aN 0)])
    fol (by kernel_rfl) (fun _ => by kernel_rfl) (fun L2 => ⟨(callOb_frz (UA.i_22  )), (callOb_frz (UA.i_6  )), trivial⟩) (fun L2 => ?_)
  refine aw_ret ?_
  exact fin_ret none [0] (aN 0) [] (.inr rfl) rfl (by kernel_rfl) trivial (fun w' hb => ⟨rfl, hb⟩)

-- couplant/base.Within
set_option maxRecDepth 100000 in
set_option maxHeartbeats 400000 in
theorem UA.i_24 : CallOb Try.prog 127 #[aN 1500, aN 1000, aN 2000] [] (.bool (true)) := by
  intro w hw
  refine calls_aw [aI 1500, aI 1000, aI 2000, aU, aU, aU, aU, aU, aU, aU, aU, aU, aU, aU, aU] [] Try.func127 rfl (by kernel_rfl) (fun e x h => by cases h) ?_
  refine aw_sr [⟨.pure, [], none, true⟩]
    (fun L1 => ⟨[aI 1500, aI 1000, aI 2000, aU, aU, aU, aF, aU, aU, aU, aU, aU, aU, aU, aU], [], []⟩)
    (fun L1 => [])
    fol (by kernel_rfl) (fun _ => by kernel_rfl) (fun L1 => trivial) (fun L1 => ?_)
  refine aw_sr [⟨.pure, [], none, true⟩, ⟨.pure, [], none, true⟩, ⟨.pure, [0, 1], none, true⟩, ⟨.pure, [0, 1, 2], none, true⟩, ⟨.pure, [0, 1, 2, 3], none, true⟩, ⟨.pure, [0, 1, 2, 3], none, true⟩, ⟨.pure, [0, 1, 2, 3, 4, 5], none, true⟩, ⟨.pure, [0, 1, 2, 3, 4, 5, 6], aT, true⟩, ⟨.pure, [0, 1, 2, 3, 4, 5, 6, 7], none, true⟩]
    (fun L2 => ⟨[aI 1500, aI 1000, aI 2000, aU, aU, aU, aT, aI 1000, aI 1500, aT, aT, aI 1500, aI 2000, aT, aT], [], []⟩)
    (fun L2 => [(true) = true, (true) = true, (true) = true, (.bool (true) : Value) = .bool (true)])
    fol (by kernel_rfl) (fun _ => by kernel_rfl) (fun L2 => ⟨rfl, rfl, rfl, rfl, trivial⟩) (fun L2 => ?_)
  refine aw_ret ?_
  exact fin_ret none [0] (.bool (true)) [] (.inr rfl) rfl (by kernel_rfl) trivial (fun w' hb => ⟨rfl, hb⟩)

-- couplant/base.Unless
set_option maxRecDepth 100000 in
set_option maxHeartbeats 400000 in
theorem UA.i_25 : CallOb Try.prog 81 #[.bool (true), aN 12] [] (aN 0) := by
  intro w hw
  refine calls_aw [aT, aI 12, aU, aU, aU, aU, aU] [] Try.func81 rfl (by kernel_rfl) (fun e x h => by cases h) ?_
  refine aw_sr [⟨.pure, [], none, true⟩]
    (fun L1 => ⟨[aT, aI 12, aU, aU, aI 0, aU, aU], [], []⟩)
    (fun L1 => [])
    fol (by kernel_rfl) (fun _ => by kernel_rfl) (fun L1 => trivial) (fun L1 => ?_)
  refine aw_seq ?_
  refine aw_sr [⟨.pure, [], none, true⟩]
    (fun L2 => ⟨[aT, aI 12, aU, aU, aI 0, aT, aU], [], []⟩)
    (fun L2 => [])
    fol (by kernel_rfl) (fun _ => by kernel_rfl) (fun L2 => trivial) (fun L2 => ?_)
  refine aw_true (true) rfl rfl ?_
  refine aw_sr [⟨.pure, [], none, true⟩]
    (fun L3 => ⟨[aT, aI 12, aU, aU, aI 0, aT, aU], [], []⟩)
    (fun L3 => [])
    fol (by kernel_rfl) (fun _ => by kernel_rfl) (fun L3 => trivial) (fun L3 => ?_)
  refine aw_ret ?_
  refine ret_thn ?_
  exact fin_ret none [0] (aN 0) [] (.inr rfl) rfl (by kernel_rfl) trivial (fun w' hb => ⟨rfl, hb⟩)

-- couplant/tune.depthError
set_option maxRecDepth 100000 in
set_option maxHeartbeats 400000 in
theorem UA.i_26 (b1 : Nat) : CallOb Try.prog 82 #[.slice (some ⟨b1, 0, none⟩) (2) (2), aN 1500] [.blk (b1) [aN 1000, aN 800, aN 2000, aN 400] 39 false] (aN 0) := by
  intro w hw
  refine calls_aw [aS b1 0 2 2, aI 1500, aU, aU, aU, aU, aU, aU, aU, aU, aU, aU, aU, aU, aU, aU, aU, aU, aU, aU, aU, aU, aU, aU, aU, aU, aU, aU, aU, aU, aU, aU, aU, aU] [.blk (b1) [aN 1000, aN 800, aN 2000, aN 400] 39 false] Try.func82 rfl (by kernel_rfl) (esOk hw (by simp [Cel.mine])) ?_
  refine aw_sr [⟨.pure, [], none, true⟩]
    (fun L1 => ⟨[aS b1 0 2 2, aI 1500, aU, aU, aI 0, aU, aU, aU, aU, aU, aU, aU, aU, aU, aU, aU, aU, aU, aU, aU, aU, aU, aU, aU, aU, aU, aU, aU, aU, aU, aU, aU, aU, aU], [.blk (b1) [aN 1000, aN 800, aN 2000, aN 400] 39 false], []⟩)
    (fun L1 => [])
    fol (by kernel_rfl) (fun _ => by kernel_rfl) (fun L1 => trivial) (fun L1 => ?_)
  refine aw_sr [⟨.pure, [], none, true⟩, ⟨(.call [0] (.tuple #[aN 0, aN 0])), [0], none, true⟩, ⟨.pure, [0, 1], none, true⟩, ⟨.pure, [0, 1, 2], none, true⟩, ⟨.pure, [0, 1, 2], none, true⟩, ⟨.pure, [0, 1, 2, 3], none, true⟩, ⟨.pure, [0, 1, 2, 3, 4, 5], none, true⟩]
    (fun L2 => ⟨[aS b1 0 2 2, aI 1500, aU, aU, aI 0, aI 0, aI 0, some (.tuple #[aN 0, aN 0]), aS b1 0 2 2, some (.tuple #[aN 0, aN 0]), aI 0, aI 0, aU, aU, aU, aU, aU, aU, aU, aU, aU, aU, aU, aU, aU, aU, aU, aU, aU, aU, aU, aU, aU, aU], [.blk (b1) [aN 1000, aN 800, aN 2000, aN 400] 39 false], []⟩)
    (fun L2 => [CallOb Try.prog 19 #[.slice (some ⟨b1, 0, none⟩) (2) (2)] [.blk (b1) [aN 1000, aN 800, aN 2000, aN 400] 39 false] (.tuple #[aN 0, aN 0])])
    fol (by kernel_rfl) (fun _ => by kernel_rfl) (fun L2 => ⟨(callOb_frz (UA.i_21 (b1) )), trivial⟩) (fun L2 => ?_)
  refine aw_seq ?_
  refine aw_sr [⟨.pure, [], none, true⟩, ⟨.pure, [], none, true⟩, ⟨(.call [] (aN 0)), [1], none, true⟩, ⟨.new, [0, 1, 2], none, true⟩, ⟨(.call [4] (aN 0)), [0, 1, 2, 3], none, true⟩, ⟨.pure, [0, 1, 2, 3, 4], none, true⟩]
    (fun L3 => ⟨[aS b1 0 2 2, aI 1500, aU, aU, aI 0, aI 0, aI 0, some (.tuple #[aN 0, aN 0]), aS b1 0 2 2, some (.tuple #[aN 0, aN 0]), aI 0, aI 0, aI 0, aI 1500, aI 0, aS (L3 3).b 0 2 2, aI 0, aU, aU, aU, aU, aU, aU, aU, aU, aU, aU, aU, aU, aU, aU, aU, aU, aU], [.blk (b1) [aN 1000, aN 800, aN 2000, aN 400] 39 false, .blk ((L3 3).b) [aN 0, aN 0] 25 true], []⟩)
    (fun L3 => [CallOb Try.prog 79 #[aN 1500, aN 0, aN 100000] [] (aN 0), CallOb Try.prog 78 #[.slice (some ⟨(L3 3).b, 0, none⟩) (2) (2)] [.blk ((L3 3).b) [aN 0, aN 0] 25 true] (aN 0)])
    fol (by kernel_rfl) (fun _ => by kernel_rfl) (fun L3 => ⟨(callOb_frz (UA.i_23  )), (callOb_frz (UA.i_3 ((L3 3).b) )), trivial⟩) (fun L3 => ?_)
  refine aw_sr [⟨.pure, [], none, true⟩, ⟨.pure, [0], none, true⟩]
    (fun L4 => ⟨[aS b1 0 2 2, aI 1500, aU, aU, aI 0, aI 0, aI 0, some (.tuple #[aN 0, aN 0]), aS b1 0 2 2, some (.tuple #[aN 0, aN 0]), aI 0, aI 0, aI 0, aI 1500, aI 0, aS (L3 3).b 0 2 2, aI 0, aI 0, aF, aU, aU, aU, aU, aU, aU, aU, aU, aU, aU, aU, aU, aU, aU, aU], [.blk (b1) [aN 1000, aN 800, aN 2000, aN 400] 39 false, .blk ((L3 3).b) [aN 0, aN 0] 25 true], []⟩)
    (fun L4 => [])
    fol (by kernel_rfl) (fun _ => by kernel_rfl) (fun L4 => trivial) (fun L4 => ?_)
  refine aw_false (false) rfl rfl ?_
  refine aw_skip ?_
  refine nrm_thn ?_
  refine aw_sr [⟨.pure, [], none, true⟩, ⟨.pure, [], none, true⟩, ⟨.pure, [1], none, true⟩, ⟨.pure, [1, 2], none, true⟩, ⟨(.read 0), [1, 2, 3], none, true⟩, ⟨.pure, [], none, true⟩, ⟨.pure, [], none, true⟩, ⟨.pure, [6], none, true⟩, ⟨.pure, [6, 7], none, true⟩, ⟨.pure, [5, 6, 7, 8], none, true⟩, ⟨.pure, [5, 6, 7, 8, 9], none, true⟩, ⟨(.read 0), [5, 6, 7, 8, 9, 10], none, true⟩, ⟨(.call [] (.bool (true))), [0, 1, 2, 3, 4, 5, 6, 7, 8, 9, 10, 11], none, true⟩, ⟨(.call [] (aN 0)), [0, 1, 2, 3, 4, 5, 6, 7, 8, 9, 10, 11, 12], none, true⟩, ⟨.pure, [0, 1, 2, 3, 4, 5, 6, 7, 8, 9, 10, 11, 12, 13], none, true⟩]
    (fun L5 => ⟨[aS b1 0 2 2, aI 1500, aU, aU, aI 0, aI 0, aI 0, some (.tuple #[aN 0, aN 0]), aS b1 0 2 2, some (.tuple #[aN 0, aN 0]), aI 0, aI 0, aI 0, aI 1500, aI 0, aS (L3 3).b 0 2 2, aI 0, aI 0, aF, aU, aI 1500, aS b1 0 2 2, aP b1 0, aP b1 0, aI 1000, aS b1 0 2 2, aS b1 0 2 2, aI 2, aI 1, aP b1 2, aP b1 2, aI 2000, aT, aI 0], [.blk (b1) [aN 1000, aN 800, aN 2000, aN 400] 39 false, .blk ((L3 3).b) [aN 0, aN 0] 25 true], []⟩)
    (fun L5 => [b1 = b1, b1 = b1, CallOb Try.prog 127 #[aN 1500, aN 1000, aN 2000] [] (.bool (true)), CallOb Try.prog 81 #[.bool (true), aN 12] [] (aN 0)])
    fol (by kernel_rfl) (fun _ => by kernel_rfl) (fun L5 => ⟨rfl, rfl, (callOb_frz (UA.i_24  )), (callOb_frz (UA.i_25  )), trivial⟩) (fun L5 => ?_)
  refine aw_ret ?_
  exact fin_ret none [0] (aN 0) [] (.inr rfl) rfl (by kernel_rfl) trivial (fun w' hb => ⟨rfl, hb⟩)

-- couplant/base.Within
set_option maxRecDepth 100000 in
set_option maxHeartbeats 400000 in
theorem UA.i_27 : CallOb Try.prog 127 #[aN 1000, aN 1, aN 1000000] [] (.bool (true)) := by
  intro w hw
  refine calls_aw [aI 1000, aI 1, aI 1000000, aU, aU, aU, aU, aU, aU, aU, aU, aU, aU, aU, aU] [] Try.func127 rfl (by kernel_rfl) (fun e x h => by cases h) ?_
  refine aw_sr [⟨.pure, [], none, true⟩]
    (fun L1 => ⟨[aI 1000, aI 1, aI 1000000, aU, aU, aU, aF, aU, aU, aU, aU, aU, aU, aU, aU], [], []⟩)
    (fun L1 => [])
    fol (by kernel_rfl) (fun _ => by kernel_rfl) (fun L1 => trivial) (fun L1 => ?_)
  refine aw_sr [⟨.pure, [], none, true⟩, ⟨.pure, [], none, true⟩, ⟨.pure, [0, 1], none, true⟩, ⟨.pure, [0, 1, 2], none, true⟩, ⟨.pure, [0, 1, 2, 3], none, true⟩, ⟨.pure, [0, 1, 2, 3], none, true⟩, ⟨.pure, [0, 1, 2, 3, 4, 5], none, true⟩, ⟨.pure, [0, 1, 2, 3, 4, 5, 6], aT, true⟩, ⟨.pure, [0, 1, 2, 3, 4, 5, 6, 7], none, true⟩]
    (fun L2 => ⟨[aI 1000, aI 1, aI 1000000, aU, aU, aU, aT, aI 1, aI 1000, aT, aT, aI 1000, aI 1000000, aT, aT], [], []⟩)
    (fun L2 => [(true) = true, (true) = true, (true) = true, (.bool (true) : Value) = .bool (true)])
    fol (by kernel_rfl) (fun _ => by kernel_rfl) (fun L2 => ⟨rfl, rfl, rfl, rfl, trivial⟩) (fun L2 => ?_)
  refine aw_ret ?_
  exact fin_ret none [0] (.bool (true)) [] (.inr rfl) rfl (by kernel_rfl) trivial (fun w' hb => ⟨rfl, hb⟩)

-- couplant/base.RangeError
set_option maxRecDepth 100000 in
set_option maxHeartbeats 400000 in
theorem UA.i_28 : CallOb Try.prog 79 #[aN 1000, aN 1, aN 1000000] [] (aN 0) := by
  intro w hw
  refine calls_aw [aI 1000, aI 1, aI 1000000, aU, aU, aU, aU, aU, aU, aU, aU, aU] [] Try.func79 rfl (by kernel_rfl) (fun e x h => by cases h) ?_
  refine aw_sr [⟨.pure, [], none, true⟩]
    (fun L1 => ⟨[aI 1000, aI 1, aI 1000000, aU, aU, aU, aI 0, aU, aU, aU, aU, aU], [], []⟩)
    (fun L1 => [])
    fol (by kernel_rfl) (fun _ => by kernel_rfl) (fun L1 => trivial) (fun L1 => ?_)
  refine aw_sr [⟨.pure, [], none, true⟩, ⟨.pure, [], none, true⟩, ⟨.pure, [], none, true⟩, ⟨(.call [] (.bool (true))), [0, 1, 2], none, true⟩, ⟨(.call [] (aN 0)), [0, 1, 2, 3], none, true⟩, ⟨.pure, [0, 1, 2, 3, 4], none, true⟩]
    (fun L2 => ⟨[aI 1000, aI 1, aI 1000000, aU, aU, aU, aI 0, aI 1000, aI 1, aI 1000000, aT, aI 0], [], []⟩)
    (fun L2 => [CallOb Try.prog 127 #[aN 1000, aN 1, aN 1000000] [] (.bool (true)), CallOb Try.prog 81 #[.bool (true), aN 2] [] (aN 0)])
    fol (by kernel_rfl) (fun _ => by kernel_rfl) (fun L2 => ⟨(callOb_frz (UA.i_27  )), (callOb_frz (UA.i_6  )), trivial⟩) (fun L2 => ?_)
  refine aw_ret ?_
  exact fin_ret none [0] (aN 0) [] (.inr rfl) rfl (by kernel_rfl) trivial (fun w' hb => ⟨rfl, hb⟩)

-- couplant/tune.echoError
set_option maxRecDepth 100000 in
set_option maxHeartbeats 400000 in
theorem UA.i_29 : CallOb Try.prog 80 #[aN 1000] [] (aN 0) := by
  intro w hw
  refine calls_aw [aI 1000, aU, aU, aU, aU] [] Try.func80 rfl (by kernel_rfl) (fun e x h => by cases h) ?_
  refine aw_sr [⟨.pure, [], none, true⟩]
    (fun L1 => ⟨[aI 1000, aU, aI 0, aU, aU], [], []⟩)
    (fun L1 => [])
    fol (by kernel_rfl) (fun _ => by kernel_rfl) (fun L1 => trivial) (fun L1 => ?_)
  refine aw_sr [⟨.pure, [], none, true⟩, ⟨(.call [] (aN 0)), [0], none, true⟩, ⟨.pure, [0, 1], none, true⟩]
    (fun L2 => ⟨[aI 1000, aU, aI 0, aI 1000, aI 0], [], []⟩)
    (fun L2 => [CallOb Try.prog 79 #[aN 1000, aN 1, aN 1000000] [] (aN 0)])
    fol (by kernel_rfl) (fun _ => by kernel_rfl) (fun L2 => ⟨(callOb_frz (UA.i_28  )), trivial⟩) (fun L2 => ?_)
  refine aw_ret ?_
  exact fin_ret none [0] (aN 0) [] (.inr rfl) rfl (by kernel_rfl) trivial (fun w' hb => ⟨rfl, hb⟩)

-- couplant/base.Within
set_option maxRecDepth 100000 in
set_option maxHeartbeats 400000 in
theorem UA.i_30 : CallOb Try.prog 127 #[aN 600, aN 1, aN 1000000] [] (.bool (true)) := by
  intro w hw
  refine calls_aw [aI 600, aI 1, aI 1000000, aU, aU, aU, aU, aU, aU, aU, aU, aU, aU, aU, aU] [] Try.func127 rfl (by kernel_rfl) (fun e x h => by cases h) ?_
  refine aw_sr [⟨.pure, [], none, true⟩]
    (fun L1 => ⟨[aI 600, aI 1, aI 1000000, aU, aU, aU, aF, aU, aU, aU, aU, aU, aU, aU, aU], [], []⟩)
    (fun L1 => [])
    fol (by kernel_rfl) (fun _ => by kernel_rfl) (fun L1 => trivial) (fun L1 => ?_)
  refine aw_sr [⟨.pure, [], none, true⟩, ⟨.pure, [], none, true⟩, ⟨.pure, [0, 1], none, true⟩, ⟨.pure, [0, 1, 2], none, true⟩, ⟨.pure, [0, 1, 2, 3], none, true⟩, ⟨.pure, [0, 1, 2, 3], none, true⟩, ⟨.pure, [0, 1, 2, 3, 4, 5], none, true⟩, ⟨.pure, [0, 1, 2, 3, 4, 5, 6], aT, true⟩, ⟨.pure, [0, 1, 2, 3, 4, 5, 6, 7], none, true⟩]
    (fun L2 => ⟨[aI 600, aI 1, aI 1000000, aU, aU, aU, aT, aI 1, aI 600, aT, aT, aI 600, aI 1000000, aT, aT], [], []⟩)
    (fun L2 => [(true) = true, (true) = true, (true) = true, (.bool (true) : Value) = .bool (true)])
    fol (by kernel_rfl) (fun _ => by kernel_rfl) (fun L2 => ⟨rfl, rfl, rfl, rfl, trivial⟩) (fun L2 => ?_)
  refine aw_ret ?_
  exact fin_ret none [0] (.bool (true)) [] (.inr rfl) rfl (by kernel_rfl) trivial (fun w' hb => ⟨rfl, hb⟩)

-- couplant/base.RangeError
set_option maxRecDepth 100000 in
set_option maxHeartbeats 400000 in
theorem UA.i_31 : CallOb Try.prog 79 #[aN 600, aN 1, aN 1000000] [] (aN 0) := by
  intro w hw
  refine calls_aw [aI 600, aI 1, aI 1000000, aU, aU, aU, aU, aU, aU, aU, aU, aU] [] Try.func79 rfl (by kernel_rfl) (fun e x h => by cases h) ?_
  refine aw_sr [⟨.pure, [], none, true⟩]
    (fun L1 => ⟨[aI 600, aI 1, aI 1000000, aU, aU, aU, aI 0, aU, aU, aU, aU, aU], [], []⟩)
    (fun L1 => [])
    fol (by kernel_rfl) (fun _ => by kernel_rfl) (fun L1 => trivial) (fun L1 => ?_)
  refine aw_sr [⟨.pure, [], none, true⟩, ⟨.pure, [], none, true⟩, ⟨.pure, [], none, true⟩, ⟨(.call [] (.bool (true))), [0, 1, 2], none, true⟩, ⟨(.call [] (aN 0)), [0, 1, 2, 3], none, true⟩, ⟨.pure, [0, 1, 2, 3, 4], none, true⟩]
    (fun L2 => ⟨[aI 600, aI 1, aI 1000000, aU, aU, aU, aI 0, aI 600, aI 1, aI 1000000, aT, aI 0], [], []⟩)
    (fun L2 => [CallOb Try.prog 127 #[aN 600, aN 1, aN 1000000] [] (.bool (true)), CallOb Try.prog 81 #[.bool (true), aN 2] [] (aN 0)])
    fol (by kernel_rfl) (fun _ => by kernel_rfl) (fun L2 => ⟨(callOb_frz (UA.i_30  )), (callOb_frz (UA.i_6  )), trivial⟩) (fun L2 => ?_)
  refine aw_ret ?_
  exact fin_ret none [0] (aN 0) [] (.inr rfl) rfl (by kernel_rfl) trivial (fun w' hb => ⟨rfl, hb⟩)

-- couplant/tune.echoError
set_option maxRecDepth 100000 in
set_option maxHeartbeats 400000 in
theorem UA.i_32 : CallOb Try.prog 80 #[aN 600] [] (aN 0) := by
  intro w hw
  refine calls_aw [aI 600, aU, aU, aU, aU] [] Try.func80 rfl (by kernel_rfl) (fun e x h => by cases h) ?_
  refine aw_sr [⟨.pure, [], none, true⟩]
    (fun L1 => ⟨[aI 600, aU, aI 0, aU, aU], [], []⟩)
    (fun L1 => [])
    fol (by kernel_rfl) (fun _ => by kernel_rfl) (fun L1 => trivial) (fun L1 => ?_)
  refine aw_sr [⟨.pure, [], none, true⟩, ⟨(.call [] (aN 0)), [0], none, true⟩, ⟨.pure, [0, 1], none, true⟩]
    (fun L2 => ⟨[aI 600, aU, aI 0, aI 600, aI 0], [], []⟩)
    (fun L2 => [CallOb Try.prog 79 #[aN 600, aN 1, aN 1000000] [] (aN 0)])
    fol (by kernel_rfl) (fun _ => by kernel_rfl) (fun L2 => ⟨(callOb_frz (UA.i_31  )), trivial⟩) (fun L2 => ?_)
  refine aw_ret ?_
  exact fin_ret none [0] (aN 0) [] (.inr rfl) rfl (by kernel_rfl) trivial (fun w' hb => ⟨rfl, hb⟩)

-- (couplant/tune.table).echoAt$1
set_option maxRecDepth 100000 in
set_option maxHeartbeats 400000 in
theorem UA.i_33 (b1 : Nat) : CallOb Try.prog 129 #[.agg #[aN 1000, aN 800], .pointer (some ⟨b1, 0, none⟩)] [.blk (b1) [aN 1500] 3 false] (.bool (false)) := by
  intro w hw
  refine calls_aw [some (.agg #[aN 1000, aN 800]), aP b1 0, aU, aU, aU, aU, aU, aU] [.blk (b1) [aN 1500] 3 false] Try.func129 rfl (by kernel_rfl) (esOk hw (by simp [Cel.mine])) ?_
  refine aw_sr [⟨.new, [], none, true⟩, ⟨.pure, [], none, true⟩]
    (fun L1 => ⟨[some (.agg #[aN 1000, aN 800]), aP b1 0, aP (L1 0).b 0, aF, aU, aU, aU, aU], [.blk (b1) [aN 1500] 3 false, .blk ((L1 0).b) [aN 1000, aN 800] 39 true], []⟩)
    (fun L1 => [])
    fol (by kernel_rfl) (fun _ => by kernel_rfl) (fun L1 => trivial) (fun L1 => ?_)
  refine aw_sr [⟨.pure, [], none, true⟩, ⟨(.read 1), [0], none, true⟩, ⟨(.read 0), [], none, true⟩, ⟨.pure, [0, 1, 2], none, true⟩, ⟨.pure, [0, 1, 2, 3], none, true⟩]
    (fun L2 => ⟨[some (.agg #[aN 1000, aN 800]), aP b1 0, aP (L1 0).b 0, aF, aP (L1 0).b 0, aI 1000, aI 1500, aF], [.blk (b1) [aN 1500] 3 false, .blk ((L1 0).b) [aN 1000, aN 800] 39 true], []⟩)
    (fun L2 => [(L1 0).b = (L1 0).b, b1 = b1])
    fol (by kernel_rfl) (fun _ => by kernel_rfl) (fun L2 => ⟨rfl, rfl, trivial⟩) (fun L2 => ?_)
  refine aw_ret ?_
  exact fin_ret none [0] (.bool (false)) [] (.inr rfl) rfl (by kernel_rfl) trivial (fun w' hb => ⟨rfl, hb⟩)

-- (couplant/tune.table).echoAt$1
set_option maxRecDepth 100000 in
set_option maxHeartbeats 400000 in
theorem UA.i_34 (b1 : Nat) : CallOb Try.prog 129 #[.agg #[aN 2000, aN 400], .pointer (some ⟨b1, 0, none⟩)] [.blk (b1) [aN 1500] 3 false] (.bool (true)) := by
  intro w hw
  refine calls_aw [some (.agg #[aN 2000, aN 400]), aP b1 0, aU, aU, aU, aU, aU, aU] [.blk (b1) [aN 1500] 3 false] Try.func129 rfl (by kernel_rfl) (esOk hw (by simp [Cel.mine])) ?_
  refine aw_sr [⟨.new, [], none, true⟩, ⟨.pure, [], none, true⟩]
    (fun L1 => ⟨[some (.agg #[aN 2000, aN 400]), aP b1 0, aP (L1 0).b 0, aF, aU, aU, aU, aU], [.blk (b1) [aN 1500] 3 false, .blk ((L1 0).b) [aN 2000, aN 400] 39 true], []⟩)
    (fun L1 => [])
    fol (by kernel_rfl) (fun _ => by kernel_rfl) (fun L1 => trivial) (fun L1 => ?_)
  refine aw_sr [⟨.pure, [], none, true⟩, ⟨(.read 1), [0], none, true⟩, ⟨(.read 0), [], none, true⟩, ⟨.pure, [0, 1, 2], none, true⟩, ⟨.pure, [0, 1, 2, 3], none, true⟩]
    (fun L2 => ⟨[some (.agg #[aN 2000, aN 400]), aP b1 0, aP (L1 0).b 0, aT, aP (L1 0).b 0, aI 2000, aI 1500, aT], [.blk (b1) [aN 1500] 3 false, .blk ((L1 0).b) [aN 2000, aN 400] 39 true], []⟩)
    (fun L2 => [(L1 0).b = (L1 0).b, b1 = b1])
    fol (by kernel_rfl) (fun _ => by kernel_rfl) (fun L2 => ⟨rfl, rfl, trivial⟩) (fun L2 => ?_)
  refine aw_ret ?_
  exact fin_ret none [0] (.bool (true)) [] (.inr rfl) rfl (by kernel_rfl) trivial (fun w' hb => ⟨rfl, hb⟩)

-- slices.IndexFunc[couplant/tune.table,couplant/api.TuneRow]
set_option maxRecDepth 100000 in
set_option maxHeartbeats 400000 in
theorem UA.i_35 (b1 b2 : Nat) : CallOb Try.prog 128 #[.slice (some ⟨b1, 0, none⟩) (2) (2), .func (.func 129) #[] #[.pointer (some ⟨b2, 0, none⟩)]] [.blk (b1) [aN 1000, aN 800, aN 2000, aN 400] 39 false, .blk (b2) [aN 1500] 3 false] (aN 1) := by
  intro w hw
  refine calls_aw [aS b1 0 2 2, some (.func (.func 129) #[] #[.pointer (some ⟨b2, 0, none⟩)]), aU, aU, aU, aU, aU, aU, aU, aU, aU, aU, aU, aU, aU, aU, aU, aU, aU] [.blk (b1) [aN 1000, aN 800, aN 2000, aN 400] 39 false, .blk (b2) [aN 1500] 3 false] Try.func128 rfl (by kernel_rfl) (esOk hw (by simp [Cel.mine])) ?_
  refine aw_sr [⟨.pure, [], none, true⟩]
    (fun L1 => ⟨[aS b1 0 2 2, some (.func (.func 129) #[] #[.pointer (some ⟨b2, 0, none⟩)]), aU, aU, aI 0, aU, aU, aU, aU, aU, aU, aU, aU, aU, aU, aU, aU, aU, aU], [.blk (b1) [aN 1000, aN 800, aN 2000, aN 400] 39 false, .blk (b2) [aN 1500] 3 false], []⟩)
    (fun L1 => [])
    fol (by kernel_rfl) (fun _ => by kernel_rfl) (fun L1 => trivial) (fun L1 => ?_)
  refine aw_seq ?_
  refine aw_sr [⟨.pure, [], none, true⟩, ⟨.pure, [0], none, true⟩, ⟨.pure, [], none, true⟩]
    (fun L2 => ⟨[aS b1 0 2 2, some (.func (.func 129) #[] #[.pointer (some ⟨b2, 0, none⟩)]), aU, aU, aI 0, aU, aS b1 0 2 2, aI 2, aI 0, aU, aU, aU, aU, aU, aU, aU, aU, aU, aU], [.blk (b1) [aN 1000, aN 800, aN 2000, aN 400] 39 false, .blk (b2) [aN 1500] 3 false], []⟩)
    (fun L2 => [])
    fol (by kernel_rfl) (fun _ => by kernel_rfl) (fun L2 => trivial) (fun L2 => ?_)
  refine aw_block ?_
  refine aw_rounds 2 ?_
  refine aw_round ?_
  refine aw_sr [⟨.pure, [], none, true⟩]
    (fun L3 => ⟨[aS b1 0 2 2, some (.func (.func 129) #[] #[.pointer (some ⟨b2, 0, none⟩)]), aU, aU, aI 0, aU, aS b1 0 2 2, aI 2, aI 0, aT, aU, aU, aU, aU, aU, aU, aU, aU, aU], [.blk (b1) [aN 1000, aN 800, aN 2000, aN 400] 39 false, .blk (b2) [aN 1500] 3 false], []⟩)
    (fun L3 => [])
    fol (by kernel_rfl) (fun _ => by kernel_rfl) (fun L3 => trivial) (fun L3 => ?_)
  refine aw_seq ?_
  refine aw_true (true) rfl rfl ?_
  refine aw_skip ?_
  refine nrm_thn ?_
  refine aw_seq ?_
  refine aw_block ?_
  refine aw_sr [⟨.pure, [], none, true⟩, ⟨.pure, [0], none, true⟩]
    (fun L4 => ⟨[aS b1 0 2 2, some (.func (.func 129) #[] #[.pointer (some ⟨b2, 0, none⟩)]), aU, aU, aI 0, aI 0, aS b1 0 2 2, aI 2, aI 0, aT, aI 0, aU, aU, aU, aU, aU, aU, aU, aU], [.blk (b1) [aN 1000, aN 800, aN 2000, aN 400] 39 false, .blk (b2) [aN 1500] 3 false], []⟩)
    (fun L4 => [])
    fol (by kernel_rfl) (fun _ => by kernel_rfl) (fun L4 => trivial) (fun L4 => ?_)
  refine aw_sr [⟨.pure, [], none, true⟩, ⟨.pure, [], none, true⟩, ⟨.pure, [], none, true⟩, ⟨.pure, [1, 2], none, true⟩, ⟨(.read 0), [1, 2, 3], none, true⟩, ⟨(.call [1] (.bool (false))), [0, 1, 2, 3, 4], none, true⟩]
    (fun L5 => ⟨[aS b1 0 2 2, some (.func (.func 129) #[] #[.pointer (some ⟨b2, 0, none⟩)]), aU, aU, aI 0, aI 0, aS b1 0 2 2, aI 2, aI 0, aT, aI 0, some (.func (.func 129) #[] #[.pointer (some ⟨b2, 0, none⟩)]), aS b1 0 2 2, aI 0, aP b1 0, some (.agg #[aN 1000, aN 800]), aF, aU, aU], [.blk (b1) [aN 1000, aN 800, aN 2000, aN 400] 39 false, .blk (b2) [aN 1500] 3 false], []⟩)
    (fun L5 => [b1 = b1, 0 + 2 ≤ 4, CallOb Try.prog 129 #[.agg #[aN 1000, aN 800], .pointer (some ⟨b2, 0, none⟩)] [.blk (b2) [aN 1500] 3 false] (.bool (false))])
    fol (by kernel_rfl) (fun _ => by kernel_rfl) (fun L5 => ⟨rfl, (by decide), (callOb_frz (UA.i_33 (b2) )), trivial⟩) (fun L5 => ?_)
  refine aw_false (false) rfl rfl ?_
  refine aw_skip ?_
  refine nrm_inB ?_
  refine nrm_thn ?_
  refine aw_region [⟨.pure, [], none, true⟩, ⟨.pure, [0], none, true⟩]
    (fun L6 => ⟨[aS b1 0 2 2, some (.func (.func 129) #[] #[.pointer (some ⟨b2, 0, none⟩)]), aU, aU, aI 0, aI 0, aS b1 0 2 2, aI 2, aI 1, aT, aI 0, some (.func (.func 129) #[] #[.pointer (some ⟨b2, 0, none⟩)]), aS b1 0 2 2, aI 0, aP b1 0, some (.agg #[aN 1000, aN 800]), aF, aU, aI 1], [.blk (b1) [aN 1000, aN 800, aN 2000, aN 400] 39 false, .blk (b2) [aN 1500] 3 false], []⟩)
    (fun L6 => [])
    fol (by kernel_rfl) (fun _ => by kernel_rfl) (fun L6 => trivial) (fun L6 => ?_)
  refine nrm_thn ?_
  refine aw_round ?_
  refine aw_sr [⟨.pure, [], none, true⟩]
    (fun L7 => ⟨[aS b1 0 2 2, some (.func (.func 129) #[] #[.pointer (some ⟨b2, 0, none⟩)]), aU, aU, aI 0, aI 0, aS b1 0 2 2, aI 2, aI 1, aT, aI 0, some (.func (.func 129) #[] #[.pointer (some ⟨b2, 0, none⟩)]), aS b1 0 2 2, aI 0, aP b1 0, some (.agg #[aN 1000, aN 800]), aF, aU, aI 1], [.blk (b1) [aN 1000, aN 800, aN 2000, aN 400] 39 false, .blk (b2) [aN 1500] 3 false], []⟩)
    (fun L7 => [])
    fol (by kernel_rfl) (fun _ => by kernel_rfl) (fun L7 => trivial) (fun L7 => ?_)
  refine aw_seq ?_
  refine aw_true (true) rfl rfl ?_
  refine aw_skip ?_
  refine nrm_thn ?_
  refine aw_seq ?_
  refine aw_block ?_
  refine aw_sr [⟨.pure, [], none, true⟩, ⟨.pure, [0], none, true⟩]
    (fun L8 => ⟨[aS b1 0 2 2, some (.func (.func 129) #[] #[.pointer (some ⟨b2, 0, none⟩)]), aU, aU, aI 0, aI 1, aS b1 0 2 2, aI 2, aI 1, aT, aI 1, some (.func (.func 129) #[] #[.pointer (some ⟨b2, 0, none⟩)]), aS b1 0 2 2, aI 0, aP b1 0, some (.agg #[aN 1000, aN 800]), aF, aU, aI 1], [.blk (b1) [aN 1000, aN 800, aN 2000, aN 400] 39 false, .blk (b2) [aN 1500] 3 false], []⟩)
    (fun L8 => [])
    fol (by kernel_rfl) (fun _ => by kernel_rfl) (fun L8 => trivial) (fun L8 => ?_)
  refine aw_sr [⟨.pure, [], none, true⟩, ⟨.pure, [], none, true⟩, ⟨.pure, [], none, true⟩, ⟨.pure, [1, 2], none, true⟩, ⟨(.read 0), [1, 2, 3], none, true⟩, ⟨(.call [1] (.bool (true))), [0, 1, 2, 3, 4], none, true⟩]
    (fun L9 => ⟨[aS b1 0 2 2, some (.func (.func 129) #[] #[.pointer (some ⟨b2, 0, none⟩)]), aU, aU, aI 0, aI 1, aS b1 0 2 2, aI 2, aI 1, aT, aI 1, some (.func (.func 129) #[] #[.pointer (some ⟨b2, 0, none⟩)]), aS b1 0 2 2, aI 1, aP b1 2, some (.agg #[aN 2000, aN 400]), aT, aU, aI 1], [.blk (b1) [aN 1000, aN 800, aN 2000, aN 400] 39 false, .blk (b2) [aN 1500] 3 false], []⟩)
    (fun L9 => [b1 = b1, 2 + 2 ≤ 4, CallOb Try.prog 129 #[.agg #[aN 2000, aN 400], .pointer (some ⟨b2, 0, none⟩)] [.blk (b2) [aN 1500] 3 false] (.bool (true))])
    fol (by kernel_rfl) (fun _ => by kernel_rfl) (fun L9 => ⟨rfl, (by decide), (callOb_frz (UA.i_34 (b2) )), trivial⟩) (fun L9 => ?_)
  refine aw_true (true) rfl rfl ?_
  refine aw_sr [⟨.pure, [], none, true⟩, ⟨.pure, [0], none, true⟩]
    (fun L10 => ⟨[aS b1 0 2 2, some (.func (.func 129) #[] #[.pointer (some ⟨b2, 0, none⟩)]), aU, aU, aI 1, aI 1, aS b1 0 2 2, aI 2, aI 1, aT, aI 1, some (.func (.func 129) #[] #[.pointer (some ⟨b2, 0, none⟩)]), aS b1 0 2 2, aI 1, aP b1 2, some (.agg #[aN 2000, aN 400]), aT, aI 1, aI 1], [.blk (b1) [aN 1000, aN 800, aN 2000, aN 400] 39 false, .blk (b2) [aN 1500] 3 false], []⟩)
    (fun L10 => [])
    fol (by kernel_rfl) (fun _ => by kernel_rfl) (fun L10 => trivial) (fun L10 => ?_)
  refine aw_ret ?_
  refine ret_inB ?_
  refine ret_thn ?_
  refine ret_thn ?_
  refine ret_inB ?_
  refine ret_thn ?_
  exact fin_ret none [0] (aN 1) [] (.inr rfl) rfl (by kernel_rfl) trivial (fun w' hb => ⟨rfl, hb⟩)

-- (couplant/tune.table).line
set_option maxRecDepth 100000 in
set_option maxHeartbeats 400000 in
theorem UA.i_36 (b1 : Nat) : CallOb Try.prog 130 #[.slice (some ⟨b1, 0, none⟩) (2) (2), aN 0, aN 1] [.blk (b1) [aN 1000, aN 800, aN 2000, aN 400] 39 false] (.agg #[aN 1000, aN 800, aN 2000, aN 400]) := by
  intro w hw
  refine calls_aw [aS b1 0 2 2, aI 0, aI 1, aU, aU, aU, aU, aU, aU, aU, aU, aU, aU, aU, aU, aU, aU, aU, aU, aU, aU, aU, aU, aU, aU, aU, aU, aU, aU, aU] [.blk (b1) [aN 1000, aN 800, aN 2000, aN 400] 39 false] Try.func130 rfl (by kernel_rfl) (esOk hw (by simp [Cel.mine])) ?_
  refine aw_sr [⟨.new, [], none, true⟩]
    (fun L1 => ⟨[aS b1 0 2 2, aI 0, aI 1, aU, aU, aU, aP (L1 0).b 0, aU, aU, aU, aU, aU, aU, aU, aU, aU, aU, aU, aU, aU, aU, aU, aU, aU, aU, aU, aU, aU, aU, aU], [.blk (b1) [aN 1000, aN 800, aN 2000, aN 400] 39 false, .blk ((L1 0).b) [aN 0, aN 0, aN 0, aN 0] 141 true], []⟩)
    (fun L1 => [])
    fol (by kernel_rfl) (fun _ => by kernel_rfl) (fun L1 => trivial) (fun L1 => ?_)
  refine aw_sr [⟨.pure, [], none, true⟩, ⟨.pure, [], none, true⟩, ⟨.pure, [0, 1], none, true⟩, ⟨.pure, [0, 1, 2], none, true⟩, ⟨(.read 0), [0, 1, 2, 3], none, true⟩, ⟨.pure, [], none, true⟩, ⟨.pure, [], none, true⟩, ⟨.pure, [5, 6], none, true⟩, ⟨.pure, [5, 6, 7], none, true⟩, ⟨(.read 0), [5, 6, 7, 8], none, true⟩, ⟨.pure, [0, 1, 2, 3, 4, 5, 6, 7, 8, 9], none, true⟩, ⟨.pure, [], none, true⟩, ⟨.pure, [], none, true⟩, ⟨.pure, [11, 12], none, true⟩, ⟨.pure, [11, 12, 13], none, true⟩, ⟨(.read 0), [11, 12, 13, 14], none, true⟩, ⟨.pure, [], none, true⟩, ⟨.pure, [], none, true⟩, ⟨.pure, [16, 17], none, true⟩, ⟨.pure, [16, 17, 18], none, true⟩, ⟨(.read 0), [16, 17, 18, 19], none, true⟩, ⟨.pure, [11, 12, 13, 14, 15, 16, 17, 18, 19, 20], none, true⟩, ⟨.pure, [0, 1, 2, 3, 4, 5, 6, 7, 8, 9, 10, 11, 12, 13, 14, 15, 16, 17, 18, 19, 20, 21], none, true⟩, ⟨(.write 1), [0, 1, 2, 3, 4, 5, 6, 7, 8, 9, 10, 11, 12, 13, 14, 15, 16, 17, 18, 19, 20, 21, 22], none, true⟩]
    (fun L2 => ⟨[aS b1 0 2 2, aI 0, aI 1, aU, aU, aU, aP (L1 0).b 0, aS b1 0 2 2, aI 0, aP b1 0, aP b1 0, aI 1000, aS b1 0 2 2, aI 0, aP b1 0, aP b1 1, aI 800, some (.agg #[aN 1000, aN 800]), aS b1 0 2 2, aI 1, aP b1 2, aP b1 2, aI 2000, aS b1 0 2 2, aI 1, aP b1 2, aP b1 3, aI 400, some (.agg #[aN 2000, aN 400]), some (.agg #[aN 1000, aN 800, aN 2000, aN 400])], [.blk (b1) [aN 1000, aN 800, aN 2000, aN 400] 39 false, .blk ((L1 0).b) [aN 1000, aN 800, aN 2000, aN 400] 141 true], []⟩)
    (fun L2 => [b1 = b1, b1 = b1, b1 = b1, b1 = b1, (L1 0).b = (L1 0).b, 0 + 4 ≤ 4, 4 = 4, true = true])
    fol (by kernel_rfl) (fun _ => by kernel_rfl) (fun L2 => ⟨rfl, rfl, rfl, rfl, rfl, (by decide), rfl, rfl, trivial⟩) (fun L2 => ?_)
  refine aw_ret ?_
  exact fin_ret none [1] (.agg #[aN 1000, aN 800, aN 2000, aN 400]) [(L1 0).b = (L1 0).b, 0 + 4 ≤ 4] (.inr rfl) rfl (by kernel_rfl) ⟨rfl, (by decide), trivial⟩ (fun w' hb => ⟨rfl, hb⟩)

-- (couplant/tune.line).heightAt
set_option maxRecDepth 100000 in
set_option maxHeartbeats 400000 in
theorem UA.i_37 : CallOb Try.prog 97 #[.agg #[aN 1000, aN 800, aN 2000, aN 400], aN 1500] [] (.agg #[aN 600000, aN 1000]) := by
  intro w hw
  refine calls_aw [some (.agg #[aN 1000, aN 800, aN 2000, aN 400]), aI 1500, aU, aU, aU, aU, aU, aU, aU, aU, aU, aU, aU, aU, aU, aU, aU, aU, aU, aU, aU, aU, aU, aU, aU, aU, aU, aU, aU, aU, aU, aU] [] Try.func97 rfl (by kernel_rfl) (fun e x h => by cases h) ?_
  refine aw_sr [⟨.new, [], none, true⟩, ⟨.new, [], none, true⟩]
    (fun L1 => ⟨[some (.agg #[aN 1000, aN 800, aN 2000, aN 400]), aI 1500, aP (L1 0).b 0, aU, aP (L1 1).b 0, aU, aU, aU, aU, aU, aU, aU, aU, aU, aU, aU, aU, aU, aU, aU, aU, aU, aU, aU, aU, aU, aU, aU, aU, aU, aU, aU], [.blk ((L1 0).b) [aN 1000, aN 800, aN 2000, aN 400] 141 true, .blk ((L1 1).b) [aN 0, aN 0] 123 true], []⟩)
    (fun L1 => [])
    fol (by kernel_rfl) (fun _ => by kernel_rfl) (fun L1 => trivial) (fun L1 => ?_)
  refine aw_sr [⟨.pure, [], none, true⟩, ⟨.pure, [0], none, true⟩, ⟨(.read 0), [0, 1], none, true⟩, ⟨.pure, [], none, true⟩, ⟨.pure, [3], none, true⟩, ⟨(.read 0), [3, 4], none, true⟩, ⟨.pure, [], none, true⟩, ⟨.pure, [3, 4, 5, 6], none, true⟩, ⟨.pure, [0, 1, 2, 3, 4, 5, 6, 7], none, true⟩, ⟨.pure, [], none, true⟩, ⟨.pure, [9], none, true⟩, ⟨(.read 0), [9, 10], none, true⟩, ⟨.pure, [], none, true⟩, ⟨.pure, [], none, true⟩, ⟨.pure, [13], none, true⟩, ⟨(.read 0), [13, 14], none, true⟩, ⟨.pure, [12, 13, 14, 15], none, true⟩, ⟨.pure, [9, 10, 11, 12, 13, 14, 15, 16], none, true⟩, ⟨.pure, [0, 1, 2, 3, 4, 5, 6, 7, 8, 9, 10, 11, 12, 13, 14, 15, 16, 17], none, true⟩, ⟨.pure, [], none, true⟩, ⟨.pure, [19], none, true⟩, ⟨(.read 0), [19, 20], none, true⟩, ⟨.pure, [], none, true⟩, ⟨.pure, [22], none, true⟩, ⟨(.read 0), [22, 23], none, true⟩, ⟨.pure, [19, 20, 21, 22, 23, 24], none, true⟩, ⟨.pure, [0, 1, 2, 3, 4, 5, 6, 7, 8, 9, 10, 11, 12, 13, 14, 15, 16, 17, 18, 19, 20, 21, 22, 23, 24, 25], none, true⟩, ⟨(.write 1), [0, 1, 2, 3, 4, 5, 6, 7, 8, 9, 10, 11, 12, 13, 14, 15, 16, 17, 18, 19, 20, 21, 22, 23, 24, 25, 26], none, true⟩]
    (fun L2 => ⟨[some (.agg #[aN 1000, aN 800, aN 2000, aN 400]), aI 1500, aP (L1 0).b 0, aU, aP (L1 1).b 0, aP (L1 0).b 0, aP (L1 0).b 1, aI 800, aP (L1 0).b 2, aP (L1 0).b 2, aI 2000, aI 1500, aI 500, aI 400000, aP (L1 0).b 2, aP (L1 0).b 3, aI 400, aI 1500, aP (L1 0).b 0, aP (L1 0).b 0, aI 1000, aI 500, aI 200000, aI 600000, aP (L1 0).b 2, aP (L1 0).b 2, aI 2000, aP (L1 0).b 0, aP (L1 0).b 0, aI 1000, aI 1000, some (.agg #[aN 600000, aN 1000])], [.blk ((L1 0).b) [aN 1000, aN 800, aN 2000, aN 400] 141 true, .blk ((L1 1).b) [aN 600000, aN 1000] 123 true], []⟩)
    (fun L2 => [(L1 0).b = (L1 0).b, (L1 0).b = (L1 0).b, (L1 0).b = (L1 0).b, (L1 0).b = (L1 0).b, (L1 0).b = (L1 0).b, (L1 0).b = (L1 0).b, (L1 1).b = (L1 1).b, 0 + 2 ≤ 2, 2 = 2, true = true])
    fol (by kernel_rfl) (fun _ => by kernel_rfl) (fun L2 => ⟨rfl, rfl, rfl, rfl, rfl, rfl, rfl, (by decide), rfl, rfl, trivial⟩) (fun L2 => ?_)
  refine aw_ret ?_
  exact fin_ret none [1] (.agg #[aN 600000, aN 1000]) [(L1 1).b = (L1 1).b, 0 + 2 ≤ 2] (.inr rfl) rfl (by kernel_rfl) ⟨rfl, (by decide), trivial⟩ (fun w' hb => ⟨rfl, hb⟩)

-- (couplant/tune.table).echoAt
set_option maxRecDepth 100000 in
set_option maxHeartbeats 400000 in
theorem UA.i_38 (b1 : Nat) : CallOb Try.prog 83 #[.slice (some ⟨b1, 0, none⟩) (2) (2), aN 1500] [.blk (b1) [aN 1000, aN 800, aN 2000, aN 400] 39 false] (.agg #[aN 600000, aN 1000]) := by
  intro w hw
  refine calls_aw [aS b1 0 2 2, aI 1500, aU, aU, aU, aU, aU, aU, aU, aU, aU, aU, aU, aU, aU, aU, aU, aU, aU, aU, aU, aU, aU, aU, aU, aU, aU, aU, aU] [.blk (b1) [aN 1000, aN 800, aN 2000, aN 400] 39 false] Try.func83 rfl (by kernel_rfl) (esOk hw (by simp [Cel.mine])) ?_
  refine aw_sr [⟨.new, [], none, true⟩, ⟨.new, [], none, true⟩]
    (fun L1 => ⟨[aS b1 0 2 2, aI 1500, aU, aP (L1 0).b 0, aP (L1 1).b 0, aU, aU, aU, aU, aU, aU, aU, aU, aU, aU, aU, aU, aU, aU, aU, aU, aU, aU, aU, aU, aU, aU, aU, aU], [.blk (b1) [aN 1000, aN 800, aN 2000, aN 400] 39 false, .blk ((L1 0).b) [aN 1500] 3 true, .blk ((L1 1).b) [aN 0, aN 0] 123 true], []⟩)
    (fun L1 => [])
    fol (by kernel_rfl) (fun _ => by kernel_rfl) (fun L1 => trivial) (fun L1 => ?_)
  refine aw_sr [⟨.pure, [], none, true⟩, ⟨.pure, [], none, true⟩, ⟨(.call [0, 1] (aN 1)), [0, 1], none, true⟩, ⟨.pure, [0, 1, 2], none, true⟩]
    (fun L2 => ⟨[aS b1 0 2 2, aI 1500, aU, aP (L1 0).b 0, aP (L1 1).b 0, aI 1, aS b1 0 2 2, some (.func (.func 129) #[] #[.pointer (some ⟨(L1 0).b, 0, none⟩)]), aI 1, aU, aU, aU, aU, aU, aU, aU, aU, aU, aU, aU, aU, aU, aU, aU, aU, aU, aU, aU, aU], [.blk (b1) [aN 1000, aN 800, aN 2000, aN 400] 39 false, .blk ((L1 0).b) [aN 1500] 3 true, .blk ((L1 1).b) [aN 0, aN 0] 123 true], []⟩)
    (fun L2 => [CallOb Try.prog 128 #[.slice (some ⟨b1, 0, none⟩) (2) (2), .func (.func 129) #[] #[.pointer (some ⟨(L1 0).b, 0, none⟩)]] [.blk (b1) [aN 1000, aN 800, aN 2000, aN 400] 39 false, .blk ((L1 0).b) [aN 1500] 3 true] (aN 1)])
    fol (by kernel_rfl) (fun _ => by kernel_rfl) (fun L2 => ⟨(callOb_frz (UA.i_35 (b1) ((L1 0).b) )), trivial⟩) (fun L2 => ?_)
  refine aw_seq ?_
  refine aw_sr [⟨.pure, [], none, true⟩, ⟨.pure, [], none, true⟩, ⟨.pure, [0, 1], none, true⟩, ⟨.pure, [0, 1, 2], none, true⟩, ⟨(.read 0), [0, 1, 2, 3], none, true⟩, ⟨(.read 1), [], none, true⟩, ⟨.pure, [0, 1, 2, 3, 4, 5], none, true⟩]
    (fun L3 => ⟨[aS b1 0 2 2, aI 1500, aU, aP (L1 0).b 0, aP (L1 1).b 0, aI 1, aS b1 0 2 2, some (.func (.func 129) #[] #[.pointer (some ⟨(L1 0).b, 0, none⟩)]), aI 1, aS b1 0 2 2, aI 1, aP b1 2, aP b1 2, aI 2000, aI 1500, aF, aU, aU, aU, aU, aU, aU, aU, aU, aU, aU, aU, aU, aU], [.blk (b1) [aN 1000, aN 800, aN 2000, aN 400] 39 false, .blk ((L1 0).b) [aN 1500] 3 true, .blk ((L1 1).b) [aN 0, aN 0] 123 true], []⟩)
    (fun L3 => [b1 = b1, (L1 0).b = (L1 0).b])
    fol (by kernel_rfl) (fun _ => by kernel_rfl) (fun L3 => ⟨rfl, rfl, trivial⟩) (fun L3 => ?_)
  refine aw_false (false) rfl rfl ?_
  refine aw_skip ?_
  refine nrm_thn ?_
  refine aw_sr [⟨.pure, [], none, true⟩, ⟨.pure, [], none, true⟩, ⟨.pure, [1], none, true⟩, ⟨.pure, [], none, true⟩, ⟨(.call [0] (.agg #[aN 1000, aN 800, aN 2000, aN 400])), [0, 1, 2, 3], none, true⟩, ⟨(.read 1), [], none, true⟩, ⟨(.call [] (.agg #[aN 600000, aN 1000])), [0, 1, 2, 3, 4, 5], none, true⟩, ⟨(.write 2), [0, 1, 2, 3, 4, 5, 6], none, true⟩]
    (fun L4 => ⟨[aS b1 0 2 2, aI 1500, aU, aP (L1 0).b 0, aP (L1 1).b 0, aI 1, aS b1 0 2 2, some (.func (.func 129) #[] #[.pointer (some ⟨(L1 0).b, 0, none⟩)]), aI 1, aS b1 0 2 2, aI 1, aP b1 2, aP b1 2, aI 2000, aI 1500, aF, aU, aU, aU, aU, aU, aU, aS b1 0 2 2, aI 1, aI 0, aI 1, some (.agg #[aN 1000, aN 800, aN 2000, aN 400]), aI 1500, some (.agg #[aN 600000, aN 1000])], [.blk (b1) [aN 1000, aN 800, aN 2000, aN 400] 39 false, .blk ((L1 0).b) [aN 1500] 3 true, .blk ((L1 1).b) [aN 600000, aN 1000] 123 true], []⟩)
    (fun L4 => [CallOb Try.prog 130 #[.slice (some ⟨b1, 0, none⟩) (2) (2), aN 0, aN 1] [.blk (b1) [aN 1000, aN 800, aN 2000, aN 400] 39 false] (.agg #[aN 1000, aN 800, aN 2000, aN 400]), (L1 0).b = (L1 0).b, CallOb Try.prog 97 #[.agg #[aN 1000, aN 800, aN 2000, aN 400], aN 1500] [] (.agg #[aN 600000, aN 1000]), (L1 1).b = (L1 1).b, 0 + 2 ≤ 2, 2 = 2, true = true])
    fol (by kernel_rfl) (fun _ => by kernel_rfl) (fun L4 => ⟨(callOb_frz (UA.i_36 (b1) )), rfl, (callOb_frz (UA.i_37  )), rfl, (by decide), rfl, rfl, trivial⟩) (fun L4 => ?_)
  refine aw_ret ?_
  exact fin_ret none [2] (.agg #[aN 600000, aN 1000]) [(L1 1).b = (L1 1).b, 0 + 2 ≤ 2] (.inr rfl) rfl (by kernel_rfl) ⟨rfl, (by decide), trivial⟩ (fun w' hb => ⟨rfl, hb⟩)

-- couplant/base.DividedDown
set_option maxRecDepth 100000 in
set_option maxHeartbeats 400000 in
theorem UA.i_39 : CallOb Try.prog 109 #[aN 600000000, aN 600000] [] (aN 1000) := by
  intro w hw
  refine calls_aw [aI 600000000, aI 600000, aU, aU, aU, aU, aU, aU, aU, aU, aU, aU, aU, aU, aU, aU] [] Try.func109 rfl (by kernel_rfl) (fun e x h => by cases h) ?_
  refine aw_sr [⟨.pure, [], none, true⟩]
    (fun L1 => ⟨[aI 600000000, aI 600000, aU, aU, aI 0, aU, aU, aU, aU, aU, aU, aU, aU, aU, aU, aU], [], []⟩)
    (fun L1 => [])
    fol (by kernel_rfl) (fun _ => by kernel_rfl) (fun L1 => trivial) (fun L1 => ?_)
  refine aw_sr [⟨.pure, [], none, true⟩, ⟨.pure, [], none, true⟩, ⟨.pure, [0, 1], none, true⟩, ⟨.pure, [0, 1, 2], none, true⟩]
    (fun L2 => ⟨[aI 600000000, aI 600000, aU, aU, aI 0, aI 1000, aI 600000000, aI 600000, aI 1000, aU, aU, aU, aU, aU, aU, aU], [], []⟩)
    (fun L2 => [])
    fol (by kernel_rfl) (fun _ => by kernel_rfl) (fun L2 => trivial) (fun L2 => ?_)
  refine aw_seq ?_
  refine aw_sr [⟨.pure, [], none, true⟩, ⟨.pure, [], none, true⟩, ⟨.pure, [0, 1], none, true⟩, ⟨.pure, [0, 1, 2], none, true⟩]
    (fun L3 => ⟨[aI 600000000, aI 600000, aU, aU, aI 0, aI 1000, aI 600000000, aI 600000, aI 1000, aI 600000000, aI 600000, aI 0, aF, aU, aU, aU], [], []⟩)
    (fun L3 => [])
    fol (by kernel_rfl) (fun _ => by kernel_rfl) (fun L3 => trivial) (fun L3 => ?_)
  refine aw_false (false) rfl rfl ?_
  refine aw_skip ?_
  refine nrm_thn ?_
  refine aw_sr [⟨.pure, [], none, true⟩, ⟨.pure, [0], none, true⟩]
    (fun L4 => ⟨[aI 600000000, aI 600000, aU, aU, aI 1000, aI 1000, aI 600000000, aI 600000, aI 1000, aI 600000000, aI 600000, aI 0, aF, aU, aU, aI 1000], [], []⟩)
    (fun L4 => [])
    fol (by kernel_rfl) (fun _ => by kernel_rfl) (fun L4 => trivial) (fun L4 => ?_)
  refine aw_ret ?_
  exact fin_ret none [0] (aN 1000) [] (.inr rfl) rfl (by kernel_rfl) trivial (fun w' hb => ⟨rfl, hb⟩)

-- (couplant/tune.quotient).down
set_option maxRecDepth 100000 in
set_option maxHeartbeats 400000 in
theorem UA.i_40 : CallOb Try.prog 93 #[.agg #[aN 600000000, aN 600000]] [] (aN 1000) := by
  intro w hw
  refine calls_aw [some (.agg #[aN 600000000, aN 600000]), aU, aU, aU, aU, aU, aU, aU] [] Try.func93 rfl (by kernel_rfl) (fun e x h => by cases h) ?_
  refine aw_sr [⟨.new, [], none, true⟩, ⟨.pure, [], none, true⟩]
    (fun L1 => ⟨[some (.agg #[aN 600000000, aN 600000]), aP (L1 0).b 0, aI 0, aU, aU, aU, aU, aU], [.blk ((L1 0).b) [aN 600000000, aN 600000] 123 true], []⟩)
    (fun L1 => [])
    fol (by kernel_rfl) (fun _ => by kernel_rfl) (fun L1 => trivial) (fun L1 => ?_)
  refine aw_sr [⟨.pure, [], none, true⟩, ⟨(.read 0), [0], none, true⟩, ⟨.pure, [], none, true⟩, ⟨(.read 0), [2], none, true⟩, ⟨(.call [] (aN 1000)), [0, 1, 2, 3], none, true⟩, ⟨.pure, [0, 1, 2, 3, 4], none, true⟩]
    (fun L2 => ⟨[some (.agg #[aN 600000000, aN 600000]), aP (L1 0).b 0, aI 1000, aP (L1 0).b 0, aI 600000000, aP (L1 0).b 1, aI 600000, aI 1000], [.blk ((L1 0).b) [aN 600000000, aN 600000] 123 true], []⟩)
    (fun L2 => [(L1 0).b = (L1 0).b, (L1 0).b = (L1 0).b, CallOb Try.prog 109 #[aN 600000000, aN 600000] [] (aN 1000)])
    fol (by kernel_rfl) (fun _ => by kernel_rfl) (fun L2 => ⟨rfl, rfl, (callOb_frz (UA.i_39  )), trivial⟩) (fun L2 => ?_)
  refine aw_ret ?_
  exact fin_ret none [0] (aN 1000) [] (.inr rfl) rfl (by kernel_rfl) trivial (fun w' hb => ⟨rfl, hb⟩)

-- couplant/base.DividedDown
set_option maxRecDepth 100000 in
set_option maxHeartbeats 400000 in
theorem UA.i_41 : CallOb Try.prog 109 #[aN (-600000000), aN 600000] [] (aN (-1000)) := by
  intro w hw
  refine calls_aw [aI (-600000000), aI 600000, aU, aU, aU, aU, aU, aU, aU, aU, aU, aU, aU, aU, aU, aU] [] Try.func109 rfl (by kernel_rfl) (fun e x h => by cases h) ?_
  refine aw_sr [⟨.pure, [], none, true⟩]
    (fun L1 => ⟨[aI (-600000000), aI 600000, aU, aU, aI 0, aU, aU, aU, aU, aU, aU, aU, aU, aU, aU, aU], [], []⟩)
    (fun L1 => [])
    fol (by kernel_rfl) (fun _ => by kernel_rfl) (fun L1 => trivial) (fun L1 => ?_)
  refine aw_sr [⟨.pure, [], none, true⟩, ⟨.pure, [], none, true⟩, ⟨.pure, [0, 1], none, true⟩, ⟨.pure, [0, 1, 2], none, true⟩]
    (fun L2 => ⟨[aI (-600000000), aI 600000, aU, aU, aI 0, aI (-1000), aI (-600000000), aI 600000, aI (-1000), aU, aU, aU, aU, aU, aU, aU], [], []⟩)
    (fun L2 => [])
    fol (by kernel_rfl) (fun _ => by kernel_rfl) (fun L2 => trivial) (fun L2 => ?_)
  refine aw_seq ?_
  refine aw_sr [⟨.pure, [], none, true⟩, ⟨.pure, [], none, true⟩, ⟨.pure, [0, 1], none, true⟩, ⟨.pure, [0, 1, 2], none, true⟩]
    (fun L3 => ⟨[aI (-600000000), aI 600000, aU, aU, aI 0, aI (-1000), aI (-600000000), aI 600000, aI (-1000), aI (-600000000), aI 600000, aI 0, aF, aU, aU, aU], [], []⟩)
    (fun L3 => [])
    fol (by kernel_rfl) (fun _ => by kernel_rfl) (fun L3 => trivial) (fun L3 => ?_)
  refine aw_false (false) rfl rfl ?_
  refine aw_skip ?_
  refine nrm_thn ?_
  refine aw_sr [⟨.pure, [], none, true⟩, ⟨.pure, [0], none, true⟩]
    (fun L4 => ⟨[aI (-600000000), aI 600000, aU, aU, aI (-1000), aI (-1000), aI (-600000000), aI 600000, aI (-1000), aI (-600000000), aI 600000, aI 0, aF, aU, aU, aI (-1000)], [], []⟩)
    (fun L4 => [])
    fol (by kernel_rfl) (fun _ => by kernel_rfl) (fun L4 => trivial) (fun L4 => ?_)
  refine aw_ret ?_
  exact fin_ret none [0] (aN (-1000)) [] (.inr rfl) rfl (by kernel_rfl) trivial (fun w' hb => ⟨rfl, hb⟩)

-- couplant/base.DividedUp
set_option maxRecDepth 100000 in
set_option maxHeartbeats 400000 in
theorem UA.i_42 : CallOb Try.prog 110 #[aN 600000000, aN 600000] [] (aN 1000) := by
  intro w hw
  refine calls_aw [aI 600000000, aI 600000, aU, aU, aU, aU, aU, aU, aU, aU] [] Try.func110 rfl (by kernel_rfl) (fun e x h => by cases h) ?_
  refine aw_sr [⟨.pure, [], none, true⟩]
    (fun L1 => ⟨[aI 600000000, aI 600000, aU, aU, aI 0, aU, aU, aU, aU, aU], [], []⟩)
    (fun L1 => [])
    fol (by kernel_rfl) (fun _ => by kernel_rfl) (fun L1 => trivial) (fun L1 => ?_)
  refine aw_sr [⟨.pure, [], none, true⟩, ⟨.pure, [0], aI (-600000000), true⟩, ⟨.pure, [], none, true⟩, ⟨(.call [] (aN (-1000))), [0, 1, 2], none, true⟩, ⟨.pure, [0, 1, 2, 3], aI 1000, true⟩, ⟨.pure, [0, 1, 2, 3, 4], none, true⟩]
    (fun L2 => ⟨[aI 600000000, aI 600000, aU, aU, aI 1000, aI 600000000, aI (-600000000), aI 600000, aI (-1000), aI 1000], [], []⟩)
    (fun L2 => [(.int .i64 (IntKind.i64.wrap ((0) - (600000000))) : Value) = aN (-600000000), CallOb Try.prog 109 #[aN (-600000000), aN 600000] [] (aN (-1000)), (.int .i64 (IntKind.i64.wrap ((0) - (-1000))) : Value) = aN 1000])
    fol (by kernel_rfl) (fun _ => by kernel_rfl) (fun L2 => ⟨rfl, (callOb_frz (UA.i_41  )), rfl, trivial⟩) (fun L2 => ?_)
  refine aw_ret ?_
  exact fin_ret none [0] (aN 1000) [] (.inr rfl) rfl (by kernel_rfl) trivial (fun w' hb => ⟨rfl, hb⟩)

-- (couplant/tune.quotient).up
set_option maxRecDepth 100000 in
set_option maxHeartbeats 400000 in
theorem UA.i_43 : CallOb Try.prog 94 #[.agg #[aN 600000000, aN 600000]] [] (aN 1000) := by
  intro w hw
  refine calls_aw [some (.agg #[aN 600000000, aN 600000]), aU, aU, aU, aU, aU, aU, aU] [] Try.func94 rfl (by kernel_rfl) (fun e x h => by cases h) ?_
  refine aw_sr [⟨.new, [], none, true⟩, ⟨.pure, [], none, true⟩]
    (fun L1 => ⟨[some (.agg #[aN 600000000, aN 600000]), aP (L1 0).b 0, aI 0, aU, aU, aU, aU, aU], [.blk ((L1 0).b) [aN 600000000, aN 600000] 123 true], []⟩)
    (fun L1 => [])
    fol (by kernel_rfl) (fun _ => by kernel_rfl) (fun L1 => trivial) (fun L1 => ?_)
  refine aw_sr [⟨.pure, [], none, true⟩, ⟨(.read 0), [0], none, true⟩, ⟨.pure, [], none, true⟩, ⟨(.read 0), [2], none, true⟩, ⟨(.call [] (aN 1000)), [0, 1, 2, 3], none, true⟩, ⟨.pure, [0, 1, 2, 3, 4], none, true⟩]
    (fun L2 => ⟨[some (.agg #[aN 600000000, aN 600000]), aP (L1 0).b 0, aI 1000, aP (L1 0).b 0, aI 600000000, aP (L1 0).b 1, aI 600000, aI 1000], [.blk ((L1 0).b) [aN 600000000, aN 600000] 123 true], []⟩)
    (fun L2 => [(L1 0).b = (L1 0).b, (L1 0).b = (L1 0).b, CallOb Try.prog 110 #[aN 600000000, aN 600000] [] (aN 1000)])
    fol (by kernel_rfl) (fun _ => by kernel_rfl) (fun L2 => ⟨rfl, rfl, (callOb_frz (UA.i_42  )), trivial⟩) (fun L2 => ?_)
  refine aw_ret ?_
  exact fin_ret none [0] (aN 1000) [] (.inr rfl) rfl (by kernel_rfl) trivial (fun w' hb => ⟨rfl, hb⟩)

-- (couplant/tune.quotient).enclosed
set_option maxRecDepth 100000 in
set_option maxHeartbeats 400000 in
theorem UA.i_44 : CallOb Try.prog 84 #[.agg #[aN 600000000, aN 600000]] [] (.agg #[aN 1000, aN 1000]) := by
  intro w hw
  refine calls_aw [some (.agg #[aN 600000000, aN 600000]), aU, aU, aU, aU, aU, aU, aU] [] Try.func84 rfl (by kernel_rfl) (fun e x h => by cases h) ?_
  refine aw_sr [⟨.new, [], none, true⟩, ⟨.new, [], none, true⟩]
    (fun L1 => ⟨[some (.agg #[aN 600000000, aN 600000]), aP (L1 0).b 0, aP (L1 1).b 0, aU, aU, aU, aU, aU], [.blk ((L1 0).b) [aN 600000000, aN 600000] 123 true, .blk ((L1 1).b) [aN 0, aN 0] 30 true], []⟩)
    (fun L1 => [])
    fol (by kernel_rfl) (fun _ => by kernel_rfl) (fun L1 => trivial) (fun L1 => ?_)
  refine aw_sr [⟨(.read 0), [], none, true⟩, ⟨(.call [] (aN 1000)), [0], none, true⟩, ⟨(.read 0), [], none, true⟩, ⟨(.call [] (aN 1000)), [0, 1, 2], none, true⟩, ⟨.pure, [0, 1, 2, 3], none, true⟩, ⟨(.write 1), [0, 1, 2, 3, 4], none, true⟩]
    (fun L2 => ⟨[some (.agg #[aN 600000000, aN 600000]), aP (L1 0).b 0, aP (L1 1).b 0, some (.agg #[aN 600000000, aN 600000]), aI 1000, some (.agg #[aN 600000000, aN 600000]), aI 1000, some (.agg #[aN 1000, aN 1000])], [.blk ((L1 0).b) [aN 600000000, aN 600000] 123 true, .blk ((L1 1).b) [aN 1000, aN 1000] 30 true], []⟩)
    (fun L2 => [(L1 0).b = (L1 0).b, 0 + 2 ≤ 2, CallOb Try.prog 93 #[.agg #[aN 600000000, aN 600000]] [] (aN 1000), (L1 0).b = (L1 0).b, 0 + 2 ≤ 2, CallOb Try.prog 94 #[.agg #[aN 600000000, aN 600000]] [] (aN 1000), (L1 1).b = (L1 1).b, 0 + 2 ≤ 2, 2 = 2, true = true])
    fol (by kernel_rfl) (fun _ => by kernel_rfl) (fun L2 => ⟨rfl, (by decide), (callOb_frz (UA.i_40  )), rfl, (by decide), (callOb_frz (UA.i_43  )), rfl, (by decide), rfl, rfl, trivial⟩) (fun L2 => ?_)
  refine aw_ret ?_
  exact fin_ret none [1] (.agg #[aN 1000, aN 1000]) [(L1 1).b = (L1 1).b, 0 + 2 ≤ 2] (.inr rfl) rfl (by kernel_rfl) ⟨rfl, (by decide), trivial⟩ (fun w' hb => ⟨rfl, hb⟩)

-- couplant/tune.Equalised
set_option maxRecDepth 100000 in
set_option maxHeartbeats 400000 in
theorem UA.i_45 (b1 : Nat) : CallOb Try.prog 28 #[.slice (some ⟨b1, 0, none⟩) (2) (2), .agg #[aN 1500, aN 1000], aN 600] [.blk (b1) [aN 1000, aN 800, aN 2000, aN 400] 39 false] (.tuple #[.agg #[aN 1000, aN 1000], aN 0]) := by
  intro w hw
  refine calls_aw [aS b1 0 2 2, some (.agg #[aN 1500, aN 1000]), aI 600, aU, aU, aU, aU, aU, aU, aU, aU, aU, aU, aU, aU, aU, aU, aU, aU, aU, aU, aU, aU, aU, aU, aU, aU, aU, aU, aU, aU, aU, aU, aU, aU, aU, aU, aU, aU, aU] [.blk (b1) [aN 1000, aN 800, aN 2000, aN 400] 39 false] Try.func28 rfl (by kernel_rfl) (esOk hw (by simp [Cel.mine])) ?_
  refine aw_sr [⟨.new, [], none, true⟩, ⟨.new, [], none, true⟩, ⟨.pure, [], none, true⟩]
    (fun L1 => ⟨[aS b1 0 2 2, some (.agg #[aN 1500, aN 1000]), aI 600, aU, aP (L1 0).b 0, aU, aP (L1 1).b 0, aI 0, aU, aU, aU, aU, aU, aU, aU, aU, aU, aU, aU, aU, aU, aU, aU, aU, aU, aU, aU, aU, aU, aU, aU, aU, aU, aU, aU, aU, aU, aU, aU, aU], [.blk (b1) [aN 1000, aN 800, aN 2000, aN 400] 39 false, .blk ((L1 0).b) [aN 1500, aN 1000] 39 true, .blk ((L1 1).b) [aN 0, aN 0] 30 true], []⟩)
    (fun L1 => [])
    fol (by kernel_rfl) (fun _ => by kernel_rfl) (fun L1 => trivial) (fun L1 => ?_)
  refine aw_seq ?_
  refine aw_sr [⟨.pure, [], none, true⟩, ⟨.pure, [], none, true⟩, ⟨(.read 1), [1], none, true⟩, ⟨(.call [0] (aN 0)), [0, 1, 2], none, true⟩, ⟨.pure, [], none, true⟩, ⟨(.read 1), [4], none, true⟩, ⟨(.call [] (aN 0)), [0, 1, 2, 3, 4, 5], none, true⟩, ⟨.pure, [], none, true⟩, ⟨(.call [] (aN 0)), [0, 1, 2, 3, 4, 5, 6, 7], none, true⟩, ⟨.new, [0, 1, 2, 3, 4, 5, 6, 7, 8], none, true⟩, ⟨(.call [12] (aN 0)), [0, 1, 2, 3, 4, 5, 6, 7, 8, 9], none, true⟩, ⟨.pure, [0, 1, 2, 3, 4, 5, 6, 7, 8, 9, 10], none, true⟩]
    (fun L2 => ⟨[aS b1 0 2 2, some (.agg #[aN 1500, aN 1000]), aI 600, aU, aP (L1 0).b 0, aU, aP (L1 1).b 0, aI 0, aI 0, aU, aS b1 0 2 2, aP (L1 0).b 0, aI 1500, aI 0, aP (L1 0).b 1, aI 1000, aI 0, aI 600, aI 0, aS (L2 9).b 0 3 3, aI 0, aU, aU, aU, aU, aU, aU, aU, aU, aU, aU, aU, aU, aU, aU, aU, aU, aU, aU, aU], [.blk (b1) [aN 1000, aN 800, aN 2000, aN 400] 39 false, .blk ((L1 0).b) [aN 1500, aN 1000] 39 true, .blk ((L1 1).b) [aN 0, aN 0] 30 true, .blk ((L2 9).b) [aN 0, aN 0, aN 0] 25 true], []⟩)
    (fun L2 => [(L1 0).b = (L1 0).b, CallOb Try.prog 82 #[.slice (some ⟨b1, 0, none⟩) (2) (2), aN 1500] [.blk (b1) [aN 1000, aN 800, aN 2000, aN 400] 39 false] (aN 0), (L1 0).b = (L1 0).b, CallOb Try.prog 80 #[aN 1000] [] (aN 0), CallOb Try.prog 80 #[aN 600] [] (aN 0), CallOb Try.prog 78 #[.slice (some ⟨(L2 9).b, 0, none⟩) (3) (3)] [.blk ((L2 9).b) [aN 0, aN 0, aN 0] 25 true] (aN 0)])
    fol (by kernel_rfl) (fun _ => by kernel_rfl) (fun L2 => ⟨rfl, (callOb_frz (UA.i_26 (b1) )), rfl, (callOb_frz (UA.i_29  )), (callOb_frz (UA.i_32  )), (callOb_frz (UA.i_12 ((L2 9).b) )), trivial⟩) (fun L2 => ?_)
  refine aw_sr [⟨.pure, [], none, true⟩, ⟨.pure, [0], none, true⟩]
    (fun L3 => ⟨[aS b1 0 2 2, some (.agg #[aN 1500, aN 1000]), aI 600, aU, aP (L1 0).b 0, aU, aP (L1 1).b 0, aI 0, aI 0, aU, aS b1 0 2 2, aP (L1 0).b 0, aI 1500, aI 0, aP (L1 0).b 1, aI 1000, aI 0, aI 600, aI 0, aS (L2 9).b 0 3 3, aI 0, aI 0, aF, aU, aU, aU, aU, aU, aU, aU, aU, aU, aU, aU, aU, aU, aU, aU, aU, aU], [.blk (b1) [aN 1000, aN 800, aN 2000, aN 400] 39 false, .blk ((L1 0).b) [aN 1500, aN 1000] 39 true, .blk ((L1 1).b) [aN 0, aN 0] 30 true, .blk ((L2 9).b) [aN 0, aN 0, aN 0] 25 true], []⟩)
    (fun L3 => [])
    fol (by kernel_rfl) (fun _ => by kernel_rfl) (fun L3 => trivial) (fun L3 => ?_)
  refine aw_false (false) rfl rfl ?_
  refine aw_skip ?_
  refine nrm_thn ?_
  refine aw_sr [⟨.pure, [], none, true⟩, ⟨.pure, [], none, true⟩, ⟨(.read 1), [1], none, true⟩, ⟨(.call [0] (.agg #[aN 600000, aN 1000])), [0, 1, 2], none, true⟩, ⟨.new, [], none, true⟩, ⟨(.write 8), [0, 1, 2, 3, 4], none, true⟩]
    (fun L4 => ⟨[aS b1 0 2 2, some (.agg #[aN 1500, aN 1000]), aI 600, aU, aP (L1 0).b 0, aU, aP (L1 1).b 0, aI 0, aI 0, aP (L4 4).b 0, aS b1 0 2 2, aP (L1 0).b 0, aI 1500, aI 0, aP (L1 0).b 1, aI 1000, aI 0, aI 600, aI 0, aS (L2 9).b 0 3 3, aI 0, aI 0, aF, aU, aU, aS b1 0 2 2, aP (L1 0).b 0, aI 1500, some (.agg #[aN 600000, aN 1000]), aU, aU, aU, aU, aU, aU, aU, aU, aU, aU, aU], [.blk (b1) [aN 1000, aN 800, aN 2000, aN 400] 39 false, .blk ((L1 0).b) [aN 1500, aN 1000] 39 true, .blk ((L1 1).b) [aN 0, aN 0] 30 true, .blk ((L2 9).b) [aN 0, aN 0, aN 0] 25 true, .blk ((L4 4).b) [aN 600000, aN 1000] 123 true], []⟩)
    (fun L4 => [(L1 0).b = (L1 0).b, CallOb Try.prog 83 #[.slice (some ⟨b1, 0, none⟩) (2) (2), aN 1500] [.blk (b1) [aN 1000, aN 800, aN 2000, aN 400] 39 false] (.agg #[aN 600000, aN 1000]), (L4 4).b = (L4 4).b, 0 + 2 ≤ 2, 2 = 2, true = true])
    fol (by kernel_rfl) (fun _ => by kernel_rfl) (fun L4 => ⟨rfl, (callOb_frz (UA.i_38 (b1) )), rfl, (by decide), rfl, rfl, trivial⟩) (fun L4 => ?_)
  refine aw_sr [⟨.pure, [], none, true⟩, ⟨(.read 1), [0], none, true⟩, ⟨.pure, [], none, true⟩, ⟨.pure, [0, 1, 2], none, true⟩, ⟨.pure, [], none, true⟩, ⟨(.read 4), [4], none, true⟩, ⟨.pure, [0, 1, 2, 3, 4, 5], none, true⟩, ⟨.pure, [], none, true⟩, ⟨(.read 4), [7], none, true⟩, ⟨.pure, [0, 1, 2, 3, 4, 5, 6, 7, 8], none, true⟩, ⟨(.call [] (.agg #[aN 1000, aN 1000])), [0, 1, 2, 3, 4, 5, 6, 7, 8, 9], none, true⟩, ⟨(.write 2), [0, 1, 2, 3, 4, 5, 6, 7, 8, 9, 10], none, true⟩, ⟨.pure, [0, 1, 2, 3, 4, 5, 6, 7, 8, 9, 10, 11], none, true⟩]
    (fun L5 => ⟨[aS b1 0 2 2, some (.agg #[aN 1500, aN 1000]), aI 600, aU, aP (L1 0).b 0, aU, aP (L1 1).b 0, aI 0, aI 0, aP (L4 4).b 0, aS b1 0 2 2, aP (L1 0).b 0, aI 1500, aI 0, aP (L1 0).b 1, aI 1000, aI 0, aI 600, aI 0, aS (L2 9).b 0 3 3, aI 0, aI 0, aF, aU, aU, aS b1 0 2 2, aP (L1 0).b 0, aI 1500, some (.agg #[aN 600000, aN 1000]), aP (L1 0).b 1, aI 1000, aI 600, aI 600000, aP (L4 4).b 1, aI 1000, aI 600000000, aP (L4 4).b 0, aI 600000, some (.agg #[aN 600000000, aN 600000]), some (.agg #[aN 1000, aN 1000])], [.blk (b1) [aN 1000, aN 800, aN 2000, aN 400] 39 false, .blk ((L1 0).b) [aN 1500, aN 1000] 39 true, .blk ((L1 1).b) [aN 1000, aN 1000] 30 true, .blk ((L2 9).b) [aN 0, aN 0, aN 0] 25 true, .blk ((L4 4).b) [aN 600000, aN 1000] 123 true], []⟩)
    (fun L5 => [(L1 0).b = (L1 0).b, (L4 4).b = (L4 4).b, (L4 4).b = (L4 4).b, CallOb Try.prog 84 #[.agg #[aN 600000000, aN 600000]] [] (.agg #[aN 1000, aN 1000]), (L1 1).b = (L1 1).b, 0 + 2 ≤ 2, 2 = 2, true = true])
    fol (by kernel_rfl) (fun _ => by kernel_rfl) (fun L5 => ⟨rfl, rfl, rfl, (callOb_frz (UA.i_44  )), rfl, (by decide), rfl, rfl, trivial⟩) (fun L5 => ?_)
  refine aw_ret ?_
  exact fin_ret none [2, 0] (.tuple #[.agg #[aN 1000, aN 1000], aN 0]) [(L1 1).b = (L1 1).b, 0 + 2 ≤ 2] (.inr rfl) rfl (by kernel_rfl) ⟨rfl, (by decide), trivial⟩ (fun w' hb => ⟨rfl, hb⟩)

-- couplant/tune.GainAt
set_option maxRecDepth 100000 in
set_option maxHeartbeats 400000 in
theorem UA.i_46 (b1 : Nat) : CallOb Try.prog 22 #[.slice (some ⟨b1, 0, none⟩) (2) (2), aN 1500, aN 600] [.blk (b1) [aN 1000, aN 800, aN 2000, aN 400] 39 false] (.tuple #[.agg #[aN 1000, aN 1000], aN 0]) := by
  intro w hw
  refine calls_aw [aS b1 0 2 2, aI 1500, aI 600, aU, aU, aU, aU, aU, aU, aU, aU, aU, aU, aU, aU] [.blk (b1) [aN 1000, aN 800, aN 2000, aN 400] 39 false] Try.func22 rfl (by kernel_rfl) (esOk hw (by simp [Cel.mine])) ?_
  refine aw_sr [⟨.new, [], none, true⟩, ⟨.pure, [], none, true⟩]
    (fun L1 => ⟨[aS b1 0 2 2, aI 1500, aI 600, aU, aU, aU, aP (L1 0).b 0, aI 0, aU, aU, aU, aU, aU, aU, aU], [.blk (b1) [aN 1000, aN 800, aN 2000, aN 400] 39 false, .blk ((L1 0).b) [aN 0, aN 0] 30 true], []⟩)
    (fun L1 => [])
    fol (by kernel_rfl) (fun _ => by kernel_rfl) (fun L1 => trivial) (fun L1 => ?_)
  refine aw_sr [⟨.pure, [], none, true⟩, ⟨.pure, [], none, true⟩, ⟨.pure, [1], none, true⟩, ⟨.pure, [], none, true⟩, ⟨(.call [0] (.tuple #[.agg #[aN 1000, aN 1000], aN 0])), [0, 1, 2, 3], none, true⟩, ⟨.pure, [0, 1, 2, 3, 4], none, true⟩, ⟨.pure, [0, 1, 2, 3, 4], none, true⟩, ⟨(.write 1), [0, 1, 2, 3, 4, 5, 6], none, true⟩, ⟨.pure, [0, 1, 2, 3, 4, 5, 6, 7], none, true⟩]
    (fun L2 => ⟨[aS b1 0 2 2, aI 1500, aI 600, aU, aU, aU, aP (L1 0).b 0, aI 0, aS b1 0 2 2, aI 1500, some (.agg #[aN 1500, aN 1000]), aI 600, some (.tuple #[.agg #[aN 1000, aN 1000], aN 0]), some (.agg #[aN 1000, aN 1000]), aI 0], [.blk (b1) [aN 1000, aN 800, aN 2000, aN 400] 39 false, .blk ((L1 0).b) [aN 1000, aN 1000] 30 true], []⟩)
    (fun L2 => [CallOb Try.prog 28 #[.slice (some ⟨b1, 0, none⟩) (2) (2), .agg #[aN 1500, aN 1000], aN 600] [.blk (b1) [aN 1000, aN 800, aN 2000, aN 400] 39 false] (.tuple #[.agg #[aN 1000, aN 1000], aN 0]), (L1 0).b = (L1 0).b, 0 + 2 ≤ 2, 2 = 2, true = true])
    fol (by kernel_rfl) (fun _ => by kernel_rfl) (fun L2 => ⟨(callOb_frz (UA.i_45 (b1) )), rfl, (by decide), rfl, rfl, trivial⟩) (fun L2 => ?_)
  refine aw_ret ?_
  exact fin_ret none [1, 0] (.tuple #[.agg #[aN 1000, aN 1000], aN 0]) [(L1 0).b = (L1 0).b, 0 + 2 ≤ 2] (.inr rfl) rfl (by kernel_rfl) ⟨rfl, (by decide), trivial⟩ (fun w' hb => ⟨rfl, hb⟩)

-- couplant/base.Within
set_option maxRecDepth 100000 in
set_option maxHeartbeats 400000 in
theorem UA.i_47 : CallOb Try.prog 127 #[aN 2500, aN 1, aN 100000] [] (.bool (true)) := by
  intro w hw
  refine calls_aw [aI 2500, aI 1, aI 100000, aU, aU, aU, aU, aU, aU, aU, aU, aU, aU, aU, aU] [] Try.func127 rfl (by kernel_rfl) (fun e x h => by cases h) ?_
  refine aw_sr [⟨.pure, [], none, true⟩]
    (fun L1 => ⟨[aI 2500, aI 1, aI 100000, aU, aU, aU, aF, aU, aU, aU, aU, aU, aU, aU, aU], [], []⟩)
    (fun L1 => [])
    fol (by kernel_rfl) (fun _ => by kernel_rfl) (fun L1 => trivial) (fun L1 => ?_)
  refine aw_sr [⟨.pure, [], none, true⟩, ⟨.pure, [], none, true⟩, ⟨.pure, [0, 1], none, true⟩, ⟨.pure, [0, 1, 2], none, true⟩, ⟨.pure, [0, 1, 2, 3], none, true⟩, ⟨.pure, [0, 1, 2, 3], none, true⟩, ⟨.pure, [0, 1, 2, 3, 4, 5], none, true⟩, ⟨.pure, [0, 1, 2, 3, 4, 5, 6], aT, true⟩, ⟨.pure, [0, 1, 2, 3, 4, 5, 6, 7], none, true⟩]
    (fun L2 => ⟨[aI 2500, aI 1, aI 100000, aU, aU, aU, aT, aI 1, aI 2500, aT, aT, aI 2500, aI 100000, aT, aT], [], []⟩)
    (fun L2 => [(true) = true, (true) = true, (true) = true, (.bool (true) : Value) = .bool (true)])
    fol (by kernel_rfl) (fun _ => by kernel_rfl) (fun L2 => ⟨rfl, rfl, rfl, rfl, trivial⟩) (fun L2 => ?_)
  refine aw_ret ?_
  exact fin_ret none [0] (.bool (true)) [] (.inr rfl) rfl (by kernel_rfl) trivial (fun w' hb => ⟨rfl, hb⟩)

-- couplant/base.RangeError
set_option maxRecDepth 100000 in
set_option maxHeartbeats 400000 in
theorem UA.i_48 : CallOb Try.prog 79 #[aN 2500, aN 1, aN 100000] [] (aN 0) := by
  intro w hw
  refine calls_aw [aI 2500, aI 1, aI 100000, aU, aU, aU, aU, aU, aU, aU, aU, aU] [] Try.func79 rfl (by kernel_rfl) (fun e x h => by cases h) ?_
  refine aw_sr [⟨.pure, [], none, true⟩]
    (fun L1 => ⟨[aI 2500, aI 1, aI 100000, aU, aU, aU, aI 0, aU, aU, aU, aU, aU], [], []⟩)
    (fun L1 => [])
    fol (by kernel_rfl) (fun _ => by kernel_rfl) (fun L1 => trivial) (fun L1 => ?_)
  refine aw_sr [⟨.pure, [], none, true⟩, ⟨.pure, [], none, true⟩, ⟨.pure, [], none, true⟩, ⟨(.call [] (.bool (true))), [0, 1, 2], none, true⟩, ⟨(.call [] (aN 0)), [0, 1, 2, 3], none, true⟩, ⟨.pure, [0, 1, 2, 3, 4], none, true⟩]
    (fun L2 => ⟨[aI 2500, aI 1, aI 100000, aU, aU, aU, aI 0, aI 2500, aI 1, aI 100000, aT, aI 0], [], []⟩)
    (fun L2 => [CallOb Try.prog 127 #[aN 2500, aN 1, aN 100000] [] (.bool (true)), CallOb Try.prog 81 #[.bool (true), aN 2] [] (aN 0)])
    fol (by kernel_rfl) (fun _ => by kernel_rfl) (fun L2 => ⟨(callOb_frz (UA.i_47  )), (callOb_frz (UA.i_6  )), trivial⟩) (fun L2 => ?_)
  refine aw_ret ?_
  exact fin_ret none [0] (aN 0) [] (.inr rfl) rfl (by kernel_rfl) trivial (fun w' hb => ⟨rfl, hb⟩)

-- couplant/base.Within
set_option maxRecDepth 100000 in
set_option maxHeartbeats 400000 in
theorem UA.i_49 : CallOb Try.prog 127 #[aN 20000000, aN 0, aN 1000000000000] [] (.bool (true)) := by
  intro w hw
  refine calls_aw [aI 20000000, aI 0, aI 1000000000000, aU, aU, aU, aU, aU, aU, aU, aU, aU, aU, aU, aU] [] Try.func127 rfl (by kernel_rfl) (fun e x h => by cases h) ?_
  refine aw_sr [⟨.pure, [], none, true⟩]
    (fun L1 => ⟨[aI 20000000, aI 0, aI 1000000000000, aU, aU, aU, aF, aU, aU, aU, aU, aU, aU, aU, aU], [], []⟩)
    (fun L1 => [])
    fol (by kernel_rfl) (fun _ => by kernel_rfl) (fun L1 => trivial) (fun L1 => ?_)
  refine aw_sr [⟨.pure, [], none, true⟩, ⟨.pure, [], none, true⟩, ⟨.pure, [0, 1], none, true⟩, ⟨.pure, [0, 1, 2], none, true⟩, ⟨.pure, [0, 1, 2, 3], none, true⟩, ⟨.pure, [0, 1, 2, 3], none, true⟩, ⟨.pure, [0, 1, 2, 3, 4, 5], none, true⟩, ⟨.pure, [0, 1, 2, 3, 4, 5, 6], aT, true⟩, ⟨.pure, [0, 1, 2, 3, 4, 5, 6, 7], none, true⟩]
    (fun L2 => ⟨[aI 20000000, aI 0, aI 1000000000000, aU, aU, aU, aT, aI 0, aI 20000000, aT, aT, aI 20000000, aI 1000000000000, aT, aT], [], []⟩)
    (fun L2 => [(true) = true, (true) = true, (true) = true, (.bool (true) : Value) = .bool (true)])
    fol (by kernel_rfl) (fun _ => by kernel_rfl) (fun L2 => ⟨rfl, rfl, rfl, rfl, trivial⟩) (fun L2 => ?_)
  refine aw_ret ?_
  exact fin_ret none [0] (.bool (true)) [] (.inr rfl) rfl (by kernel_rfl) trivial (fun w' hb => ⟨rfl, hb⟩)

-- couplant/base.RangeError
set_option maxRecDepth 100000 in
set_option maxHeartbeats 400000 in
theorem UA.i_50 : CallOb Try.prog 79 #[aN 20000000, aN 0, aN 1000000000000] [] (aN 0) := by
  intro w hw
  refine calls_aw [aI 20000000, aI 0, aI 1000000000000, aU, aU, aU, aU, aU, aU, aU, aU, aU] [] Try.func79 rfl (by kernel_rfl) (fun e x h => by cases h) ?_
  refine aw_sr [⟨.pure, [], none, true⟩]
    (fun L1 => ⟨[aI 20000000, aI 0, aI 1000000000000, aU, aU, aU, aI 0, aU, aU, aU, aU, aU], [], []⟩)
    (fun L1 => [])
    fol (by kernel_rfl) (fun _ => by kernel_rfl) (fun L1 => trivial) (fun L1 => ?_)
  refine aw_sr [⟨.pure, [], none, true⟩, ⟨.pure, [], none, true⟩, ⟨.pure, [], none, true⟩, ⟨(.call [] (.bool (true))), [0, 1, 2], none, true⟩, ⟨(.call [] (aN 0)), [0, 1, 2, 3], none, true⟩, ⟨.pure, [0, 1, 2, 3, 4], none, true⟩]
    (fun L2 => ⟨[aI 20000000, aI 0, aI 1000000000000, aU, aU, aU, aI 0, aI 20000000, aI 0, aI 1000000000000, aT, aI 0], [], []⟩)
    (fun L2 => [CallOb Try.prog 127 #[aN 20000000, aN 0, aN 1000000000000] [] (.bool (true)), CallOb Try.prog 81 #[.bool (true), aN 2] [] (aN 0)])
    fol (by kernel_rfl) (fun _ => by kernel_rfl) (fun L2 => ⟨(callOb_frz (UA.i_49  )), (callOb_frz (UA.i_6  )), trivial⟩) (fun L2 => ?_)
  refine aw_ret ?_
  exact fin_ret none [0] (aN 0) [] (.inr rfl) rfl (by kernel_rfl) trivial (fun w' hb => ⟨rfl, hb⟩)

-- couplant/base.EndsError
set_option maxRecDepth 100000 in
set_option maxHeartbeats 400000 in
theorem UA.i_51 : CallOb Try.prog 90 #[.agg #[aN 20000000, aN 20000000], aN 0, aN 1000000000000] [] (aN 0) := by
  intro w hw
  refine calls_aw [some (.agg #[aN 20000000, aN 20000000]), aI 0, aI 1000000000000, aU, aU, aU, aU, aU, aU, aU, aU, aU, aU, aU, aU, aU, aU, aU, aU, aU, aU, aU, aU, aU, aU] [] Try.func90 rfl (by kernel_rfl) (fun e x h => by cases h) ?_
  refine aw_sr [⟨.new, [], none, true⟩, ⟨.pure, [], none, true⟩]
    (fun L1 => ⟨[some (.agg #[aN 20000000, aN 20000000]), aI 0, aI 1000000000000, aP (L1 0).b 0, aU, aU, aI 0, aU, aU, aU, aU, aU, aU, aU, aU, aU, aU, aU, aU, aU, aU, aU, aU, aU, aU], [.blk ((L1 0).b) [aN 20000000, aN 20000000] 30 true], []⟩)
    (fun L1 => [])
    fol (by kernel_rfl) (fun _ => by kernel_rfl) (fun L1 => trivial) (fun L1 => ?_)
  refine aw_sr [⟨.pure, [], none, true⟩, ⟨(.read 0), [0], none, true⟩, ⟨.pure, [], none, true⟩, ⟨.pure, [], none, true⟩, ⟨(.call [] (aN 0)), [0, 1, 2, 3], none, true⟩, ⟨.pure, [], none, true⟩, ⟨(.read 0), [5], none, true⟩, ⟨.pure, [], none, true⟩, ⟨.pure, [], none, true⟩, ⟨(.call [] (aN 0)), [0, 1, 2, 3, 4, 5, 6, 7, 8], none, true⟩, ⟨.pure, [], none, true⟩, ⟨(.read 0), [10], none, true⟩, ⟨.pure, [], none, true⟩, ⟨(.read 0), [12], none, true⟩, ⟨.pure, [10, 11, 12, 13], none, true⟩, ⟨(.call [] (aN 0)), [0, 1, 2, 3, 4, 5, 6, 7, 8, 9, 10, 11, 12, 13, 14], none, true⟩, ⟨.new, [0, 1, 2, 3, 4, 5, 6, 7, 8, 9, 10, 11, 12, 13, 14, 15], none, true⟩, ⟨(.call [17] (aN 0)), [0, 1, 2, 3, 4, 5, 6, 7, 8, 9, 10, 11, 12, 13, 14, 15, 16], none, true⟩, ⟨.pure, [0, 1, 2, 3, 4, 5, 6, 7, 8, 9, 10, 11, 12, 13, 14, 15, 16, 17], none, true⟩]
    (fun L2 => ⟨[some (.agg #[aN 20000000, aN 20000000]), aI 0, aI 1000000000000, aP (L1 0).b 0, aU, aU, aI 0, aP (L1 0).b 0, aI 20000000, aI 0, aI 1000000000000, aI 0, aP (L1 0).b 1, aI 20000000, aI 0, aI 1000000000000, aI 0, aP (L1 0).b 0, aI 20000000, aP (L1 0).b 1, aI 20000000, aT, aI 0, aS (L2 16).b 0 3 3, aI 0], [.blk ((L1 0).b) [aN 20000000, aN 20000000] 30 true, .blk ((L2 16).b) [aN 0, aN 0, aN 0] 25 true], []⟩)
    (fun L2 => [(L1 0).b = (L1 0).b, CallOb Try.prog 79 #[aN 20000000, aN 0, aN 1000000000000] [] (aN 0), (L1 0).b = (L1 0).b, CallOb Try.prog 79 #[aN 20000000, aN 0, aN 1000000000000] [] (aN 0), (L1 0).b = (L1 0).b, (L1 0).b = (L1 0).b, CallOb Try.prog 81 #[.bool (true), aN 9] [] (aN 0), CallOb Try.prog 78 #[.slice (some ⟨(L2 16).b, 0, none⟩) (3) (3)] [.blk ((L2 16).b) [aN 0, aN 0, aN 0] 25 true] (aN 0)])
    fol (by kernel_rfl) (fun _ => by kernel_rfl) (fun L2 => ⟨rfl, (callOb_frz (UA.i_50  )), rfl, (callOb_frz (UA.i_50  )), rfl, rfl, (callOb_frz (UA.i_11  )), (callOb_frz (UA.i_12 ((L2 16).b) )), trivial⟩) (fun L2 => ?_)
  refine aw_ret ?_
  exact fin_ret none [0] (aN 0) [] (.inr rfl) rfl (by kernel_rfl) trivial (fun w' hb => ⟨rfl, hb⟩)

-- couplant/tune.CheckArcs$1
set_option maxRecDepth 100000 in
set_option maxHeartbeats 400000 in
theorem UA.i_52 (b1 b2 : Nat) : CallOb Try.prog 89 #[aN 0, .pointer (some ⟨b1, 0, none⟩)] [.blk (b1) [.slice (some ⟨b2, 0, none⟩) (2) (2)] 57 false, .blk (b2) [aN 2500, aN 20000000, aN 20000000, aN 5000, aN 35000000, aN 35000000] 77 false] (aN 0) := by
  intro w hw
  refine calls_aw [aI 0, aP b1 0, aU, aU, aU, aU, aU, aU, aU, aU, aU, aU, aU, aU, aU, aU, aU, aU, aU, aU, aU, aU, aU, aU, aU, aU, aU, aU, aU, aU, aU, aU, aU, aU, aU] [.blk (b1) [.slice (some ⟨b2, 0, none⟩) (2) (2)] 57 false, .blk (b2) [aN 2500, aN 20000000, aN 20000000, aN 5000, aN 35000000, aN 35000000] 77 false] Try.func89 rfl (by kernel_rfl) (esOk hw (by simp [Cel.mine])) ?_
  refine aw_sr [⟨.pure, [], none, true⟩]
    (fun L1 => ⟨[aI 0, aP b1 0, aU, aI 0, aU, aU, aU, aU, aU, aU, aU, aU, aU, aU, aU, aU, aU, aU, aU, aU, aU, aU, aU, aU, aU, aU, aU, aU, aU, aU, aU, aU, aU, aU, aU], [.blk (b1) [.slice (some ⟨b2, 0, none⟩) (2) (2)] 57 false, .blk (b2) [aN 2500, aN 20000000, aN 20000000, aN 5000, aN 35000000, aN 35000000] 77 false], []⟩)
    (fun L1 => [])
    fol (by kernel_rfl) (fun _ => by kernel_rfl) (fun L1 => trivial) (fun L1 => ?_)
  refine aw_sr [⟨(.read 0), [], none, true⟩, ⟨.pure, [], none, true⟩, ⟨.pure, [0, 1], none, true⟩, ⟨.pure, [0, 1, 2], none, true⟩, ⟨(.read 1), [0, 1, 2, 3], none, true⟩, ⟨(.call [] (aN 0)), [0, 1, 2, 3, 4], none, true⟩, ⟨(.read 0), [], none, true⟩, ⟨.pure, [], none, true⟩, ⟨.pure, [6, 7], none, true⟩, ⟨.pure, [6, 7, 8], none, true⟩, ⟨(.read 1), [6, 7, 8, 9], none, true⟩, ⟨(.call [] (aN 0)), [0, 1, 2, 3, 4, 5, 6, 7, 8, 9, 10], none, true⟩, ⟨.pure, [], none, true⟩, ⟨.pure, [12], none, true⟩, ⟨.pure, [0, 1, 2, 3, 4, 5, 6, 7, 8, 9, 10, 11, 12, 13], none, true⟩, ⟨.pure, [0, 1, 2, 3, 4, 5, 6, 7, 8, 9, 10, 11, 12, 13, 14], none, false⟩, ⟨.pure, [0, 1, 2, 3, 4, 5, 6, 7, 8, 9, 10, 11, 12, 13, 14], none, false⟩, ⟨.pure, [0, 1, 2, 3, 4, 5, 6, 7, 8, 9, 10, 11, 12, 13, 14, 15, 16], none, false⟩, ⟨.pure, [0, 1, 2, 3, 4, 5, 6, 7, 8, 9, 10, 11, 12, 13, 14, 15, 16, 17], none, false⟩, ⟨.pure, [0, 1, 2, 3, 4, 5, 6, 7, 8, 9, 10, 11, 12, 13, 14, 15, 16, 17, 18], none, false⟩, ⟨.pure, [0, 1, 2, 3, 4, 5, 6, 7, 8, 9, 10, 11, 12, 13, 14], none, false⟩, ⟨.pure, [0, 1, 2, 3, 4, 5, 6, 7, 8, 9, 10, 11, 12, 13, 14], none, false⟩, ⟨.pure, [0, 1, 2, 3, 4, 5, 6, 7, 8, 9, 10, 11, 12, 13, 14, 21], none, false⟩, ⟨.pure, [0, 1, 2, 3, 4, 5, 6, 7, 8, 9, 10, 11, 12, 13, 14, 20, 21, 22], none, false⟩, ⟨.pure, [0, 1, 2, 3, 4, 5, 6, 7, 8, 9, 10, 11, 12, 13, 14, 20, 21, 22, 23], none, false⟩, ⟨.pure, [0, 1, 2, 3, 4, 5, 6, 7, 8, 9, 10, 11, 12, 13, 14, 20, 21, 22, 23, 24], none, false⟩, ⟨.pure, [0, 1, 2, 3, 4, 5, 6, 7, 8, 9, 10, 11, 12, 13, 14, 15, 16, 17, 18, 19, 20, 21, 22, 23, 24, 25], none, false⟩, ⟨.pure, [0, 1, 2, 3, 4, 5, 6, 7, 8, 9, 10, 11, 12, 13, 14, 15, 16, 17, 18, 19, 20, 21, 22, 23, 24, 25, 26], aT, true⟩, ⟨(.call [] (aN 0)), [0, 1, 2, 3, 4, 5, 6, 7, 8, 9, 10, 11, 12, 13, 14, 15, 16, 17, 18, 19, 20, 21, 22, 23, 24, 25, 26, 27], none, true⟩, ⟨.new, [0, 1, 2, 3, 4, 5, 6, 7, 8, 9, 10, 11, 12, 13, 14, 15, 16, 17, 18, 19, 20, 21, 22, 23, 24, 25, 26, 27, 28], none, true⟩, ⟨(.call [31] (aN 0)), [0, 1, 2, 3, 4, 5, 6, 7, 8, 9, 10, 11, 12, 13, 14, 15, 16, 17, 18, 19, 20, 21, 22, 23, 24, 25, 26, 27, 28, 29], none, true⟩, ⟨.pure, [0, 1, 2, 3, 4, 5, 6, 7, 8, 9, 10, 11, 12, 13, 14, 15, 16, 17, 18, 19, 20, 21, 22, 23, 24, 25, 26, 27, 28, 29, 30], none, true⟩]
    (fun L2 => ⟨[aI 0, aP b1 0, aU, aI 0, aS b2 0 2 2, aI 0, aP b2 0, aP b2 0, aI 2500, aI 0, aS b2 0 2 2, aI 0, aP b2 0, aP b2 1, some (.agg #[aN 20000000, aN 20000000]), aI 0, aI 0, aT, aT, aU, aU, aU, aU, aU, aU, aU, aU, aU, aU, aU, aU, aT, aI 0, aS (L2 29).b 0 3 3, aI 0], [.blk (b1) [.slice (some ⟨b2, 0, none⟩) (2) (2)] 57 false, .blk (b2) [aN 2500, aN 20000000, aN 20000000, aN 5000, aN 35000000, aN 35000000] 77 false, .blk ((L2 29).b) [aN 0, aN 0, aN 0] 25 true], []⟩)
    (fun L2 => [b1 = b1, b2 = b2, CallOb Try.prog 79 #[aN 2500, aN 1, aN 100000] [] (aN 0), b1 = b1, b2 = b2, 1 + 2 ≤ 6, CallOb Try.prog 90 #[.agg #[aN 20000000, aN 20000000], aN 0, aN 1000000000000] [] (aN 0), (true) = true, (true) = true, (true) = true, (true) = true, (true) = true, (true) = true, (true) = true, (true) = true, (true) = true, (true) = true, (true) = true, (true) = true, (.bool (true) : Value) = .bool (true), CallOb Try.prog 81 #[.bool (true), aN 9] [] (aN 0), CallOb Try.prog 78 #[.slice (some ⟨(L2 29).b, 0, none⟩) (3) (3)] [.blk ((L2 29).b) [aN 0, aN 0, aN 0] 25 true] (aN 0)])
    fol (by kernel_rfl) (fun _ => by kernel_rfl) (fun L2 => ⟨rfl, rfl, (callOb_frz (UA.i_48  )), rfl, rfl, (by decide), (callOb_frz (UA.i_51  )), rfl, rfl, rfl, rfl, rfl, rfl, rfl, rfl, rfl, rfl, rfl, rfl, rfl, (callOb_frz (UA.i_11  )), (callOb_frz (UA.i_12 ((L2 29).b) )), trivial⟩) (fun L2 => ?_)
  refine aw_ret ?_
  exact fin_ret none [0] (aN 0) [] (.inr rfl) rfl (by kernel_rfl) trivial (fun w' hb => ⟨rfl, hb⟩)

-- couplant/base.Within
set_option maxRecDepth 100000 in
set_option maxHeartbeats 400000 in
theorem UA.i_53 : CallOb Try.prog 127 #[aN 5000, aN 1, aN 100000] [] (.bool (true)) := by
  intro w hw
  refine calls_aw [aI 5000, aI 1, aI 100000, aU, aU, aU, aU, aU, aU, aU, aU, aU, aU, aU, aU] [] Try.func127 rfl (by kernel_rfl) (fun e x h => by cases h) ?_
  refine aw_sr [⟨.pure, [], none, true⟩]
    (fun L1 => ⟨[aI 5000, aI 1, aI 100000, aU, aU, aU, aF, aU, aU, aU, aU, aU, aU, aU, aU], [], []⟩)
    (fun L1 => [])
    fol (by kernel_rfl) (fun _ => by kernel_rfl) (fun L1 => trivial) (fun L1 => ?_)
  refine aw_sr [⟨.pure, [], none, true⟩, ⟨.pure, [], none, true⟩, ⟨.pure, [0, 1], none, true⟩, ⟨.pure, [0, 1, 2], none, true⟩, ⟨.pure, [0, 1, 2, 3], none, true⟩, ⟨.pure, [0, 1, 2, 3], none, true⟩, ⟨.pure, [0, 1, 2, 3, 4, 5], none, true⟩, ⟨.pure, [0, 1, 2, 3, 4, 5, 6], aT, true⟩, ⟨.pure, [0, 1, 2, 3, 4, 5, 6, 7], none, true⟩]
    (fun L2 => ⟨[aI 5000, aI 1, aI 100000, aU, aU, aU, aT, aI 1, aI 5000, aT, aT, aI 5000, aI 100000, aT, aT], [], []⟩)
    (fun L2 => [(true) = true, (true) = true, (true) = true, (.bool (true) : Value) = .bool (true)])
    fol (by kernel_rfl) (fun _ => by kernel_rfl) (fun L2 => ⟨rfl, rfl, rfl, rfl, trivial⟩) (fun L2 => ?_)
  refine aw_ret ?_
  exact fin_ret none [0] (.bool (true)) [] (.inr rfl) rfl (by kernel_rfl) trivial (fun w' hb => ⟨rfl, hb⟩)

-- couplant/base.RangeError
set_option maxRecDepth 100000 in
set_option maxHeartbeats 400000 in
theorem UA.i_54 : CallOb Try.prog 79 #[aN 5000, aN 1, aN 100000] [] (aN 0) := by
  intro w hw
  refine calls_aw [aI 5000, aI 1, aI 100000, aU, aU, aU, aU, aU, aU, aU, aU, aU] [] Try.func79 rfl (by kernel_rfl) (fun e x h => by cases h) ?_
  refine aw_sr [⟨.pure, [], none, true⟩]
    (fun L1 => ⟨[aI 5000, aI 1, aI 100000, aU, aU, aU, aI 0, aU, aU, aU, aU, aU], [], []⟩)
    (fun L1 => [])
    fol (by kernel_rfl) (fun _ => by kernel_rfl) (fun L1 => trivial) (fun L1 => ?_)
  refine aw_sr [⟨.pure, [], none, true⟩, ⟨.pure, [], none, true⟩, ⟨.pure, [], none, true⟩, ⟨(.call [] (.bool (true))), [0, 1, 2], none, true⟩, ⟨(.call [] (aN 0)), [0, 1, 2, 3], none, true⟩, ⟨.pure, [0, 1, 2, 3, 4], none, true⟩]
    (fun L2 => ⟨[aI 5000, aI 1, aI 100000, aU, aU, aU, aI 0, aI 5000, aI 1, aI 100000, aT, aI 0], [], []⟩)
    (fun L2 => [CallOb Try.prog 127 #[aN 5000, aN 1, aN 100000] [] (.bool (true)), CallOb Try.prog 81 #[.bool (true), aN 2] [] (aN 0)])
    fol (by kernel_rfl) (fun _ => by kernel_rfl) (fun L2 => ⟨(callOb_frz (UA.i_53  )), (callOb_frz (UA.i_6  )), trivial⟩) (fun L2 => ?_)
  refine aw_ret ?_
  exact fin_ret none [0] (aN 0) [] (.inr rfl) rfl (by kernel_rfl) trivial (fun w' hb => ⟨rfl, hb⟩)

-- couplant/base.Within
set_option maxRecDepth 100000 in
set_option maxHeartbeats 400000 in
theorem UA.i_55 : CallOb Try.prog 127 #[aN 35000000, aN 0, aN 1000000000000] [] (.bool (true)) := by
  intro w hw
  refine calls_aw [aI 35000000, aI 0, aI 1000000000000, aU, aU, aU, aU, aU, aU, aU, aU, aU, aU, aU, aU] [] Try.func127 rfl (by kernel_rfl) (fun e x h => by cases h) ?_
  refine aw_sr [⟨.pure, [], none, true⟩]
    (fun L1 => ⟨[aI 35000000, aI 0, aI 1000000000000, aU, aU, aU, aF, aU, aU, aU, aU, aU, aU, aU, aU], [], []⟩)
    (fun L1 => [])
    fol (by kernel_rfl) (fun _ => by kernel_rfl) (fun L1 => trivial) (fun L1 => ?_)
  refine aw_sr [⟨.pure, [], none, true⟩, ⟨.pure, [], none, true⟩, ⟨.pure, [0, 1], none, true⟩, ⟨.pure, [0, 1, 2], none, true⟩, ⟨.pure, [0, 1, 2, 3], none, true⟩, ⟨.pure, [0, 1, 2, 3], none, true⟩, ⟨.pure, [0, 1, 2, 3, 4, 5], none, true⟩, ⟨.pure, [0, 1, 2, 3, 4, 5, 6], aT, true⟩, ⟨.pure, [0, 1, 2, 3, 4, 5, 6, 7], none, true⟩]
    (fun L2 => ⟨[aI 35000000, aI 0, aI 1000000000000, aU, aU, aU, aT, aI 0, aI 35000000, aT, aT, aI 35000000, aI 1000000000000, aT, aT], [], []⟩)
    (fun L2 => [(true) = true, (true) = true, (true) = true, (.bool (true) : Value) = .bool (true)])
    fol (by kernel_rfl) (fun _ => by kernel_rfl) (fun L2 => ⟨rfl, rfl, rfl, rfl, trivial⟩) (fun L2 => ?_)
  refine aw_ret ?_
  exact fin_ret none [0] (.bool (true)) [] (.inr rfl) rfl (by kernel_rfl) trivial (fun w' hb => ⟨rfl, hb⟩)

-- couplant/base.RangeError
set_option maxRecDepth 100000 in
set_option maxHeartbeats 400000 in
theorem UA.i_56 : CallOb Try.prog 79 #[aN 35000000, aN 0, aN 1000000000000] [] (aN 0) := by
  intro w hw
  refine calls_aw [aI 35000000, aI 0, aI 1000000000000, aU, aU, aU, aU, aU, aU, aU, aU, aU] [] Try.func79 rfl (by kernel_rfl) (fun e x h => by cases h) ?_
  refine aw_sr [⟨.pure, [], none, true⟩]
    (fun L1 => ⟨[aI 35000000, aI 0, aI 1000000000000, aU, aU, aU, aI 0, aU, aU, aU, aU, aU], [], []⟩)
    (fun L1 => [])
    fol (by kernel_rfl) (fun _ => by kernel_rfl) (fun L1 => trivial) (fun L1 => ?_)
  refine aw_sr [⟨.pure, [], none, true⟩, ⟨.pure, [], none, true⟩, ⟨.pure, [], none, true⟩, ⟨(.call [] (.bool (true))), [0, 1, 2], none, true⟩, ⟨(.call [] (aN 0)), [0, 1, 2, 3], none, true⟩, ⟨.pure, [0, 1, 2, 3, 4], none, true⟩]
    (fun L2 => ⟨[aI 35000000, aI 0, aI 1000000000000, aU, aU, aU, aI 0, aI 35000000, aI 0, aI 1000000000000, aT, aI 0], [], []⟩)
    (fun L2 => [CallOb Try.prog 127 #[aN 35000000, aN 0, aN 1000000000000] [] (.bool (true)), CallOb Try.prog 81 #[.bool (true), aN 2] [] (aN 0)])
    fol (by kernel_rfl) (fun _ => by kernel_rfl) (fun L2 => ⟨(callOb_frz (UA.i_55  )), (callOb_frz (UA.i_6  )), trivial⟩) (fun L2 => ?_)
  refine aw_ret ?_
  exact fin_ret none [0] (aN 0) [] (.inr rfl) rfl (by kernel_rfl) trivial (fun w' hb => ⟨rfl, hb⟩)

-- couplant/base.EndsError
set_option maxRecDepth 100000 in
set_option maxHeartbeats 400000 in
theorem UA.i_57 : CallOb Try.prog 90 #[.agg #[aN 35000000, aN 35000000], aN 0, aN 1000000000000] [] (aN 0) := by
  intro w hw
  refine calls_aw [some (.agg #[aN 35000000, aN 35000000]), aI 0, aI 1000000000000, aU, aU, aU, aU, aU, aU, aU, aU, aU, aU, aU, aU, aU, aU, aU, aU, aU, aU, aU, aU, aU, aU] [] Try.func90 rfl (by kernel_rfl) (fun e x h => by cases h) ?_
  refine aw_sr [⟨.new, [], none, true⟩, ⟨.pure, [], none, true⟩]
    (fun L1 => ⟨[some (.agg #[aN 35000000, aN 35000000]), aI 0, aI 1000000000000, aP (L1 0).b 0, aU, aU, aI 0, aU, aU, aU, aU, aU, aU, aU, aU, aU, aU, aU, aU, aU, aU, aU, aU, aU, aU], [.blk ((L1 0).b) [aN 35000000, aN 35000000] 30 true], []⟩)
    (fun L1 => [])
    fol (by kernel_rfl) (fun _ => by kernel_rfl) (fun L1 => trivial) (fun L1 => ?_)
  refine aw_sr [⟨.pure, [], none, true⟩, ⟨(.read 0), [0], none, true⟩, ⟨.pure, [], none, true⟩, ⟨.pure, [], none, true⟩, ⟨(.call [] (aN 0)), [0, 1, 2, 3], none, true⟩, ⟨.pure, [], none, true⟩, ⟨(.read 0), [5], none, true⟩, ⟨.pure, [], none, true⟩, ⟨.pure, [], none, true⟩, ⟨(.call [] (aN 0)), [0, 1, 2, 3, 4, 5, 6, 7, 8], none, true⟩, ⟨.pure, [], none, true⟩, ⟨(.read 0), [10], none, true⟩, ⟨.pure, [], none, true⟩, ⟨(.read 0), [12], none, true⟩, ⟨.pure, [10, 11, 12, 13], none, true⟩, ⟨(.call [] (aN 0)), [0, 1, 2, 3, 4, 5, 6, 7, 8, 9, 10, 11, 12, 13, 14], none, true⟩, ⟨.new, [0, 1, 2, 3, 4, 5, 6, 7, 8, 9, 10, 11, 12, 13, 14, 15], none, true⟩, ⟨(.call [17] (aN 0)), [0, 1, 2, 3, 4, 5, 6, 7, 8, 9, 10, 11, 12, 13, 14, 15, 16], none, true⟩, ⟨.pure, [0, 1, 2, 3, 4, 5, 6, 7, 8, 9, 10, 11, 12, 13, 14, 15, 16, 17], none, true⟩]
    (fun L2 => ⟨[some (.agg #[aN 35000000, aN 35000000]), aI 0, aI 1000000000000, aP (L1 0).b 0, aU, aU, aI 0, aP (L1 0).b 0, aI 35000000, aI 0, aI 1000000000000, aI 0, aP (L1 0).b 1, aI 35000000, aI 0, aI 1000000000000, aI 0, aP (L1 0).b 0, aI 35000000, aP (L1 0).b 1, aI 35000000, aT, aI 0, aS (L2 16).b 0 3 3, aI 0], [.blk ((L1 0).b) [aN 35000000, aN 35000000] 30 true, .blk ((L2 16).b) [aN 0, aN 0, aN 0] 25 true], []⟩)
    (fun L2 => [(L1 0).b = (L1 0).b, CallOb Try.prog 79 #[aN 35000000, aN 0, aN 1000000000000] [] (aN 0), (L1 0).b = (L1 0).b, CallOb Try.prog 79 #[aN 35000000, aN 0, aN 1000000000000] [] (aN 0), (L1 0).b = (L1 0).b, (L1 0).b = (L1 0).b, CallOb Try.prog 81 #[.bool (true), aN 9] [] (aN 0), CallOb Try.prog 78 #[.slice (some ⟨(L2 16).b, 0, none⟩) (3) (3)] [.blk ((L2 16).b) [aN 0, aN 0, aN 0] 25 true] (aN 0)])
    fol (by kernel_rfl) (fun _ => by kernel_rfl) (fun L2 => ⟨rfl, (callOb_frz (UA.i_56  )), rfl, (callOb_frz (UA.i_56  )), rfl, rfl, (callOb_frz (UA.i_11  )), (callOb_frz (UA.i_12 ((L2 16).b) )), trivial⟩) (fun L2 => ?_)
  refine aw_ret ?_
  exact fin_ret none [0] (aN 0) [] (.inr rfl) rfl (by kernel_rfl) trivial (fun w' hb => ⟨rfl, hb⟩)

-- couplant/tune.CheckArcs$1
set_option maxRecDepth 100000 in
set_option maxHeartbeats 400000 in
theorem UA.i_58 (b1 b2 : Nat) : CallOb Try.prog 89 #[aN 1, .pointer (some ⟨b1, 0, none⟩)] [.blk (b1) [.slice (some ⟨b2, 0, none⟩) (2) (2)] 57 false, .blk (b2) [aN 2500, aN 20000000, aN 20000000, aN 5000, aN 35000000, aN 35000000] 77 false] (aN 0) := by
  intro w hw
  refine calls_aw [aI 1, aP b1 0, aU, aU, aU, aU, aU, aU, aU, aU, aU, aU, aU, aU, aU, aU, aU, aU, aU, aU, aU, aU, aU, aU, aU, aU, aU, aU, aU, aU, aU, aU, aU, aU, aU] [.blk (b1) [.slice (some ⟨b2, 0, none⟩) (2) (2)] 57 false, .blk (b2) [aN 2500, aN 20000000, aN 20000000, aN 5000, aN 35000000, aN 35000000] 77 false] Try.func89 rfl (by kernel_rfl) (esOk hw (by simp [Cel.mine])) ?_
  refine aw_sr [⟨.pure, [], none, true⟩]
    (fun L1 => ⟨[aI 1, aP b1 0, aU, aI 0, aU, aU, aU, aU, aU, aU, aU, aU, aU, aU, aU, aU, aU, aU, aU, aU, aU, aU, aU, aU, aU, aU, aU, aU, aU, aU, aU, aU, aU, aU, aU], [.blk (b1) [.slice (some ⟨b2, 0, none⟩) (2) (2)] 57 false, .blk (b2) [aN 2500, aN 20000000, aN 20000000, aN 5000, aN 35000000, aN 35000000] 77 false], []⟩)
    (fun L1 => [])
    fol (by kernel_rfl) (fun _ => by kernel_rfl) (fun L1 => trivial) (fun L1 => ?_)
  refine aw_sr [⟨(.read 0), [], none, true⟩, ⟨.pure, [], none, true⟩, ⟨.pure, [0, 1], none, true⟩, ⟨.pure, [0, 1, 2], none, true⟩, ⟨(.read 1), [0, 1, 2, 3], none, true⟩, ⟨(.call [] (aN 0)), [0, 1, 2, 3, 4], none, true⟩, ⟨(.read 0), [], none, true⟩, ⟨.pure, [], none, true⟩, ⟨.pure, [6, 7], none, true⟩, ⟨.pure, [6, 7, 8], none, true⟩, ⟨(.read 1), [6, 7, 8, 9], none, true⟩, ⟨(.call [] (aN 0)), [0, 1, 2, 3, 4, 5, 6, 7, 8, 9, 10], none, true⟩, ⟨.pure, [], none, true⟩, ⟨.pure, [12], none, true⟩, ⟨.pure, [0, 1, 2, 3, 4, 5, 6, 7, 8, 9, 10, 11, 12, 13], none, true⟩, ⟨(.read 0), [0, 1, 2, 3, 4, 5, 6, 7, 8, 9, 10, 11, 12, 13, 14], none, true⟩, ⟨.pure, [0, 1, 2, 3, 4, 5, 6, 7, 8, 9, 10, 11, 12, 13, 14], none, true⟩, ⟨.pure, [0, 1, 2, 3, 4, 5, 6, 7, 8, 9, 10, 11, 12, 13, 14, 15, 16], none, true⟩, ⟨.pure, [0, 1, 2, 3, 4, 5, 6, 7, 8, 9, 10, 11, 12, 13, 14, 15, 16, 17], none, true⟩, ⟨(.read 1), [0, 1, 2, 3, 4, 5, 6, 7, 8, 9, 10, 11, 12, 13, 14, 15, 16, 17, 18], none, true⟩, ⟨(.read 0), [0, 1, 2, 3, 4, 5, 6, 7, 8, 9, 10, 11, 12, 13, 14], none, true⟩, ⟨.pure, [0, 1, 2, 3, 4, 5, 6, 7, 8, 9, 10, 11, 12, 13, 14], none, true⟩, ⟨.pure, [0, 1, 2, 3, 4, 5, 6, 7, 8, 9, 10, 11, 12, 13, 14, 21], none, true⟩, ⟨.pure, [0, 1, 2, 3, 4, 5, 6, 7, 8, 9, 10, 11, 12, 13, 14, 20, 21, 22], none, true⟩, ⟨.pure, [0, 1, 2, 3, 4, 5, 6, 7, 8, 9, 10, 11, 12, 13, 14, 20, 21, 22, 23], none, true⟩, ⟨(.read 1), [0, 1, 2, 3, 4, 5, 6, 7, 8, 9, 10, 11, 12, 13, 14, 20, 21, 22, 23, 24], none, true⟩, ⟨.pure, [0, 1, 2, 3, 4, 5, 6, 7, 8, 9, 10, 11, 12, 13, 14, 15, 16, 17, 18, 19, 20, 21, 22, 23, 24, 25], none, true⟩, ⟨.pure, [0, 1, 2, 3, 4, 5, 6, 7, 8, 9, 10, 11, 12, 13, 14, 15, 16, 17, 18, 19, 20, 21, 22, 23, 24, 25, 26], aT, true⟩, ⟨(.call [] (aN 0)), [0, 1, 2, 3, 4, 5, 6, 7, 8, 9, 10, 11, 12, 13, 14, 15, 16, 17, 18, 19, 20, 21, 22, 23, 24, 25, 26, 27], none, true⟩, ⟨.new, [0, 1, 2, 3, 4, 5, 6, 7, 8, 9, 10, 11, 12, 13, 14, 15, 16, 17, 18, 19, 20, 21, 22, 23, 24, 25, 26, 27, 28], none, true⟩, ⟨(.call [31] (aN 0)), [0, 1, 2, 3, 4, 5, 6, 7, 8, 9, 10, 11, 12, 13, 14, 15, 16, 17, 18, 19, 20, 21, 22, 23, 24, 25, 26, 27, 28, 29], none, true⟩, ⟨.pure, [0, 1, 2, 3, 4, 5, 6, 7, 8, 9, 10, 11, 12, 13, 14, 15, 16, 17, 18, 19, 20, 21, 22, 23, 24, 25, 26, 27, 28, 29, 30], none, true⟩]
    (fun L2 => ⟨[aI 1, aP b1 0, aU, aI 0, aS b2 0 2 2, aI 1, aP b2 3, aP b2 3, aI 5000, aI 0, aS b2 0 2 2, aI 1, aP b2 3, aP b2 4, some (.agg #[aN 35000000, aN 35000000]), aI 0, aI 1, aF, aF, aS b2 0 2 2, aI 1, aP b2 3, aP b2 3, aI 5000, aS b2 0 2 2, aI 1, aI 0, aP b2 0, aP b2 0, aI 2500, aT, aT, aI 0, aS (L2 29).b 0 3 3, aI 0], [.blk (b1) [.slice (some ⟨b2, 0, none⟩) (2) (2)] 57 false, .blk (b2) [aN 2500, aN 20000000, aN 20000000, aN 5000, aN 35000000, aN 35000000] 77 false, .blk ((L2 29).b) [aN 0, aN 0, aN 0] 25 true], []⟩)
    (fun L2 => [b1 = b1, b2 = b2, CallOb Try.prog 79 #[aN 5000, aN 1, aN 100000] [] (aN 0), b1 = b1, b2 = b2, 4 + 2 ≤ 6, CallOb Try.prog 90 #[.agg #[aN 35000000, aN 35000000], aN 0, aN 1000000000000] [] (aN 0), (false) = false, b1 = b1, (false) = false, (false) = false, (false) = false, (false) = false, b2 = b2, (false) = false, b1 = b1, (false) = false, (false) = false, (false) = false, (false) = false, (false) = false, b2 = b2, (false) = false, (.bool (true) : Value) = .bool (true), CallOb Try.prog 81 #[.bool (true), aN 9] [] (aN 0), CallOb Try.prog 78 #[.slice (some ⟨(L2 29).b, 0, none⟩) (3) (3)] [.blk ((L2 29).b) [aN 0, aN 0, aN 0] 25 true] (aN 0)])
    fol (by kernel_rfl) (fun _ => by kernel_rfl) (fun L2 => ⟨rfl, rfl, (callOb_frz (UA.i_54  )), rfl, rfl, (by decide), (callOb_frz (UA.i_57  )), rfl, rfl, rfl, rfl, rfl, rfl, rfl, rfl, rfl, rfl, rfl, rfl, rfl, rfl, rfl, rfl, rfl, (callOb_frz (UA.i_11  )), (callOb_frz (UA.i_12 ((L2 29).b) )), trivial⟩) (fun L2 => ?_)
  refine aw_ret ?_
  exact fin_ret none [0] (aN 0) [] (.inr rfl) rfl (by kernel_rfl) trivial (fun w' hb => ⟨rfl, hb⟩)

-- couplant/base.FirstIn
set_option maxRecDepth 100000 in
set_option maxHeartbeats 400000 in
theorem UA.i_59 (b1 b2 : Nat) : CallOb Try.prog 76 #[aN 2, .func (.func 89) #[] #[.pointer (some ⟨b1, 0, none⟩)]] [.blk (b1) [.slice (some ⟨b2, 0, none⟩) (2) (2)] 57 false, .blk (b2) [aN 2500, aN 20000000, aN 20000000, aN 5000, aN 35000000, aN 35000000] 77 false] (.tuple #[aN 0, aN 0]) := by
  intro w hw
  refine calls_aw [aI 2, some (.func (.func 89) #[] #[.pointer (some ⟨b1, 0, none⟩)]), aU, aU, aU, aU, aU, aU, aU, aU, aU, aU, aU, aU, aU, aU, aU, aU, aU, aU] [.blk (b1) [.slice (some ⟨b2, 0, none⟩) (2) (2)] 57 false, .blk (b2) [aN 2500, aN 20000000, aN 20000000, aN 5000, aN 35000000, aN 35000000] 77 false] Try.func76 rfl (by kernel_rfl) (esOk hw (by simp [Cel.mine])) ?_
  refine aw_sr [⟨.pure, [], none, true⟩, ⟨.pure, [0], none, true⟩]
    (fun L1 => ⟨[aI 2, some (.func (.func 89) #[] #[.pointer (some ⟨b1, 0, none⟩)]), aU, aU, aI 0, aI 0, aU, aU, aU, aU, aU, aU, aU, aU, aU, aU, aU, aU, aU, aU], [.blk (b1) [.slice (some ⟨b2, 0, none⟩) (2) (2)] 57 false, .blk (b2) [aN 2500, aN 20000000, aN 20000000, aN 5000, aN 35000000, aN 35000000] 77 false], []⟩)
    (fun L1 => [])
    fol (by kernel_rfl) (fun _ => by kernel_rfl) (fun L1 => trivial) (fun L1 => ?_)
  refine aw_seq ?_
  refine aw_sr [⟨.pure, [], none, true⟩, ⟨.pure, [], none, true⟩]
    (fun L2 => ⟨[aI 2, some (.func (.func 89) #[] #[.pointer (some ⟨b1, 0, none⟩)]), aU, aU, aI 0, aI 0, aU, aU, aI 2, aI 0, aU, aU, aU, aU, aU, aU, aU, aU, aU, aU], [.blk (b1) [.slice (some ⟨b2, 0, none⟩) (2) (2)] 57 false, .blk (b2) [aN 2500, aN 20000000, aN 20000000, aN 5000, aN 35000000, aN 35000000] 77 false], []⟩)
    (fun L2 => [])
    fol (by kernel_rfl) (fun _ => by kernel_rfl) (fun L2 => trivial) (fun L2 => ?_)
  refine aw_block ?_
  refine aw_rounds 3 ?_
  refine aw_round ?_
  refine aw_sr [⟨.pure, [], none, true⟩]
    (fun L3 => ⟨[aI 2, some (.func (.func 89) #[] #[.pointer (some ⟨b1, 0, none⟩)]), aU, aU, aI 0, aI 0, aU, aU, aI 2, aI 0, aT, aU, aU, aU, aU, aU, aU, aU, aU, aU], [.blk (b1) [.slice (some ⟨b2, 0, none⟩) (2) (2)] 57 false, .blk (b2) [aN 2500, aN 20000000, aN 20000000, aN 5000, aN 35000000, aN 35000000] 77 false], []⟩)
    (fun L3 => [])
    fol (by kernel_rfl) (fun _ => by kernel_rfl) (fun L3 => trivial) (fun L3 => ?_)
  refine aw_seq ?_
  refine aw_true (true) rfl rfl ?_
  refine aw_skip ?_
  refine nrm_thn ?_
  refine aw_seq ?_
  refine aw_block ?_
  refine aw_sr [⟨.pure, [], none, true⟩, ⟨.pure, [0], none, true⟩]
    (fun L4 => ⟨[aI 2, some (.func (.func 89) #[] #[.pointer (some ⟨b1, 0, none⟩)]), aU, aU, aI 0, aI 0, aI 0, aU, aI 2, aI 0, aT, aI 0, aU, aU, aU, aU, aU, aU, aU, aU], [.blk (b1) [.slice (some ⟨b2, 0, none⟩) (2) (2)] 57 false, .blk (b2) [aN 2500, aN 20000000, aN 20000000, aN 5000, aN 35000000, aN 35000000] 77 false], []⟩)
    (fun L4 => [])
    fol (by kernel_rfl) (fun _ => by kernel_rfl) (fun L4 => trivial) (fun L4 => ?_)
  refine aw_sr [⟨.pure, [], none, true⟩, ⟨.pure, [], none, true⟩, ⟨(.call [0, 1] (aN 0)), [0, 1], none, true⟩, ⟨.pure, [0, 1, 2], none, true⟩]
    (fun L5 => ⟨[aI 2, some (.func (.func 89) #[] #[.pointer (some ⟨b1, 0, none⟩)]), aU, aU, aI 0, aI 0, aI 0, aI 0, aI 2, aI 0, aT, aI 0, some (.func (.func 89) #[] #[.pointer (some ⟨b1, 0, none⟩)]), aI 0, aI 0, aU, aU, aU, aU, aU], [.blk (b1) [.slice (some ⟨b2, 0, none⟩) (2) (2)] 57 false, .blk (b2) [aN 2500, aN 20000000, aN 20000000, aN 5000, aN 35000000, aN 35000000] 77 false], []⟩)
    (fun L5 => [CallOb Try.prog 89 #[aN 0, .pointer (some ⟨b1, 0, none⟩)] [.blk (b1) [.slice (some ⟨b2, 0, none⟩) (2) (2)] 57 false, .blk (b2) [aN 2500, aN 20000000, aN 20000000, aN 5000, aN 35000000, aN 35000000] 77 false] (aN 0)])
    fol (by kernel_rfl) (fun _ => by kernel_rfl) (fun L5 => ⟨(callOb_frz (UA.i_52 (b1) (b2) )), trivial⟩) (fun L5 => ?_)
  refine aw_sr [⟨.pure, [], none, true⟩, ⟨.pure, [0], none, true⟩]
    (fun L6 => ⟨[aI 2, some (.func (.func 89) #[] #[.pointer (some ⟨b1, 0, none⟩)]), aU, aU, aI 0, aI 0, aI 0, aI 0, aI 2, aI 0, aT, aI 0, some (.func (.func 89) #[] #[.pointer (some ⟨b1, 0, none⟩)]), aI 0, aI 0, aI 0, aF, aU, aU, aU], [.blk (b1) [.slice (some ⟨b2, 0, none⟩) (2) (2)] 57 false, .blk (b2) [aN 2500, aN 20000000, aN 20000000, aN 5000, aN 35000000, aN 35000000] 77 false], []⟩)
    (fun L6 => [])
    fol (by kernel_rfl) (fun _ => by kernel_rfl) (fun L6 => trivial) (fun L6 => ?_)
  refine aw_false (false) rfl rfl ?_
  refine aw_skip ?_
  refine nrm_inB ?_
  refine nrm_thn ?_
  refine aw_region [⟨.pure, [], none, true⟩, ⟨.pure, [0], none, true⟩]
    (fun L7 => ⟨[aI 2, some (.func (.func 89) #[] #[.pointer (some ⟨b1, 0, none⟩)]), aU, aU, aI 0, aI 0, aI 0, aI 0, aI 2, aI 1, aT, aI 0, some (.func (.func 89) #[] #[.pointer (some ⟨b1, 0, none⟩)]), aI 0, aI 0, aI 0, aF, aU, aU, aI 1], [.blk (b1) [.slice (some ⟨b2, 0, none⟩) (2) (2)] 57 false, .blk (b2) [aN 2500, aN 20000000, aN 20000000, aN 5000, aN 35000000, aN 35000000] 77 false], []⟩)
    (fun L7 => [])
    fol (by kernel_rfl) (fun _ => by kernel_rfl) (fun L7 => trivial) (fun L7 => ?_)
  refine nrm_thn ?_
  refine aw_round ?_
  refine aw_sr [⟨.pure, [], none, true⟩]
    (fun L8 => ⟨[aI 2, some (.func (.func 89) #[] #[.pointer (some ⟨b1, 0, none⟩)]), aU, aU, aI 0, aI 0, aI 0, aI 0, aI 2, aI 1, aT, aI 0, some (.func (.func 89) #[] #[.pointer (some ⟨b1, 0, none⟩)]), aI 0, aI 0, aI 0, aF, aU, aU, aI 1], [.blk (b1) [.slice (some ⟨b2, 0, none⟩) (2) (2)] 57 false, .blk (b2) [aN 2500, aN 20000000, aN 20000000, aN 5000, aN 35000000, aN 35000000] 77 false], []⟩)
    (fun L8 => [])
    fol (by kernel_rfl) (fun _ => by kernel_rfl) (fun L8 => trivial) (fun L8 => ?_)
  refine aw_seq ?_
  refine aw_true (true) rfl rfl ?_
  refine aw_skip ?_
  refine nrm_thn ?_
  refine aw_seq ?_
  refine aw_block ?_
  refine aw_sr [⟨.pure, [], none, true⟩, ⟨.pure, [0], none, true⟩]
    (fun L9 => ⟨[aI 2, some (.func (.func 89) #[] #[.pointer (some ⟨b1, 0, none⟩)]), aU, aU, aI 0, aI 0, aI 1, aI 0, aI 2, aI 1, aT, aI 1, some (.func (.func 89) #[] #[.pointer (some ⟨b1, 0, none⟩)]), aI 0, aI 0, aI 0, aF, aU, aU, aI 1], [.blk (b1) [.slice (some ⟨b2, 0, none⟩) (2) (2)] 57 false, .blk (b2) [aN 2500, aN 20000000, aN 20000000, aN 5000, aN 35000000, aN 35000000] 77 false], []⟩)
    (fun L9 => [])
    fol (by kernel_rfl) (fun _ => by kernel_rfl) (fun L9 => trivial) (fun L9 => ?_)
  refine aw_sr [⟨.pure, [], none, true⟩, ⟨.pure, [], none, true⟩, ⟨(.call [0, 1] (aN 0)), [0, 1], none, true⟩, ⟨.pure, [0, 1, 2], none, true⟩]
    (fun L10 => ⟨[aI 2, some (.func (.func 89) #[] #[.pointer (some ⟨b1, 0, none⟩)]), aU, aU, aI 0, aI 0, aI 1, aI 0, aI 2, aI 1, aT, aI 1, some (.func (.func 89) #[] #[.pointer (some ⟨b1, 0, none⟩)]), aI 1, aI 0, aI 0, aF, aU, aU, aI 1], [.blk (b1) [.slice (some ⟨b2, 0, none⟩) (2) (2)] 57 false, .blk (b2) [aN 2500, aN 20000000, aN 20000000, aN 5000, aN 35000000, aN 35000000] 77 false], []⟩)
    (fun L10 => [CallOb Try.prog 89 #[aN 1, .pointer (some ⟨b1, 0, none⟩)] [.blk (b1) [.slice (some ⟨b2, 0, none⟩) (2) (2)] 57 false, .blk (b2) [aN 2500, aN 20000000, aN 20000000, aN 5000, aN 35000000, aN 35000000] 77 false] (aN 0)])
    fol (by kernel_rfl) (fun _ => by kernel_rfl) (fun L10 => ⟨(callOb_frz (UA.i_58 (b1) (b2) )), trivial⟩) (fun L10 => ?_)
  refine aw_sr [⟨.pure, [], none, true⟩, ⟨.pure, [0], none, true⟩]
    (fun L11 => ⟨[aI 2, some (.func (.func 89) #[] #[.pointer (some ⟨b1, 0, none⟩)]), aU, aU, aI 0, aI 0, aI 1, aI 0, aI 2, aI 1, aT, aI 1, some (.func (.func 89) #[] #[.pointer (some ⟨b1, 0, none⟩)]), aI 1, aI 0, aI 0, aF, aU, aU, aI 1], [.blk (b1) [.slice (some ⟨b2, 0, none⟩) (2) (2)] 57 false, .blk (b2) [aN 2500, aN 20000000, aN 20000000, aN 5000, aN 35000000, aN 35000000] 77 false], []⟩)
    (fun L11 => [])
    fol (by kernel_rfl) (fun _ => by kernel_rfl) (fun L11 => trivial) (fun L11 => ?_)
  refine aw_false (false) rfl rfl ?_
  refine aw_skip ?_
  refine nrm_inB ?_
  refine nrm_thn ?_
  refine aw_region [⟨.pure, [], none, true⟩, ⟨.pure, [0], none, true⟩]
    (fun L12 => ⟨[aI 2, some (.func (.func 89) #[] #[.pointer (some ⟨b1, 0, none⟩)]), aU, aU, aI 0, aI 0, aI 1, aI 0, aI 2, aI 2, aT, aI 1, some (.func (.func 89) #[] #[.pointer (some ⟨b1, 0, none⟩)]), aI 1, aI 0, aI 0, aF, aU, aU, aI 2], [.blk (b1) [.slice (some ⟨b2, 0, none⟩) (2) (2)] 57 false, .blk (b2) [aN 2500, aN 20000000, aN 20000000, aN 5000, aN 35000000, aN 35000000] 77 false], []⟩)
    (fun L12 => [])
    fol (by kernel_rfl) (fun _ => by kernel_rfl) (fun L12 => trivial) (fun L12 => ?_)
  refine nrm_thn ?_
  refine aw_round ?_
  refine aw_sr [⟨.pure, [], none, true⟩]
    (fun L13 => ⟨[aI 2, some (.func (.func 89) #[] #[.pointer (some ⟨b1, 0, none⟩)]), aU, aU, aI 0, aI 0, aI 1, aI 0, aI 2, aI 2, aF, aI 1, some (.func (.func 89) #[] #[.pointer (some ⟨b1, 0, none⟩)]), aI 1, aI 0, aI 0, aF, aU, aU, aI 2], [.blk (b1) [.slice (some ⟨b2, 0, none⟩) (2) (2)] 57 false, .blk (b2) [aN 2500, aN 20000000, aN 20000000, aN 5000, aN 35000000, aN 35000000] 77 false], []⟩)
    (fun L13 => [])
    fol (by kernel_rfl) (fun _ => by kernel_rfl) (fun L13 => trivial) (fun L13 => ?_)
  refine aw_seq ?_
  refine aw_false (false) rfl rfl ?_
  refine aw_exit ?_
  refine ex_thn ?_
  refine ex_thn ?_
  refine ex_hit ?_
  refine nrm_thn ?_
  refine aw_sr [⟨.pure, [], none, true⟩, ⟨.pure, [0], none, true⟩]
    (fun L14 => ⟨[aI 2, some (.func (.func 89) #[] #[.pointer (some ⟨b1, 0, none⟩)]), aU, aU, aI 0, aI 0, aI 1, aI 0, aI 2, aI 2, aF, aI 1, some (.func (.func 89) #[] #[.pointer (some ⟨b1, 0, none⟩)]), aI 1, aI 0, aI 0, aF, aU, aU, aI 2], [.blk (b1) [.slice (some ⟨b2, 0, none⟩) (2) (2)] 57 false, .blk (b2) [aN 2500, aN 20000000, aN 20000000, aN 5000, aN 35000000, aN 35000000] 77 false], []⟩)
    (fun L14 => [])
    fol (by kernel_rfl) (fun _ => by kernel_rfl) (fun L14 => trivial) (fun L14 => ?_)
  refine aw_ret ?_
  exact fin_ret none [0, 0] (.tuple #[aN 0, aN 0]) [] (.inr rfl) rfl (by kernel_rfl) trivial (fun w' hb => ⟨rfl, hb⟩)

-- couplant/tune.CheckArcs
set_option maxRecDepth 100000 in
set_option maxHeartbeats 400000 in
theorem UA.i_60 (b1 : Nat) : CallOb Try.prog 38 #[.slice (some ⟨b1, 0, none⟩) (2) (2)] [.blk (b1) [aN 2500, aN 20000000, aN 20000000, aN 5000, aN 35000000, aN 35000000] 77 false] (.tuple #[aN 0, aN 0]) := by
  intro w hw
  refine calls_aw [aS b1 0 2 2, aU, aU, aU, aU, aU, aU, aU, aU, aU, aU, aU, aU, aU, aU, aU, aU, aU, aU, aU, aU, aU, aU, aU] [.blk (b1) [aN 2500, aN 20000000, aN 20000000, aN 5000, aN 35000000, aN 35000000] 77 false] Try.func38 rfl (by kernel_rfl) (esOk hw (by simp [Cel.mine])) ?_
  refine aw_sr [⟨.new, [], none, true⟩, ⟨.pure, [], none, true⟩, ⟨.pure, [1], none, true⟩]
    (fun L1 => ⟨[aS b1 0 2 2, aP (L1 0).b 0, aI 0, aI 0, aU, aU, aU, aU, aU, aU, aU, aU, aU, aU, aU, aU, aU, aU, aU, aU, aU, aU, aU, aU], [.blk (b1) [aN 2500, aN 20000000, aN 20000000, aN 5000, aN 35000000, aN 35000000] 77 false, .blk ((L1 0).b) [.slice (some ⟨b1, 0, none⟩) (2) (2)] 57 true], []⟩)
    (fun L1 => [])
    fol (by kernel_rfl) (fun _ => by kernel_rfl) (fun L1 => trivial) (fun L1 => ?_)
  refine aw_sr [⟨(.read 1), [], none, true⟩, ⟨.pure, [0], none, true⟩, ⟨.pure, [0, 1], none, true⟩, ⟨(.call [] (aN 0)), [0, 1, 2], none, true⟩, ⟨(.read 1), [], none, true⟩, ⟨.pure, [4], none, true⟩, ⟨.pure, [4, 5], none, true⟩, ⟨(.call [] (aN 0)), [0, 1, 2, 3, 4, 5, 6], none, true⟩, ⟨.new, [0, 1, 2, 3, 4, 5, 6, 7], none, true⟩, ⟨(.call [10] (aN 0)), [0, 1, 2, 3, 4, 5, 6, 7, 8], none, true⟩, ⟨.pure, [0, 1, 2, 3, 4, 5, 6, 7, 8, 9], none, true⟩]
    (fun L2 => ⟨[aS b1 0 2 2, aP (L1 0).b 0, aI 0, aI 0, aI 0, aS b1 0 2 2, aI 2, aT, aI 0, aS b1 0 2 2, aI 2, aT, aI 0, aS (L2 8).b 0 2 2, aI 0, aU, aU, aU, aU, aU, aU, aU, aU, aU], [.blk (b1) [aN 2500, aN 20000000, aN 20000000, aN 5000, aN 35000000, aN 35000000] 77 false, .blk ((L1 0).b) [.slice (some ⟨b1, 0, none⟩) (2) (2)] 57 true, .blk ((L2 8).b) [aN 0, aN 0] 25 true], []⟩)
    (fun L2 => [(L1 0).b = (L1 0).b, CallOb Try.prog 81 #[.bool (true), aN 10] [] (aN 0), (L1 0).b = (L1 0).b, CallOb Try.prog 81 #[.bool (true), aN 8] [] (aN 0), CallOb Try.prog 78 #[.slice (some ⟨(L2 8).b, 0, none⟩) (2) (2)] [.blk ((L2 8).b) [aN 0, aN 0] 25 true] (aN 0)])
    fol (by kernel_rfl) (fun _ => by kernel_rfl) (fun L2 => ⟨rfl, (callOb_frz (UA.i_1  )), rfl, (callOb_frz (UA.i_2  )), (callOb_frz (UA.i_3 ((L2 8).b) )), trivial⟩) (fun L2 => ?_)
  refine aw_seq ?_
  refine aw_sr [⟨.pure, [], none, true⟩, ⟨.pure, [0], none, true⟩]
    (fun L3 => ⟨[aS b1 0 2 2, aP (L1 0).b 0, aI 0, aI 0, aI 0, aS b1 0 2 2, aI 2, aT, aI 0, aS b1 0 2 2, aI 2, aT, aI 0, aS (L2 8).b 0 2 2, aI 0, aI 0, aF, aU, aU, aU, aU, aU, aU, aU], [.blk (b1) [aN 2500, aN 20000000, aN 20000000, aN 5000, aN 35000000, aN 35000000] 77 false, .blk ((L1 0).b) [.slice (some ⟨b1, 0, none⟩) (2) (2)] 57 true, .blk ((L2 8).b) [aN 0, aN 0] 25 true], []⟩)
    (fun L3 => [])
    fol (by kernel_rfl) (fun _ => by kernel_rfl) (fun L3 => trivial) (fun L3 => ?_)
  refine aw_false (false) rfl rfl ?_
  refine aw_skip ?_
  refine nrm_thn ?_
  refine aw_sr [⟨(.read 1), [], none, true⟩, ⟨.pure, [0], none, true⟩, ⟨.pure, [], none, true⟩, ⟨(.call [1, 0] (.tuple #[aN 0, aN 0])), [0, 1, 2], none, true⟩, ⟨.pure, [0, 1, 2, 3], none, true⟩, ⟨.pure, [0, 1, 2, 3], none, true⟩, ⟨.pure, [0, 1, 2, 3, 4, 5], none, true⟩, ⟨.pure, [0, 1, 2, 3, 4, 5, 6], none, true⟩]
    (fun L4 => ⟨[aS b1 0 2 2, aP (L1 0).b 0, aI 0, aI 0, aI 0, aS b1 0 2 2, aI 2, aT, aI 0, aS b1 0 2 2, aI 2, aT, aI 0, aS (L2 8).b 0 2 2, aI 0, aI 0, aF, aU, aS b1 0 2 2, aI 2, some (.func (.func 89) #[] #[.pointer (some ⟨(L1 0).b, 0, none⟩)]), some (.tuple #[aN 0, aN 0]), aI 0, aI 0], [.blk (b1) [aN 2500, aN 20000000, aN 20000000, aN 5000, aN 35000000, aN 35000000] 77 false, .blk ((L1 0).b) [.slice (some ⟨b1, 0, none⟩) (2) (2)] 57 true, .blk ((L2 8).b) [aN 0, aN 0] 25 true], []⟩)
    (fun L4 => [(L1 0).b = (L1 0).b, CallOb Try.prog 76 #[aN 2, .func (.func 89) #[] #[.pointer (some ⟨(L1 0).b, 0, none⟩)]] [.blk ((L1 0).b) [.slice (some ⟨b1, 0, none⟩) (2) (2)] 57 true, .blk (b1) [aN 2500, aN 20000000, aN 20000000, aN 5000, aN 35000000, aN 35000000] 77 false] (.tuple #[aN 0, aN 0])])
    fol (by kernel_rfl) (fun _ => by kernel_rfl) (fun L4 => ⟨rfl, (callOb_frz (UA.i_59 ((L1 0).b) (b1) )), trivial⟩) (fun L4 => ?_)
  refine aw_ret ?_
  exact fin_ret none [0, 0] (.tuple #[aN 0, aN 0]) [] (.inr rfl) rfl (by kernel_rfl) trivial (fun w' hb => ⟨rfl, hb⟩)

-- couplant/tune.through
set_option maxRecDepth 100000 in
set_option maxHeartbeats 400000 in
theorem UA.i_61 : CallOb Try.prog 136 #[.agg #[aN 2500, aN 20000000, aN 20000000], aN 20000000, .agg #[aN 5000, aN 35000000, aN 35000000], aN 35000000] [] (.agg #[aN 2500, aN 20000000, aN 5000, aN 35000000]) := by
  intro w hw
  refine calls_aw [some (.agg #[aN 2500, aN 20000000, aN 20000000]), aI 20000000, some (.agg #[aN 5000, aN 35000000, aN 35000000]), aI 35000000, aU, aU, aU, aU, aU, aU, aU, aU, aU, aU, aU, aU, aU, aU] [] Try.func136 rfl (by kernel_rfl) (fun e x h => by cases h) ?_
  refine aw_sr [⟨.new, [], none, true⟩, ⟨.new, [], none, true⟩, ⟨.new, [], none, true⟩]
    (fun L1 => ⟨[some (.agg #[aN 2500, aN 20000000, aN 20000000]), aI 20000000, some (.agg #[aN 5000, aN 35000000, aN 35000000]), aI 35000000, aP (L1 0).b 0, aU, aP (L1 1).b 0, aU, aP (L1 2).b 0, aU, aU, aU, aU, aU, aU, aU, aU, aU], [.blk ((L1 0).b) [aN 2500, aN 20000000, aN 20000000] 77 true, .blk ((L1 1).b) [aN 5000, aN 35000000, aN 35000000] 77 true, .blk ((L1 2).b) [aN 0, aN 0, aN 0, aN 0] 141 true], []⟩)
    (fun L1 => [])
    fol (by kernel_rfl) (fun _ => by kernel_rfl) (fun L1 => trivial) (fun L1 => ?_)
  refine aw_sr [⟨.pure, [], none, true⟩, ⟨(.read 0), [0], none, true⟩, ⟨.pure, [], none, true⟩, ⟨.pure, [0, 1, 2], none, true⟩, ⟨.pure, [], none, true⟩, ⟨(.read 1), [4], none, true⟩, ⟨.pure, [], none, true⟩, ⟨.pure, [4, 5, 6], none, true⟩, ⟨.pure, [0, 1, 2, 3, 4, 5, 6, 7], none, true⟩, ⟨(.write 2), [0, 1, 2, 3, 4, 5, 6, 7, 8], none, true⟩]
    (fun L2 => ⟨[some (.agg #[aN 2500, aN 20000000, aN 20000000]), aI 20000000, some (.agg #[aN 5000, aN 35000000, aN 35000000]), aI 35000000, aP (L1 0).b 0, aU, aP (L1 1).b 0, aU, aP (L1 2).b 0, aP (L1 0).b 0, aI 2500, aI 20000000, some (.agg #[aN 2500, aN 20000000]), aP (L1 1).b 0, aI 5000, aI 35000000, some (.agg #[aN 5000, aN 35000000]), some (.agg #[aN 2500, aN 20000000, aN 5000, aN 35000000])], [.blk ((L1 0).b) [aN 2500, aN 20000000, aN 20000000] 77 true, .blk ((L1 1).b) [aN 5000, aN 35000000, aN 35000000] 77 true, .blk ((L1 2).b) [aN 2500, aN 20000000, aN 5000, aN 35000000] 141 true], []⟩)
    (fun L2 => [(L1 0).b = (L1 0).b, (L1 1).b = (L1 1).b, (L1 2).b = (L1 2).b, 0 + 4 ≤ 4, 4 = 4, true = true])
    fol (by kernel_rfl) (fun _ => by kernel_rfl) (fun L2 => ⟨rfl, rfl, rfl, (by decide), rfl, rfl, trivial⟩) (fun L2 => ?_)
  refine aw_ret ?_
  exact fin_ret none [2] (.agg #[aN 2500, aN 20000000, aN 5000, aN 35000000]) [(L1 2).b = (L1 2).b, 0 + 4 ≤ 4] (.inr rfl) rfl (by kernel_rfl) ⟨rfl, (by decide), trivial⟩ (fun w' hb => ⟨rfl, hb⟩)

-- couplant/tune.flattest
set_option maxRecDepth 100000 in
set_option maxHeartbeats 400000 in
theorem UA.i_62 : CallOb Try.prog 98 #[.agg #[aN 2500, aN 20000000, aN 20000000], .agg #[aN 5000, aN 35000000, aN 35000000]] [] (.agg #[aN 2500, aN 20000000, aN 5000, aN 35000000]) := by
  intro w hw
  refine calls_aw [some (.agg #[aN 2500, aN 20000000, aN 20000000]), some (.agg #[aN 5000, aN 35000000, aN 35000000]), aU, aU, aU, aU, aU, aU, aU, aU, aU, aU, aU, aU] [] Try.func98 rfl (by kernel_rfl) (fun e x h => by cases h) ?_
  refine aw_sr [⟨.new, [], none, true⟩, ⟨.new, [], none, true⟩, ⟨.new, [], none, true⟩]
    (fun L1 => ⟨[some (.agg #[aN 2500, aN 20000000, aN 20000000]), some (.agg #[aN 5000, aN 35000000, aN 35000000]), aP (L1 0).b 0, aP (L1 1).b 0, aP (L1 2).b 0, aU, aU, aU, aU, aU, aU, aU, aU, aU], [.blk ((L1 0).b) [aN 2500, aN 20000000, aN 20000000] 77 true, .blk ((L1 1).b) [aN 5000, aN 35000000, aN 35000000] 77 true, .blk ((L1 2).b) [aN 0, aN 0, aN 0, aN 0] 141 true], []⟩)
    (fun L1 => [])
    fol (by kernel_rfl) (fun _ => by kernel_rfl) (fun L1 => trivial) (fun L1 => ?_)
  refine aw_sr [⟨(.read 0), [], none, true⟩, ⟨.pure, [], none, true⟩, ⟨.pure, [1], none, true⟩, ⟨(.read 0), [1, 2], none, true⟩, ⟨(.read 1), [], none, true⟩, ⟨.pure, [], none, true⟩, ⟨.pure, [5], none, true⟩, ⟨(.read 1), [5, 6], none, true⟩, ⟨(.call [] (.agg #[aN 2500, aN 20000000, aN 5000, aN 35000000])), [0, 1, 2, 3, 4, 5, 6, 7], none, true⟩, ⟨(.write 2), [0, 1, 2, 3, 4, 5, 6, 7, 8], none, true⟩]
    (fun L2 => ⟨[some (.agg #[aN 2500, aN 20000000, aN 20000000]), some (.agg #[aN 5000, aN 35000000, aN 35000000]), aP (L1 0).b 0, aP (L1 1).b 0, aP (L1 2).b 0, some (.agg #[aN 2500, aN 20000000, aN 20000000]), aP (L1 0).b 1, aP (L1 0).b 2, aI 20000000, some (.agg #[aN 5000, aN 35000000, aN 35000000]), aP (L1 1).b 1, aP (L1 1).b 1, aI 35000000, some (.agg #[aN 2500, aN 20000000, aN 5000, aN 35000000])], [.blk ((L1 0).b) [aN 2500, aN 20000000, aN 20000000] 77 true, .blk ((L1 1).b) [aN 5000, aN 35000000, aN 35000000] 77 true, .blk ((L1 2).b) [aN 2500, aN 20000000, aN 5000, aN 35000000] 141 true], []⟩)
    (fun L2 => [(L1 0).b = (L1 0).b, 0 + 3 ≤ 3, (L1 0).b = (L1 0).b, (L1 1).b = (L1 1).b, 0 + 3 ≤ 3, (L1 1).b = (L1 1).b, CallOb Try.prog 136 #[.agg #[aN 2500, aN 20000000, aN 20000000], aN 20000000, .agg #[aN 5000, aN 35000000, aN 35000000], aN 35000000] [] (.agg #[aN 2500, aN 20000000, aN 5000, aN 35000000]), (L1 2).b = (L1 2).b, 0 + 4 ≤ 4, 4 = 4, true = true])
    fol (by kernel_rfl) (fun _ => by kernel_rfl) (fun L2 => ⟨rfl, (by decide), rfl, rfl, (by decide), rfl, (callOb_frz (UA.i_61  )), rfl, (by decide), rfl, rfl, trivial⟩) (fun L2 => ?_)
  refine aw_ret ?_
  exact fin_ret none [2] (.agg #[aN 2500, aN 20000000, aN 5000, aN 35000000]) [(L1 2).b = (L1 2).b, 0 + 4 ≤ 4] (.inr rfl) rfl (by kernel_rfl) ⟨rfl, (by decide), trivial⟩ (fun w' hb => ⟨rfl, hb⟩)

-- (couplant/tune.line).slowness
set_option maxRecDepth 100000 in
set_option maxHeartbeats 400000 in
theorem UA.i_63 : CallOb Try.prog 132 #[.agg #[aN 2500, aN 20000000, aN 5000, aN 35000000]] [] (.agg #[aN 15000000, aN 5000]) := by
  intro w hw
  refine calls_aw [some (.agg #[aN 2500, aN 20000000, aN 5000, aN 35000000]), aU, aU, aU, aU, aU, aU, aU, aU, aU, aU, aU, aU, aU, aU, aU, aU, aU, aU] [] Try.func132 rfl (by kernel_rfl) (fun e x h => by cases h) ?_
  refine aw_sr [⟨.new, [], none, true⟩, ⟨.new, [], none, true⟩]
    (fun L1 => ⟨[some (.agg #[aN 2500, aN 20000000, aN 5000, aN 35000000]), aP (L1 0).b 0, aP (L1 1).b 0, aU, aU, aU, aU, aU, aU, aU, aU, aU, aU, aU, aU, aU, aU, aU, aU], [.blk ((L1 0).b) [aN 2500, aN 20000000, aN 5000, aN 35000000] 141 true, .blk ((L1 1).b) [aN 0, aN 0] 123 true], []⟩)
    (fun L1 => [])
    fol (by kernel_rfl) (fun _ => by kernel_rfl) (fun L1 => trivial) (fun L1 => ?_)
  refine aw_sr [⟨.pure, [], none, true⟩, ⟨.pure, [0], none, true⟩, ⟨(.read 0), [0, 1], none, true⟩, ⟨.pure, [], none, true⟩, ⟨.pure, [3], none, true⟩, ⟨(.read 0), [3, 4], none, true⟩, ⟨.pure, [0, 1, 2, 3, 4, 5], none, true⟩, ⟨.pure, [], none, true⟩, ⟨.pure, [7], none, true⟩, ⟨(.read 0), [7, 8], none, true⟩, ⟨.pure, [], none, true⟩, ⟨.pure, [10], none, true⟩, ⟨(.read 0), [10, 11], none, true⟩, ⟨.pure, [7, 8, 9, 10, 11, 12], none, true⟩, ⟨.pure, [7, 8, 9, 10, 11, 12, 13], none, true⟩, ⟨.pure, [0, 1, 2, 3, 4, 5, 6, 7, 8, 9, 10, 11, 12, 13, 14], none, true⟩, ⟨(.write 1), [0, 1, 2, 3, 4, 5, 6, 7, 8, 9, 10, 11, 12, 13, 14, 15], none, true⟩]
    (fun L2 => ⟨[some (.agg #[aN 2500, aN 20000000, aN 5000, aN 35000000]), aP (L1 0).b 0, aP (L1 1).b 0, aP (L1 0).b 2, aP (L1 0).b 3, aI 35000000, aP (L1 0).b 0, aP (L1 0).b 1, aI 20000000, aI 15000000, aP (L1 0).b 2, aP (L1 0).b 2, aI 5000, aP (L1 0).b 0, aP (L1 0).b 0, aI 2500, aI 2500, aI 5000, some (.agg #[aN 15000000, aN 5000])], [.blk ((L1 0).b) [aN 2500, aN 20000000, aN 5000, aN 35000000] 141 true, .blk ((L1 1).b) [aN 15000000, aN 5000] 123 true], []⟩)
    (fun L2 => [(L1 0).b = (L1 0).b, (L1 0).b = (L1 0).b, (L1 0).b = (L1 0).b, (L1 0).b = (L1 0).b, (L1 1).b = (L1 1).b, 0 + 2 ≤ 2, 2 = 2, true = true])
    fol (by kernel_rfl) (fun _ => by kernel_rfl) (fun L2 => ⟨rfl, rfl, rfl, rfl, rfl, (by decide), rfl, rfl, trivial⟩) (fun L2 => ?_)
  refine aw_ret ?_
  exact fin_ret none [1] (.agg #[aN 15000000, aN 5000]) [(L1 1).b = (L1 1).b, 0 + 2 ≤ 2] (.inr rfl) rfl (by kernel_rfl) ⟨rfl, (by decide), trivial⟩ (fun w' hb => ⟨rfl, hb⟩)

-- couplant/tune.steepest
set_option maxRecDepth 100000 in
set_option maxHeartbeats 400000 in
theorem UA.i_64 : CallOb Try.prog 96 #[.agg #[aN 2500, aN 20000000, aN 20000000], .agg #[aN 5000, aN 35000000, aN 35000000]] [] (.agg #[aN 2500, aN 20000000, aN 5000, aN 35000000]) := by
  intro w hw
  refine calls_aw [some (.agg #[aN 2500, aN 20000000, aN 20000000]), some (.agg #[aN 5000, aN 35000000, aN 35000000]), aU, aU, aU, aU, aU, aU, aU, aU, aU, aU, aU, aU] [] Try.func96 rfl (by kernel_rfl) (fun e x h => by cases h) ?_
  refine aw_sr [⟨.new, [], none, true⟩, ⟨.new, [], none, true⟩, ⟨.new, [], none, true⟩]
    (fun L1 => ⟨[some (.agg #[aN 2500, aN 20000000, aN 20000000]), some (.agg #[aN 5000, aN 35000000, aN 35000000]), aP (L1 0).b 0, aP (L1 1).b 0, aP (L1 2).b 0, aU, aU, aU, aU, aU, aU, aU, aU, aU], [.blk ((L1 0).b) [aN 2500, aN 20000000, aN 20000000] 77 true, .blk ((L1 1).b) [aN 5000, aN 35000000, aN 35000000] 77 true, .blk ((L1 2).b) [aN 0, aN 0, aN 0, aN 0] 141 true], []⟩)
    (fun L1 => [])
    fol (by kernel_rfl) (fun _ => by kernel_rfl) (fun L1 => trivial) (fun L1 => ?_)
  refine aw_sr [⟨(.read 0), [], none, true⟩, ⟨.pure, [], none, true⟩, ⟨.pure, [1], none, true⟩, ⟨(.read 0), [1, 2], none, true⟩, ⟨(.read 1), [], none, true⟩, ⟨.pure, [], none, true⟩, ⟨.pure, [5], none, true⟩, ⟨(.read 1), [5, 6], none, true⟩, ⟨(.call [] (.agg #[aN 2500, aN 20000000, aN 5000, aN 35000000])), [0, 1, 2, 3, 4, 5, 6, 7], none, true⟩, ⟨(.write 2), [0, 1, 2, 3, 4, 5, 6, 7, 8], none, true⟩]
    (fun L2 => ⟨[some (.agg #[aN 2500, aN 20000000, aN 20000000]), some (.agg #[aN 5000, aN 35000000, aN 35000000]), aP (L1 0).b 0, aP (L1 1).b 0, aP (L1 2).b 0, some (.agg #[aN 2500, aN 20000000, aN 20000000]), aP (L1 0).b 1, aP (L1 0).b 1, aI 20000000, some (.agg #[aN 5000, aN 35000000, aN 35000000]), aP (L1 1).b 1, aP (L1 1).b 2, aI 35000000, some (.agg #[aN 2500, aN 20000000, aN 5000, aN 35000000])], [.blk ((L1 0).b) [aN 2500, aN 20000000, aN 20000000] 77 true, .blk ((L1 1).b) [aN 5000, aN 35000000, aN 35000000] 77 true, .blk ((L1 2).b) [aN 2500, aN 20000000, aN 5000, aN 35000000] 141 true], []⟩)
    (fun L2 => [(L1 0).b = (L1 0).b, 0 + 3 ≤ 3, (L1 0).b = (L1 0).b, (L1 1).b = (L1 1).b, 0 + 3 ≤ 3, (L1 1).b = (L1 1).b, CallOb Try.prog 136 #[.agg #[aN 2500, aN 20000000, aN 20000000], aN 20000000, .agg #[aN 5000, aN 35000000, aN 35000000], aN 35000000] [] (.agg #[aN 2500, aN 20000000, aN 5000, aN 35000000]), (L1 2).b = (L1 2).b, 0 + 4 ≤ 4, 4 = 4, true = true])
    fol (by kernel_rfl) (fun _ => by kernel_rfl) (fun L2 => ⟨rfl, (by decide), rfl, rfl, (by decide), rfl, (callOb_frz (UA.i_61  )), rfl, (by decide), rfl, rfl, trivial⟩) (fun L2 => ?_)
  refine aw_ret ?_
  exact fin_ret none [2] (.agg #[aN 2500, aN 20000000, aN 5000, aN 35000000]) [(L1 2).b = (L1 2).b, 0 + 4 ≤ 4] (.inr rfl) rfl (by kernel_rfl) ⟨rfl, (by decide), trivial⟩ (fun w' hb => ⟨rfl, hb⟩)

-- slices.MaxFunc[[]couplant/tune.quotient,couplant/tune.quotient]
set_option maxRecDepth 100000 in
set_option maxHeartbeats 400000 in
theorem UA.i_65 (b1 : Nat) (c1 : Nat) : CallOb Try.prog 133 #[.slice (some ⟨b1, 0, none⟩) (1) (c1), .func (.func 134) #[] #[]] [.row (some ⟨b1, 0, none⟩) (1) (c1) 2 [aN 15000000, aN 5000] 123 false] (.agg #[aN 15000000, aN 5000]) := by
  intro w hw
  refine calls_aw [aS b1 0 1 c1, some (.func (.func 134) #[] #[]), aU, aU, aU, aU, aU, aU, aU, aU, aU, aU, aU, aU, aU, aU, aU, aU, aU, aU, aU, aU, aU, aU, aU, aU, aU, aU, aU, aU, aU, aU, aU] [.row (some ⟨b1, 0, none⟩) (1) (c1) 2 [aN 15000000, aN 5000] 123 false] Try.func133 rfl (by kernel_rfl) (esOk hw (by simp [Cel.mine])) ?_
  refine aw_sr [⟨.new, [], none, true⟩]
    (fun L1 => ⟨[aS b1 0 1 c1, some (.func (.func 134) #[] #[]), aU, aU, aP (L1 0).b 0, aU, aU, aU, aU, aU, aU, aU, aU, aU, aU, aU, aU, aU, aU, aU, aU, aU, aU, aU, aU, aU, aU, aU, aU, aU, aU, aU, aU], [.row (some ⟨b1, 0, none⟩) (1) (c1) 2 [aN 15000000, aN 5000] 123 false, .blk ((L1 0).b) [aN 0, aN 0] 123 true], []⟩)
    (fun L1 => [])
    fol (by kernel_rfl) (fun _ => by kernel_rfl) (fun L1 => trivial) (fun L1 => ?_)
  refine aw_seq ?_
  refine aw_sr [⟨.pure, [], none, true⟩, ⟨.pure, [0], none, true⟩, ⟨.pure, [0, 1], none, true⟩]
    (fun L2 => ⟨[aS b1 0 1 c1, some (.func (.func 134) #[] #[]), aU, aU, aP (L1 0).b 0, aU, aU, aS b1 0 1 c1, aI 1, aF, aU, aU, aU, aU, aU, aU, aU, aU, aU, aU, aU, aU, aU, aU, aU, aU, aU, aU, aU, aU, aU, aU, aU], [.row (some ⟨b1, 0, none⟩) (1) (c1) 2 [aN 15000000, aN 5000] 123 false, .blk ((L1 0).b) [aN 0, aN 0] 123 true], []⟩)
    (fun L2 => [])
    fol (by kernel_rfl) (fun _ => by kernel_rfl) (fun L2 => trivial) (fun L2 => ?_)
  refine aw_false (false) rfl rfl ?_
  refine aw_skip ?_
  refine nrm_thn ?_
  refine aw_sr [⟨.pure, [], none, true⟩, ⟨.pure, [0], none, true⟩, ⟨(.read 0), [0, 1], none, true⟩, ⟨.new, [], none, true⟩, ⟨(.write 5), [0, 1, 2, 3], none, true⟩]
    (fun L3 => ⟨[aS b1 0 1 c1, some (.func (.func 134) #[] #[]), aU, aU, aP (L1 0).b 0, aP (L3 3).b 0, aU, aS b1 0 1 c1, aI 1, aF, aU, aS b1 0 1 c1, aP b1 0, some (.agg #[aN 15000000, aN 5000]), aU, aU, aU, aU, aU, aU, aU, aU, aU, aU, aU, aU, aU, aU, aU, aU, aU, aU, aU], [.row (some ⟨b1, 0, none⟩) (1) (c1) 2 [aN 15000000, aN 5000] 123 false, .blk ((L1 0).b) [aN 0, aN 0] 123 true, .blk ((L3 3).b) [aN 15000000, aN 5000] 123 true], []⟩)
    (fun L3 => [b1 = b1, 0 + 2 ≤ 2, (L3 3).b = (L3 3).b, 0 + 2 ≤ 2, 2 = 2, true = true])
    fol (by kernel_rfl) (fun _ => by kernel_rfl) (fun L3 => ⟨rfl, (by decide), rfl, (by decide), rfl, rfl, trivial⟩) (fun L3 => ?_)
  refine aw_seq ?_
  refine aw_sr [⟨.pure, [], none, true⟩]
    (fun L4 => ⟨[aS b1 0 1 c1, some (.func (.func 134) #[] #[]), aU, aU, aP (L1 0).b 0, aP (L3 3).b 0, aI 1, aS b1 0 1 c1, aI 1, aF, aU, aS b1 0 1 c1, aP b1 0, some (.agg #[aN 15000000, aN 5000]), aU, aU, aU, aU, aU, aU, aU, aU, aU, aU, aU, aU, aU, aU, aU, aU, aU, aU, aU], [.row (some ⟨b1, 0, none⟩) (1) (c1) 2 [aN 15000000, aN 5000] 123 false, .blk ((L1 0).b) [aN 0, aN 0] 123 true, .blk ((L3 3).b) [aN 15000000, aN 5000] 123 true], []⟩)
    (fun L4 => [])
    fol (by kernel_rfl) (fun _ => by kernel_rfl) (fun L4 => trivial) (fun L4 => ?_)
  refine aw_block ?_
  refine aw_rounds 1 ?_
  refine aw_round ?_
  refine aw_seq ?_
  refine aw_sr [⟨.pure, [], none, true⟩, ⟨.pure, [], none, true⟩, ⟨.pure, [1], none, true⟩, ⟨.pure, [0, 1, 2], none, true⟩]
    (fun L5 => ⟨[aS b1 0 1 c1, some (.func (.func 134) #[] #[]), aU, aU, aP (L1 0).b 0, aP (L3 3).b 0, aI 1, aS b1 0 1 c1, aI 1, aF, aU, aS b1 0 1 c1, aP b1 0, some (.agg #[aN 15000000, aN 5000]), aI 1, aS b1 0 1 c1, aI 1, aF, aU, aU, aU, aU, aU, aU, aU, aU, aU, aU, aU, aU, aU, aU, aU], [.row (some ⟨b1, 0, none⟩) (1) (c1) 2 [aN 15000000, aN 5000] 123 false, .blk ((L1 0).b) [aN 0, aN 0] 123 true, .blk ((L3 3).b) [aN 15000000, aN 5000] 123 true], []⟩)
    (fun L5 => [])
    fol (by kernel_rfl) (fun _ => by kernel_rfl) (fun L5 => trivial) (fun L5 => ?_)
  refine aw_false (false) rfl rfl ?_
  refine aw_exit ?_
  refine ex_thn ?_
  refine ex_thn ?_
  refine ex_hit ?_
  refine nrm_thn ?_
  refine aw_sr [⟨(.read 2), [], none, true⟩, ⟨(.write 1), [0], none, true⟩]
    (fun L6 => ⟨[aS b1 0 1 c1, some (.func (.func 134) #[] #[]), aU, aU, aP (L1 0).b 0, aP (L3 3).b 0, aI 1, aS b1 0 1 c1, aI 1, aF, aU, aS b1 0 1 c1, aP b1 0, some (.agg #[aN 15000000, aN 5000]), aI 1, aS b1 0 1 c1, aI 1, aF, aU, aU, aU, aU, aU, aU, aU, aU, aU, aU, aU, aU, aU, aU, some (.agg #[aN 15000000, aN 5000])], [.row (some ⟨b1, 0, none⟩) (1) (c1) 2 [aN 15000000, aN 5000] 123 false, .blk ((L1 0).b) [aN 15000000, aN 5000] 123 true, .blk ((L3 3).b) [aN 15000000, aN 5000] 123 true], []⟩)
    (fun L6 => [(L3 3).b = (L3 3).b, 0 + 2 ≤ 2, (L1 0).b = (L1 0).b, 0 + 2 ≤ 2, 2 = 2, true = true])
    fol (by kernel_rfl) (fun _ => by kernel_rfl) (fun L6 => ⟨rfl, (by decide), rfl, (by decide), rfl, rfl, trivial⟩) (fun L6 => ?_)
  refine aw_ret ?_
  exact fin_ret none [1] (.agg #[aN 15000000, aN 5000]) [(L1 0).b = (L1 0).b, 0 + 2 ≤ 2] (.inr rfl) rfl (by kernel_rfl) ⟨rfl, (by decide), trivial⟩ (fun w' hb => ⟨rfl, hb⟩)

-- slices.MinFunc[[]couplant/tune.quotient,couplant/tune.quotient]
set_option maxRecDepth 100000 in
set_option maxHeartbeats 400000 in
theorem UA.i_66 (b1 : Nat) (c1 : Nat) : CallOb Try.prog 135 #[.slice (some ⟨b1, 0, none⟩) (1) (c1), .func (.func 134) #[] #[]] [.row (some ⟨b1, 0, none⟩) (1) (c1) 2 [aN 15000000, aN 5000] 123 false] (.agg #[aN 15000000, aN 5000]) := by
  intro w hw
  refine calls_aw [aS b1 0 1 c1, some (.func (.func 134) #[] #[]), aU, aU, aU, aU, aU, aU, aU, aU, aU, aU, aU, aU, aU, aU, aU, aU, aU, aU, aU, aU, aU, aU, aU, aU, aU, aU, aU, aU, aU, aU, aU] [.row (some ⟨b1, 0, none⟩) (1) (c1) 2 [aN 15000000, aN 5000] 123 false] Try.func135 rfl (by kernel_rfl) (esOk hw (by simp [Cel.mine])) ?_
  refine aw_sr [⟨.new, [], none, true⟩]
    (fun L1 => ⟨[aS b1 0 1 c1, some (.func (.func 134) #[] #[]), aU, aU, aP (L1 0).b 0, aU, aU, aU, aU, aU, aU, aU, aU, aU, aU, aU, aU, aU, aU, aU, aU, aU, aU, aU, aU, aU, aU, aU, aU, aU, aU, aU, aU], [.row (some ⟨b1, 0, none⟩) (1) (c1) 2 [aN 15000000, aN 5000] 123 false, .blk ((L1 0).b) [aN 0, aN 0] 123 true], []⟩)
    (fun L1 => [])
    fol (by kernel_rfl) (fun _ => by kernel_rfl) (fun L1 => trivial) (fun L1 => ?_)
  refine aw_seq ?_
  refine aw_sr [⟨.pure, [], none, true⟩, ⟨.pure, [0], none, true⟩, ⟨.pure, [0, 1], none, true⟩]
    (fun L2 => ⟨[aS b1 0 1 c1, some (.func (.func 134) #[] #[]), aU, aU, aP (L1 0).b 0, aU, aU, aS b1 0 1 c1, aI 1, aF, aU, aU, aU, aU, aU, aU, aU, aU, aU, aU, aU, aU, aU, aU, aU, aU, aU, aU, aU, aU, aU, aU, aU], [.row (some ⟨b1, 0, none⟩) (1) (c1) 2 [aN 15000000, aN 5000] 123 false, .blk ((L1 0).b) [aN 0, aN 0] 123 true], []⟩)
    (fun L2 => [])
    fol (by kernel_rfl) (fun _ => by kernel_rfl) (fun L2 => trivial) (fun L2 => ?_)
  refine aw_false (false) rfl rfl ?_
  refine aw_skip ?_
  refine nrm_thn ?_
  refine aw_sr [⟨.pure, [], none, true⟩, ⟨.pure, [0], none, true⟩, ⟨(.read 0), [0, 1], none, true⟩, ⟨.new, [], none, true⟩, ⟨(.write 5), [0, 1, 2, 3], none, true⟩]
    (fun L3 => ⟨[aS b1 0 1 c1, some (.func (.func 134) #[] #[]), aU, aU, aP (L1 0).b 0, aP (L3 3).b 0, aU, aS b1 0 1 c1, aI 1, aF, aU, aS b1 0 1 c1, aP b1 0, some (.agg #[aN 15000000, aN 5000]), aU, aU, aU, aU, aU, aU, aU, aU, aU, aU, aU, aU, aU, aU, aU, aU, aU, aU, aU], [.row (some ⟨b1, 0, none⟩) (1) (c1) 2 [aN 15000000, aN 5000] 123 false, .blk ((L1 0).b) [aN 0, aN 0] 123 true, .blk ((L3 3).b) [aN 15000000, aN 5000] 123 true], []⟩)
    (fun L3 => [b1 = b1, 0 + 2 ≤ 2, (L3 3).b = (L3 3).b, 0 + 2 ≤ 2, 2 = 2, true = true])
    fol (by kernel_rfl) (fun _ => by kernel_rfl) (fun L3 => ⟨rfl, (by decide), rfl, (by decide), rfl, rfl, trivial⟩) (fun L3 => ?_)
  refine aw_seq ?_
  refine aw_sr [⟨.pure, [], none, true⟩]
    (fun L4 => ⟨[aS b1 0 1 c1, some (.func (.func 134) #[] #[]), aU, aU, aP (L1 0).b 0, aP (L3 3).b 0, aI 1, aS b1 0 1 c1, aI 1, aF, aU, aS b1 0 1 c1, aP b1 0, some (.agg #[aN 15000000, aN 5000]), aU, aU, aU, aU, aU, aU, aU, aU, aU, aU, aU, aU, aU, aU, aU, aU, aU, aU, aU], [.row (some ⟨b1, 0, none⟩) (1) (c1) 2 [aN 15000000, aN 5000] 123 false, .blk ((L1 0).b) [aN 0, aN 0] 123 true, .blk ((L3 3).b) [aN 15000000, aN 5000] 123 true], []⟩)
    (fun L4 => [])
    fol (by kernel_rfl) (fun _ => by kernel_rfl) (fun L4 => trivial) (fun L4 => ?_)
  refine aw_block ?_
  refine aw_rounds 1 ?_
  refine aw_round ?_
  refine aw_seq ?_
  refine aw_sr [⟨.pure, [], none, true⟩, ⟨.pure, [], none, true⟩, ⟨.pure, [1], none, true⟩, ⟨.pure, [0, 1, 2], none, true⟩]
    (fun L5 => ⟨[aS b1 0 1 c1, some (.func (.func 134) #[] #[]), aU, aU, aP (L1 0).b 0, aP (L3 3).b 0, aI 1, aS b1 0 1 c1, aI 1, aF, aU, aS b1 0 1 c1, aP b1 0, some (.agg #[aN 15000000, aN 5000]), aI 1, aS b1 0 1 c1, aI 1, aF, aU, aU, aU, aU, aU, aU, aU, aU, aU, aU, aU, aU, aU, aU, aU], [.row (some ⟨b1, 0, none⟩) (1) (c1) 2 [aN 15000000, aN 5000] 123 false, .blk ((L1 0).b) [aN 0, aN 0] 123 true, .blk ((L3 3).b) [aN 15000000, aN 5000] 123 true], []⟩)
    (fun L5 => [])
    fol (by kernel_rfl) (fun _ => by kernel_rfl) (fun L5 => trivial) (fun L5 => ?_)
  refine aw_false (false) rfl rfl ?_
  refine aw_exit ?_
  refine ex_thn ?_
  refine ex_thn ?_
  refine ex_hit ?_
  refine nrm_thn ?_
  refine aw_sr [⟨(.read 2), [], none, true⟩, ⟨(.write 1), [0], none, true⟩]
    (fun L6 => ⟨[aS b1 0 1 c1, some (.func (.func 134) #[] #[]), aU, aU, aP (L1 0).b 0, aP (L3 3).b 0, aI 1, aS b1 0 1 c1, aI 1, aF, aU, aS b1 0 1 c1, aP b1 0, some (.agg #[aN 15000000, aN 5000]), aI 1, aS b1 0 1 c1, aI 1, aF, aU, aU, aU, aU, aU, aU, aU, aU, aU, aU, aU, aU, aU, aU, some (.agg #[aN 15000000, aN 5000])], [.row (some ⟨b1, 0, none⟩) (1) (c1) 2 [aN 15000000, aN 5000] 123 false, .blk ((L1 0).b) [aN 15000000, aN 5000] 123 true, .blk ((L3 3).b) [aN 15000000, aN 5000] 123 true], []⟩)
    (fun L6 => [(L3 3).b = (L3 3).b, 0 + 2 ≤ 2, (L1 0).b = (L1 0).b, 0 + 2 ≤ 2, 2 = 2, true = true])
    fol (by kernel_rfl) (fun _ => by kernel_rfl) (fun L6 => ⟨rfl, (by decide), rfl, (by decide), rfl, rfl, trivial⟩) (fun L6 => ?_)
  refine aw_ret ?_
  exact fin_ret none [1] (.agg #[aN 15000000, aN 5000]) [(L1 0).b = (L1 0).b, 0 + 2 ≤ 2] (.inr rfl) rfl (by kernel_rfl) ⟨rfl, (by decide), trivial⟩ (fun w' hb => ⟨rfl, hb⟩)

-- cmp.isNaN[int]
set_option maxRecDepth 100000 in
set_option maxHeartbeats 400000 in
theorem UA.i_67 : CallOb Try.prog 160 #[aN 75000000000] [] (.bool (false)) := by
  intro w hw
  refine calls_aw [aI 75000000000, aU, aU, aU, aU, aU] [] Try.func160 rfl (by kernel_rfl) (fun e x h => by cases h) ?_
  refine aw_sr [⟨.pure, [], none, true⟩]
    (fun L1 => ⟨[aI 75000000000, aU, aF, aU, aU, aU], [], []⟩)
    (fun L1 => [])
    fol (by kernel_rfl) (fun _ => by kernel_rfl) (fun L1 => trivial) (fun L1 => ?_)
  refine aw_sr [⟨.pure, [], none, true⟩, ⟨.pure, [], none, true⟩, ⟨.pure, [0, 1], none, true⟩, ⟨.pure, [0, 1, 2], none, true⟩]
    (fun L2 => ⟨[aI 75000000000, aU, aF, aI 75000000000, aI 75000000000, aF], [], []⟩)
    (fun L2 => [])
    fol (by kernel_rfl) (fun _ => by kernel_rfl) (fun L2 => trivial) (fun L2 => ?_)
  refine aw_ret ?_
  exact fin_ret none [0] (.bool (false)) [] (.inr rfl) rfl (by kernel_rfl) trivial (fun w' hb => ⟨rfl, hb⟩)

-- cmp.Compare[int]
set_option maxRecDepth 100000 in
set_option maxHeartbeats 400000 in
theorem UA.i_68 : CallOb Try.prog 149 #[aN 75000000000, aN 75000000000] [] (aN 0) := by
  intro w hw
  refine calls_aw [aI 75000000000, aI 75000000000, aU, aU, aU, aU, aU, aU, aU, aU, aU, aU, aU, aU, aU, aU, aU, aU, aU, aU] [] Try.func149 rfl (by kernel_rfl) (fun e x h => by cases h) ?_
  refine aw_sr [⟨.pure, [], none, true⟩]
    (fun L1 => ⟨[aI 75000000000, aI 75000000000, aU, aU, aI 0, aU, aU, aU, aU, aU, aU, aU, aU, aU, aU, aU, aU, aU, aU, aU], [], []⟩)
    (fun L1 => [])
    fol (by kernel_rfl) (fun _ => by kernel_rfl) (fun L1 => trivial) (fun L1 => ?_)
  refine aw_sr [⟨.pure, [], none, true⟩, ⟨(.call [] (.bool (false))), [0], none, true⟩, ⟨.pure, [0, 1], none, true⟩]
    (fun L2 => ⟨[aI 75000000000, aI 75000000000, aU, aU, aI 0, aF, aU, aI 75000000000, aF, aU, aU, aU, aU, aU, aU, aU, aU, aU, aU, aU], [], []⟩)
    (fun L2 => [CallOb Try.prog 160 #[aN 75000000000] [] (.bool (false))])
    fol (by kernel_rfl) (fun _ => by kernel_rfl) (fun L2 => ⟨(callOb_frz (UA.i_67  )), trivial⟩) (fun L2 => ?_)
  refine aw_sr [⟨.pure, [], none, true⟩, ⟨(.call [] (.bool (false))), [0], none, true⟩, ⟨.pure, [0, 1], none, true⟩]
    (fun L3 => ⟨[aI 75000000000, aI 75000000000, aU, aU, aI 0, aF, aF, aI 75000000000, aF, aI 75000000000, aF, aU, aU, aU, aU, aU, aU, aU, aU, aU], [], []⟩)
    (fun L3 => [CallOb Try.prog 160 #[aN 75000000000] [] (.bool (false))])
    fol (by kernel_rfl) (fun _ => by kernel_rfl) (fun L3 => ⟨(callOb_frz (UA.i_67  )), trivial⟩) (fun L3 => ?_)
  refine aw_seq ?_
  refine aw_sr [⟨.pure, [], none, true⟩]
    (fun L4 => ⟨[aI 75000000000, aI 75000000000, aU, aU, aI 0, aF, aF, aI 75000000000, aF, aI 75000000000, aF, aF, aU, aU, aU, aU, aU, aU, aU, aU], [], []⟩)
    (fun L4 => [])
    fol (by kernel_rfl) (fun _ => by kernel_rfl) (fun L4 => trivial) (fun L4 => ?_)
  refine aw_false (false) rfl rfl ?_
  refine aw_skip ?_
  refine nrm_thn ?_
  refine aw_seq ?_
  refine aw_sr [⟨.pure, [], none, true⟩]
    (fun L5 => ⟨[aI 75000000000, aI 75000000000, aU, aU, aI 0, aF, aF, aI 75000000000, aF, aI 75000000000, aF, aF, aU, aF, aU, aU, aU, aU, aU, aU], [], []⟩)
    (fun L5 => [])
    fol (by kernel_rfl) (fun _ => by kernel_rfl) (fun L5 => trivial) (fun L5 => ?_)
  refine aw_false (false) rfl rfl ?_
  refine aw_skip ?_
  refine nrm_thn ?_
  refine aw_seq ?_
  refine aw_sr [⟨.pure, [], none, true⟩, ⟨.pure, [], none, true⟩, ⟨.pure, [0, 1], none, true⟩]
    (fun L6 => ⟨[aI 75000000000, aI 75000000000, aU, aU, aI 0, aF, aF, aI 75000000000, aF, aI 75000000000, aF, aF, aU, aF, aI 75000000000, aI 75000000000, aF, aU, aU, aU], [], []⟩)
    (fun L6 => [])
    fol (by kernel_rfl) (fun _ => by kernel_rfl) (fun L6 => trivial) (fun L6 => ?_)
  refine aw_false (false) rfl rfl ?_
  refine aw_skip ?_
  refine nrm_thn ?_
  refine aw_seq ?_
  refine aw_sr [⟨.pure, [], none, true⟩, ⟨.pure, [], none, true⟩, ⟨.pure, [0, 1], none, true⟩]
    (fun L7 => ⟨[aI 75000000000, aI 75000000000, aU, aU, aI 0, aF, aF, aI 75000000000, aF, aI 75000000000, aF, aF, aU, aF, aI 75000000000, aI 75000000000, aF, aI 75000000000, aI 75000000000, aF], [], []⟩)
    (fun L7 => [])
    fol (by kernel_rfl) (fun _ => by kernel_rfl) (fun L7 => trivial) (fun L7 => ?_)
  refine aw_false (false) rfl rfl ?_
  refine aw_skip ?_
  refine nrm_thn ?_
  refine aw_sr [⟨.pure, [], none, true⟩]
    (fun L8 => ⟨[aI 75000000000, aI 75000000000, aU, aU, aI 0, aF, aF, aI 75000000000, aF, aI 75000000000, aF, aF, aU, aF, aI 75000000000, aI 75000000000, aF, aI 75000000000, aI 75000000000, aF], [], []⟩)
    (fun L8 => [])
    fol (by kernel_rfl) (fun _ => by kernel_rfl) (fun L8 => trivial) (fun L8 => ?_)
  refine aw_ret ?_
  exact fin_ret none [0] (aN 0) [] (.inr rfl) rfl (by kernel_rfl) trivial (fun w' hb => ⟨rfl, hb⟩)

-- couplant/tune.compared
set_option maxRecDepth 100000 in
set_option maxHeartbeats 400000 in
theorem UA.i_69 : CallOb Try.prog 134 #[.agg #[aN 15000000, aN 5000], .agg #[aN 15000000, aN 5000]] [] (aN 0) := by
  intro w hw
  refine calls_aw [some (.agg #[aN 15000000, aN 5000]), some (.agg #[aN 15000000, aN 5000]), aU, aU, aU, aU, aU, aU, aU, aU, aU, aU, aU, aU, aU, aU] [] Try.func134 rfl (by kernel_rfl) (fun e x h => by cases h) ?_
  refine aw_sr [⟨.new, [], none, true⟩, ⟨.new, [], none, true⟩, ⟨.pure, [], none, true⟩]
    (fun L1 => ⟨[some (.agg #[aN 15000000, aN 5000]), some (.agg #[aN 15000000, aN 5000]), aP (L1 0).b 0, aP (L1 1).b 0, aI 0, aU, aU, aU, aU, aU, aU, aU, aU, aU, aU, aU], [.blk ((L1 0).b) [aN 15000000, aN 5000] 123 true, .blk ((L1 1).b) [aN 15000000, aN 5000] 123 true], []⟩)
    (fun L1 => [])
    fol (by kernel_rfl) (fun _ => by kernel_rfl) (fun L1 => trivial) (fun L1 => ?_)
  refine aw_sr [⟨.pure, [], none, true⟩, ⟨(.read 0), [0], none, true⟩, ⟨.pure, [], none, true⟩, ⟨(.read 1), [2], none, true⟩, ⟨.pure, [0, 1, 2, 3], none, true⟩, ⟨.pure, [], none, true⟩, ⟨(.read 1), [5], none, true⟩, ⟨.pure, [], none, true⟩, ⟨(.read 0), [7], none, true⟩, ⟨.pure, [5, 6, 7, 8], none, true⟩, ⟨(.call [] (aN 0)), [0, 1, 2, 3, 4, 5, 6, 7, 8, 9], none, true⟩, ⟨.pure, [0, 1, 2, 3, 4, 5, 6, 7, 8, 9, 10], none, true⟩]
    (fun L2 => ⟨[some (.agg #[aN 15000000, aN 5000]), some (.agg #[aN 15000000, aN 5000]), aP (L1 0).b 0, aP (L1 1).b 0, aI 0, aP (L1 0).b 0, aI 15000000, aP (L1 1).b 1, aI 5000, aI 75000000000, aP (L1 1).b 0, aI 15000000, aP (L1 0).b 1, aI 5000, aI 75000000000, aI 0], [.blk ((L1 0).b) [aN 15000000, aN 5000] 123 true, .blk ((L1 1).b) [aN 15000000, aN 5000] 123 true], []⟩)
    (fun L2 => [(L1 0).b = (L1 0).b, (L1 1).b = (L1 1).b, (L1 1).b = (L1 1).b, (L1 0).b = (L1 0).b, CallOb Try.prog 149 #[aN 75000000000, aN 75000000000] [] (aN 0)])
    fol (by kernel_rfl) (fun _ => by kernel_rfl) (fun L2 => ⟨rfl, rfl, rfl, rfl, (callOb_frz (UA.i_68  )), trivial⟩) (fun L2 => ?_)
  refine aw_ret ?_
  exact fin_ret none [0] (aN 0) [] (.inr rfl) rfl (by kernel_rfl) trivial (fun w' hb => ⟨rfl, hb⟩)

-- couplant/tune.possible
set_option maxRecDepth 100000 in
set_option maxHeartbeats 400000 in
theorem UA.i_70 (b1 : Nat) : CallOb Try.prog 91 #[.slice (some ⟨b1, 0, none⟩) (2) (2)] [.blk (b1) [aN 2500, aN 20000000, aN 20000000, aN 5000, aN 35000000, aN 35000000] 77 false] (.tuple #[.agg #[aN 15000000, aN 5000], .agg #[aN 15000000, aN 5000], aN 0]) := by
  intro w hw
  refine calls_aw [aS b1 0 2 2, aU, aU, aU, aU, aU, aU, aU, aU, aU, aU, aU, aU, aU, aU, aU, aU, aU, aU, aU, aU, aU, aU, aU, aU, aU, aU, aU, aU, aU, aU, aU, aU, aU, aU, aU, aU, aU, aU, aU, aU, aU, aU, aU, aU, aU, aU, aU, aU, aU] [.blk (b1) [aN 2500, aN 20000000, aN 20000000, aN 5000, aN 35000000, aN 35000000] 77 false] Try.func91 rfl (by kernel_rfl) (esOk hw (by simp [Cel.mine])) ?_
  refine aw_sr [⟨.new, [], none, true⟩, ⟨.new, [], none, true⟩, ⟨.pure, [], none, true⟩]
    (fun L1 => ⟨[aS b1 0 2 2, aU, aP (L1 0).b 0, aP (L1 1).b 0, aI 0, aU, aU, aU, aU, aU, aU, aU, aU, aU, aU, aU, aU, aU, aU, aU, aU, aU, aU, aU, aU, aU, aU, aU, aU, aU, aU, aU, aU, aU, aU, aU, aU, aU, aU, aU, aU, aU, aU, aU, aU, aU, aU, aU, aU, aU], [.blk (b1) [aN 2500, aN 20000000, aN 20000000, aN 5000, aN 35000000, aN 35000000] 77 false, .blk ((L1 0).b) [aN 0, aN 0] 123 true, .blk ((L1 1).b) [aN 0, aN 0] 123 true], []⟩)
    (fun L1 => [])
    fol (by kernel_rfl) (fun _ => by kernel_rfl) (fun L1 => trivial) (fun L1 => ?_)
  refine aw_seq ?_
  refine aw_sr [⟨.pure, [], none, true⟩, ⟨(.call [0] (.tuple #[aN 0, aN 0])), [0], none, true⟩, ⟨.pure, [0, 1], none, true⟩, ⟨.pure, [0, 1, 2], none, true⟩, ⟨.pure, [0, 1, 2], none, true⟩, ⟨.pure, [0, 1, 2, 3], none, true⟩, ⟨.pure, [0, 1, 2, 3, 4, 5], none, true⟩]
    (fun L2 => ⟨[aS b1 0 2 2, aU, aP (L1 0).b 0, aP (L1 1).b 0, aI 0, aI 0, aI 0, aU, aU, aU, aU, some (.tuple #[aN 0, aN 0]), aS b1 0 2 2, some (.tuple #[aN 0, aN 0]), aI 0, aI 0, aU, aU, aU, aU, aU, aU, aU, aU, aU, aU, aU, aU, aU, aU, aU, aU, aU, aU, aU, aU, aU, aU, aU, aU, aU, aU, aU, aU, aU, aU, aU, aU, aU, aU], [.blk (b1) [aN 2500, aN 20000000, aN 20000000, aN 5000, aN 35000000, aN 35000000] 77 false, .blk ((L1 0).b) [aN 0, aN 0] 123 true, .blk ((L1 1).b) [aN 0, aN 0] 123 true], []⟩)
    (fun L2 => [CallOb Try.prog 38 #[.slice (some ⟨b1, 0, none⟩) (2) (2)] [.blk (b1) [aN 2500, aN 20000000, aN 20000000, aN 5000, aN 35000000, aN 35000000] 77 false] (.tuple #[aN 0, aN 0])])
    fol (by kernel_rfl) (fun _ => by kernel_rfl) (fun L2 => ⟨(callOb_frz (UA.i_60 (b1) )), trivial⟩) (fun L2 => ?_)
  refine aw_sr [⟨.pure, [], none, true⟩, ⟨.pure, [0], none, true⟩]
    (fun L3 => ⟨[aS b1 0 2 2, aU, aP (L1 0).b 0, aP (L1 1).b 0, aI 0, aI 0, aI 0, aU, aU, aU, aU, some (.tuple #[aN 0, aN 0]), aS b1 0 2 2, some (.tuple #[aN 0, aN 0]), aI 0, aI 0, aI 0, aF, aU, aU, aU, aU, aU, aU, aU, aU, aU, aU, aU, aU, aU, aU, aU, aU, aU, aU, aU, aU, aU, aU, aU, aU, aU, aU, aU, aU, aU, aU, aU, aU], [.blk (b1) [aN 2500, aN 20000000, aN 20000000, aN 5000, aN 35000000, aN 35000000] 77 false, .blk ((L1 0).b) [aN 0, aN 0] 123 true, .blk ((L1 1).b) [aN 0, aN 0] 123 true], []⟩)
    (fun L3 => [])
    fol (by kernel_rfl) (fun _ => by kernel_rfl) (fun L3 => trivial) (fun L3 => ?_)
  refine aw_false (false) rfl rfl ?_
  refine aw_skip ?_
  refine nrm_thn ?_
  refine aw_sr [⟨.new, [], none, true⟩, ⟨.new, [], none, true⟩]
    (fun L4 => ⟨[aS b1 0 2 2, aU, aP (L1 0).b 0, aP (L1 1).b 0, aI 0, aI 0, aI 0, aP (L4 0).b 0, aP (L4 1).b 0, aU, aU, some (.tuple #[aN 0, aN 0]), aS b1 0 2 2, some (.tuple #[aN 0, aN 0]), aI 0, aI 0, aI 0, aF, aU, aU, aU, aU, aU, aU, aU, aU, aU, aU, aU, aU, aU, aU, aU, aU, aU, aU, aU, aU, aU, aU, aU, aU, aU, aU, aU, aU, aU, aU, aU, aU], [.blk (b1) [aN 2500, aN 20000000, aN 20000000, aN 5000, aN 35000000, aN 35000000] 77 false, .blk ((L1 0).b) [aN 0, aN 0] 123 true, .blk ((L1 1).b) [aN 0, aN 0] 123 true, .blk ((L4 0).b) [.slice none 0 0] 168 true, .blk ((L4 1).b) [.slice none 0 0] 168 true], []⟩)
    (fun L4 => [])
    fol (by kernel_rfl) (fun _ => by kernel_rfl) (fun L4 => trivial) (fun L4 => ?_)
  refine aw_seq ?_
  refine aw_sr [⟨.pure, [], none, true⟩, ⟨.pure, [0], none, true⟩]
    (fun L5 => ⟨[aS b1 0 2 2, aU, aP (L1 0).b 0, aP (L1 1).b 0, aI 0, aI 0, aI 0, aP (L4 0).b 0, aP (L4 1).b 0, aU, aU, some (.tuple #[aN 0, aN 0]), aS b1 0 2 2, some (.tuple #[aN 0, aN 0]), aI 0, aI 0, aI 0, aF, aU, aU, aU, aS b1 0 2 2, some (.func (.func 95) #[.slice (some ⟨b1, 0, none⟩) (2) (2)] #[]), aU, aU, aU, aU, aU, aU, aU, aU, aU, aU, aU, aU, aU, aU, aU, aU, aU, aU, aU, aU, aU, aU, aU, aU, aU, aU, aU], [.blk (b1) [aN 2500, aN 20000000, aN 20000000, aN 5000, aN 35000000, aN 35000000] 77 false, .blk ((L1 0).b) [aN 0, aN 0] 123 true, .blk ((L1 1).b) [aN 0, aN 0] 123 true, .blk ((L4 0).b) [.slice none 0 0] 168 true, .blk ((L4 1).b) [.slice none 0 0] 168 true], []⟩)
    (fun L5 => [])
    fol (by kernel_rfl) (fun _ => by kernel_rfl) (fun L5 => trivial) (fun L5 => ?_)
  refine aw_block ?_
  refine aw_range (fun l => [aS b1 0 2 2, some (.func (.yield l) #[] #[]), aU, aU, aU, aU, aU, aU, aU, aU, aU, aU, aU, aU, aU, aU, aU, aU, aU, aU, aU, aU, aU, aU, aU, aU, aU, aU, aU, aU]) rfl Try.func95 rfl (enters_of Try.func95 (by kernel_rfl) rfl) (fun l => by kernel_rfl) (fun A6 B6 T6 hA6 hB6 hT6 D6 l6 => ?_)
  refine aw_sr [⟨.pure, [], none, true⟩, ⟨.pure, [0], none, true⟩, ⟨.pure, [], none, true⟩]
    (fun L7 => ⟨[aS b1 0 2 2, some (.func (.yield l6) #[] #[]), aU, aU, aU, aU, aU, aU, aS b1 0 2 2, aI 2, aI 0, aU, aU, aU, aU, aU, aU, aU, aU, aU, aU, aU, aU, aU, aU, aU, aU, aU, aU, aU], [.blk (b1) [aN 2500, aN 20000000, aN 20000000, aN 5000, aN 35000000, aN 35000000] 77 false, .blk ((L1 0).b) [aN 0, aN 0] 123 true, .blk ((L1 1).b) [aN 0, aN 0] 123 true, .blk ((L4 0).b) [.slice none 0 0] 168 true, .blk ((L4 1).b) [.slice none 0 0] 168 true, .dfr D6, .loop l6 T6 #[23, 24] A6 B6 .ready none D6], []⟩)
    (fun L7 => [])
    fol (by kernel_rfl) (fun _ => by kernel_rfl) (fun L7 => trivial) (fun L7 => ?_)
  refine aw_block ?_
  refine aw_rounds 3 ?_
  refine aw_round ?_
  refine aw_sr [⟨.pure, [], none, true⟩]
    (fun L8 => ⟨[aS b1 0 2 2, some (.func (.yield l6) #[] #[]), aU, aU, aU, aU, aU, aU, aS b1 0 2 2, aI 2, aI 0, aT, aU, aU, aU, aU, aU, aU, aU, aU, aU, aU, aU, aU, aU, aU, aU, aU, aU, aU], [.blk (b1) [aN 2500, aN 20000000, aN 20000000, aN 5000, aN 35000000, aN 35000000] 77 false, .blk ((L1 0).b) [aN 0, aN 0] 123 true, .blk ((L1 1).b) [aN 0, aN 0] 123 true, .blk ((L4 0).b) [.slice none 0 0] 168 true, .blk ((L4 1).b) [.slice none 0 0] 168 true, .dfr D6, .loop l6 T6 #[23, 24] A6 B6 .ready none D6], []⟩)
    (fun L8 => [])
    fol (by kernel_rfl) (fun _ => by kernel_rfl) (fun L8 => trivial) (fun L8 => ?_)
  refine aw_seq ?_
  refine aw_true (true) rfl rfl ?_
  refine aw_skip ?_
  refine nrm_thn ?_
  refine aw_seq ?_
  refine aw_block ?_
  refine aw_sr [⟨.pure, [], none, true⟩, ⟨.pure, [], none, true⟩, ⟨(.read 0), [1], none, true⟩, ⟨.new, [], none, true⟩, ⟨.pure, [0, 1, 2, 3], none, true⟩, ⟨(.write 10), [0, 1, 2, 3, 4], none, true⟩]
    (fun L9 => ⟨[aS b1 0 2 2, some (.func (.yield l6) #[] #[]), aU, aU, aI 0, aP (L9 3).b 0, aU, aU, aS b1 0 2 2, aI 2, aI 0, aT, aI 0, aP b1 0, some (.agg #[aN 2500, aN 20000000, aN 20000000]), aU, aU, aU, aU, aU, aU, aU, aU, aU, aU, aU, aU, aU, aU, aU], [.blk (b1) [aN 2500, aN 20000000, aN 20000000, aN 5000, aN 35000000, aN 35000000] 77 false, .blk ((L1 0).b) [aN 0, aN 0] 123 true, .blk ((L1 1).b) [aN 0, aN 0] 123 true, .blk ((L4 0).b) [.slice none 0 0] 168 true, .blk ((L4 1).b) [.slice none 0 0] 168 true, .dfr D6, .loop l6 T6 #[23, 24] A6 B6 .ready none D6, .blk ((L9 3).b) [aN 2500, aN 20000000, aN 20000000] 77 true], []⟩)
    (fun L9 => [b1 = b1, 0 + 3 ≤ 6, (L9 3).b = (L9 3).b, 0 + 3 ≤ 3, 3 = 3, true = true])
    fol (by kernel_rfl) (fun _ => by kernel_rfl) (fun L9 => ⟨rfl, (by decide), rfl, (by decide), rfl, rfl, trivial⟩) (fun L9 => ?_)
  refine aw_sr [⟨.pure, [], none, true⟩, ⟨.pure, [], none, true⟩, ⟨.pure, [0, 1], none, true⟩, ⟨.pure, [0, 1, 2], none, true⟩, ⟨.pure, [], none, true⟩]
    (fun L10 => ⟨[aS b1 0 2 2, some (.func (.yield l6) #[] #[]), aU, aU, aI 0, aP (L9 3).b 0, aU, aU, aS b1 0 2 2, aI 2, aI 0, aT, aI 0, aP b1 0, some (.agg #[aN 2500, aN 20000000, aN 20000000]), aS b1 0 2 2, aI 0, aS b1 0 0 2, aI 0, aI 0, aU, aU, aU, aU, aU, aU, aU, aU, aU, aU], [.blk (b1) [aN 2500, aN 20000000, aN 20000000, aN 5000, aN 35000000, aN 35000000] 77 false, .blk ((L1 0).b) [aN 0, aN 0] 123 true, .blk ((L1 1).b) [aN 0, aN 0] 123 true, .blk ((L4 0).b) [.slice none 0 0] 168 true, .blk ((L4 1).b) [.slice none 0 0] 168 true, .dfr D6, .loop l6 T6 #[23, 24] A6 B6 .ready none D6, .blk ((L9 3).b) [aN 2500, aN 20000000, aN 20000000] 77 true], []⟩)
    (fun L10 => [])
    fol (by kernel_rfl) (fun _ => by kernel_rfl) (fun L10 => trivial) (fun L10 => ?_)
  refine aw_block ?_
  refine aw_rounds 1 ?_
  refine aw_round ?_
  refine aw_sr [⟨.pure, [], none, true⟩]
    (fun L11 => ⟨[aS b1 0 2 2, some (.func (.yield l6) #[] #[]), aU, aU, aI 0, aP (L9 3).b 0, aU, aU, aS b1 0 2 2, aI 2, aI 0, aT, aI 0, aP b1 0, some (.agg #[aN 2500, aN 20000000, aN 20000000]), aS b1 0 2 2, aI 0, aS b1 0 0 2, aI 0, aI 0, aF, aU, aU, aU, aU, aU, aU, aU, aU, aU], [.blk (b1) [aN 2500, aN 20000000, aN 20000000, aN 5000, aN 35000000, aN 35000000] 77 false, .blk ((L1 0).b) [aN 0, aN 0] 123 true, .blk ((L1 1).b) [aN 0, aN 0] 123 true, .blk ((L4 0).b) [.slice none 0 0] 168 true, .blk ((L4 1).b) [.slice none 0 0] 168 true, .dfr D6, .loop l6 T6 #[23, 24] A6 B6 .ready none D6, .blk ((L9 3).b) [aN 2500, aN 20000000, aN 20000000] 77 true], []⟩)
    (fun L11 => [])
    fol (by kernel_rfl) (fun _ => by kernel_rfl) (fun L11 => trivial) (fun L11 => ?_)
  refine aw_seq ?_
  refine aw_false (false) rfl rfl ?_
  refine aw_exit ?_
  refine ex_thn ?_
  refine ex_thn ?_
  refine ex_hit ?_
  refine nrm_inB ?_
  refine nrm_thn ?_
  refine aw_region [⟨.pure, [], none, true⟩, ⟨.pure, [0], none, true⟩]
    (fun L12 => ⟨[aS b1 0 2 2, some (.func (.yield l6) #[] #[]), aU, aU, aI 0, aP (L9 3).b 0, aU, aU, aS b1 0 2 2, aI 2, aI 1, aT, aI 0, aP b1 0, some (.agg #[aN 2500, aN 20000000, aN 20000000]), aS b1 0 2 2, aI 0, aS b1 0 0 2, aI 0, aI 0, aF, aU, aU, aU, aU, aU, aU, aU, aU, aI 1], [.blk (b1) [aN 2500, aN 20000000, aN 20000000, aN 5000, aN 35000000, aN 35000000] 77 false, .blk ((L1 0).b) [aN 0, aN 0] 123 true, .blk ((L1 1).b) [aN 0, aN 0] 123 true, .blk ((L4 0).b) [.slice none 0 0] 168 true, .blk ((L4 1).b) [.slice none 0 0] 168 true, .dfr D6, .loop l6 T6 #[23, 24] A6 B6 .ready none D6, .blk ((L9 3).b) [aN 2500, aN 20000000, aN 20000000] 77 true], []⟩)
    (fun L12 => [])
    fol (by kernel_rfl) (fun _ => by kernel_rfl) (fun L12 => trivial) (fun L12 => ?_)
  refine nrm_thn ?_
  refine aw_round ?_
  refine aw_sr [⟨.pure, [], none, true⟩]
    (fun L13 => ⟨[aS b1 0 2 2, some (.func (.yield l6) #[] #[]), aU, aU, aI 0, aP (L9 3).b 0, aU, aU, aS b1 0 2 2, aI 2, aI 1, aT, aI 0, aP b1 0, some (.agg #[aN 2500, aN 20000000, aN 20000000]), aS b1 0 2 2, aI 0, aS b1 0 0 2, aI 0, aI 0, aF, aU, aU, aU, aU, aU, aU, aU, aU, aI 1], [.blk (b1) [aN 2500, aN 20000000, aN 20000000, aN 5000, aN 35000000, aN 35000000] 77 false, .blk ((L1 0).b) [aN 0, aN 0] 123 true, .blk ((L1 1).b) [aN 0, aN 0] 123 true, .blk ((L4 0).b) [.slice none 0 0] 168 true, .blk ((L4 1).b) [.slice none 0 0] 168 true, .dfr D6, .loop l6 T6 #[23, 24] A6 B6 .ready none D6, .blk ((L9 3).b) [aN 2500, aN 20000000, aN 20000000] 77 true], []⟩)
    (fun L13 => [])
    fol (by kernel_rfl) (fun _ => by kernel_rfl) (fun L13 => trivial) (fun L13 => ?_)
  refine aw_seq ?_
  refine aw_true (true) rfl rfl ?_
  refine aw_skip ?_
  refine nrm_thn ?_
  refine aw_seq ?_
  refine aw_block ?_
  refine aw_sr [⟨.pure, [], none, true⟩, ⟨.pure, [], none, true⟩, ⟨(.read 0), [1], none, true⟩, ⟨.new, [], none, true⟩, ⟨.pure, [0, 1, 2, 3], none, true⟩, ⟨(.write 11), [0, 1, 2, 3, 4], none, true⟩]
    (fun L14 => ⟨[aS b1 0 2 2, some (.func (.yield l6) #[] #[]), aU, aU, aI 1, aP (L14 3).b 0, aU, aU, aS b1 0 2 2, aI 2, aI 1, aT, aI 1, aP b1 3, some (.agg #[aN 5000, aN 35000000, aN 35000000]), aS b1 0 2 2, aI 0, aS b1 0 0 2, aI 0, aI 0, aF, aU, aU, aU, aU, aU, aU, aU, aU, aI 1], [.blk (b1) [aN 2500, aN 20000000, aN 20000000, aN 5000, aN 35000000, aN 35000000] 77 false, .blk ((L1 0).b) [aN 0, aN 0] 123 true, .blk ((L1 1).b) [aN 0, aN 0] 123 true, .blk ((L4 0).b) [.slice none 0 0] 168 true, .blk ((L4 1).b) [.slice none 0 0] 168 true, .dfr D6, .loop l6 T6 #[23, 24] A6 B6 .ready none D6, .blk ((L9 3).b) [aN 2500, aN 20000000, aN 20000000] 77 true, .blk ((L14 3).b) [aN 5000, aN 35000000, aN 35000000] 77 true], []⟩)
    (fun L14 => [b1 = b1, 3 + 3 ≤ 6, (L14 3).b = (L14 3).b, 0 + 3 ≤ 3, 3 = 3, true = true])
    fol (by kernel_rfl) (fun _ => by kernel_rfl) (fun L14 => ⟨rfl, (by decide), rfl, (by decide), rfl, rfl, trivial⟩) (fun L14 => ?_)
  refine aw_sr [⟨.pure, [], none, true⟩, ⟨.pure, [], none, true⟩, ⟨.pure, [0, 1], none, true⟩, ⟨.pure, [0, 1, 2], none, true⟩, ⟨.pure, [], none, true⟩]
    (fun L15 => ⟨[aS b1 0 2 2, some (.func (.yield l6) #[] #[]), aU, aU, aI 1, aP (L14 3).b 0, aU, aU, aS b1 0 2 2, aI 2, aI 1, aT, aI 1, aP b1 3, some (.agg #[aN 5000, aN 35000000, aN 35000000]), aS b1 0 2 2, aI 1, aS b1 0 1 2, aI 1, aI 0, aF, aU, aU, aU, aU, aU, aU, aU, aU, aI 1], [.blk (b1) [aN 2500, aN 20000000, aN 20000000, aN 5000, aN 35000000, aN 35000000] 77 false, .blk ((L1 0).b) [aN 0, aN 0] 123 true, .blk ((L1 1).b) [aN 0, aN 0] 123 true, .blk ((L4 0).b) [.slice none 0 0] 168 true, .blk ((L4 1).b) [.slice none 0 0] 168 true, .dfr D6, .loop l6 T6 #[23, 24] A6 B6 .ready none D6, .blk ((L9 3).b) [aN 2500, aN 20000000, aN 20000000] 77 true, .blk ((L14 3).b) [aN 5000, aN 35000000, aN 35000000] 77 true], []⟩)
    (fun L15 => [])
    fol (by kernel_rfl) (fun _ => by kernel_rfl) (fun L15 => trivial) (fun L15 => ?_)
  refine aw_block ?_
  refine aw_rounds 2 ?_
  refine aw_round ?_
  refine aw_sr [⟨.pure, [], none, true⟩]
    (fun L16 => ⟨[aS b1 0 2 2, some (.func (.yield l6) #[] #[]), aU, aU, aI 1, aP (L14 3).b 0, aU, aU, aS b1 0 2 2, aI 2, aI 1, aT, aI 1, aP b1 3, some (.agg #[aN 5000, aN 35000000, aN 35000000]), aS b1 0 2 2, aI 1, aS b1 0 1 2, aI 1, aI 0, aT, aU, aU, aU, aU, aU, aU, aU, aU, aI 1], [.blk (b1) [aN 2500, aN 20000000, aN 20000000, aN 5000, aN 35000000, aN 35000000] 77 false, .blk ((L1 0).b) [aN 0, aN 0] 123 true, .blk ((L1 1).b) [aN 0, aN 0] 123 true, .blk ((L4 0).b) [.slice none 0 0] 168 true, .blk ((L4 1).b) [.slice none 0 0] 168 true, .dfr D6, .loop l6 T6 #[23, 24] A6 B6 .ready none D6, .blk ((L9 3).b) [aN 2500, aN 20000000, aN 20000000] 77 true, .blk ((L14 3).b) [aN 5000, aN 35000000, aN 35000000] 77 true], []⟩)
    (fun L16 => [])
    fol (by kernel_rfl) (fun _ => by kernel_rfl) (fun L16 => trivial) (fun L16 => ?_)
  refine aw_seq ?_
  refine aw_true (true) rfl rfl ?_
  refine aw_skip ?_
  refine nrm_thn ?_
  refine aw_seq ?_
  refine aw_block ?_
  refine aw_sr [⟨.pure, [], none, true⟩, ⟨(.read 0), [0], none, true⟩, ⟨.new, [], none, true⟩, ⟨(.write 11), [0, 1, 2], none, true⟩]
    (fun L17 => ⟨[aS b1 0 2 2, some (.func (.yield l6) #[] #[]), aU, aU, aI 1, aP (L14 3).b 0, aU, aP (L17 2).b 0, aS b1 0 2 2, aI 2, aI 1, aT, aI 1, aP b1 3, some (.agg #[aN 5000, aN 35000000, aN 35000000]), aS b1 0 2 2, aI 1, aS b1 0 1 2, aI 1, aI 0, aT, aP b1 0, some (.agg #[aN 2500, aN 20000000, aN 20000000]), aU, aU, aU, aU, aU, aU, aI 1], [.blk (b1) [aN 2500, aN 20000000, aN 20000000, aN 5000, aN 35000000, aN 35000000] 77 false, .blk ((L1 0).b) [aN 0, aN 0] 123 true, .blk ((L1 1).b) [aN 0, aN 0] 123 true, .blk ((L4 0).b) [.slice none 0 0] 168 true, .blk ((L4 1).b) [.slice none 0 0] 168 true, .dfr D6, .loop l6 T6 #[23, 24] A6 B6 .ready none D6, .blk ((L9 3).b) [aN 2500, aN 20000000, aN 20000000] 77 true, .blk ((L14 3).b) [aN 5000, aN 35000000, aN 35000000] 77 true, .blk ((L17 2).b) [aN 2500, aN 20000000, aN 20000000] 77 true], []⟩)
    (fun L17 => [b1 = b1, 0 + 3 ≤ 6, (L17 2).b = (L17 2).b, 0 + 3 ≤ 3, 3 = 3, true = true])
    fol (by kernel_rfl) (fun _ => by kernel_rfl) (fun L17 => ⟨rfl, (by decide), rfl, (by decide), rfl, rfl, trivial⟩) (fun L17 => ?_)
  refine aw_seq ?_
  refine aw_steps ?_
  refine aws_op (⟨.pure, [], none, true⟩) (fun L18 => ⟨[aS b1 0 2 2, some (.func (.yield l6) #[] #[]), aU, aU, aI 1, aP (L14 3).b 0, aU, aP (L17 2).b 0, aS b1 0 2 2, aI 2, aI 1, aT, aI 1, aP b1 3, some (.agg #[aN 5000, aN 35000000, aN 35000000]), aS b1 0 2 2, aI 1, aS b1 0 1 2, aI 1, aI 0, aT, aP b1 0, some (.agg #[aN 2500, aN 20000000, aN 20000000]), some (.func (.yield l6) #[] #[]), aU, aU, aU, aU, aU, aI 1], [.blk (b1) [aN 2500, aN 20000000, aN 20000000, aN 5000, aN 35000000, aN 35000000] 77 false, .blk ((L1 0).b) [aN 0, aN 0] 123 true, .blk ((L1 1).b) [aN 0, aN 0] 123 true, .blk ((L4 0).b) [.slice none 0 0] 168 true, .blk ((L4 1).b) [.slice none 0 0] 168 true, .dfr D6, .loop l6 T6 #[23, 24] A6 B6 .ready none D6, .blk ((L9 3).b) [aN 2500, aN 20000000, aN 20000000] 77 true, .blk ((L14 3).b) [aN 5000, aN 35000000, aN 35000000] 77 true, .blk ((L17 2).b) [aN 2500, aN 20000000, aN 20000000] 77 true], []⟩) (fun L18 => []) (by kernel_rfl) rfl (fun t ht => by cases ht; exact Nat.le_of_ble_eq_true (by kernel_rfl)) (fun _ => by kernel_rfl) (fun L18 => trivial) (fun L18 => ?_)
  refine aws_op (⟨(.read 9), [], none, true⟩) (fun L19 => ⟨[aS b1 0 2 2, some (.func (.yield l6) #[] #[]), aU, aU, aI 1, aP (L14 3).b 0, aU, aP (L17 2).b 0, aS b1 0 2 2, aI 2, aI 1, aT, aI 1, aP b1 3, some (.agg #[aN 5000, aN 35000000, aN 35000000]), aS b1 0 2 2, aI 1, aS b1 0 1 2, aI 1, aI 0, aT, aP b1 0, some (.agg #[aN 2500, aN 20000000, aN 20000000]), some (.func (.yield l6) #[] #[]), some (.agg #[aN 2500, aN 20000000, aN 20000000]), aU, aU, aU, aU, aI 1], [.blk (b1) [aN 2500, aN 20000000, aN 20000000, aN 5000, aN 35000000, aN 35000000] 77 false, .blk ((L1 0).b) [aN 0, aN 0] 123 true, .blk ((L1 1).b) [aN 0, aN 0] 123 true, .blk ((L4 0).b) [.slice none 0 0] 168 true, .blk ((L4 1).b) [.slice none 0 0] 168 true, .dfr D6, .loop l6 T6 #[23, 24] A6 B6 .ready none D6, .blk ((L9 3).b) [aN 2500, aN 20000000, aN 20000000] 77 true, .blk ((L14 3).b) [aN 5000, aN 35000000, aN 35000000] 77 true, .blk ((L17 2).b) [aN 2500, aN 20000000, aN 20000000] 77 true], []⟩) (fun L19 => [(L17 2).b = (L17 2).b, 0 + 3 ≤ 3]) (by kernel_rfl) rfl (fun t ht => by cases ht; exact Nat.le_of_ble_eq_true (by kernel_rfl)) (fun _ => by kernel_rfl) (fun L19 => ⟨rfl, (by decide), trivial⟩) (fun L19 => ?_)
  refine aws_op (⟨(.read 8), [], none, true⟩) (fun L20 => ⟨[aS b1 0 2 2, some (.func (.yield l6) #[] #[]), aU, aU, aI 1, aP (L14 3).b 0, aU, aP (L17 2).b 0, aS b1 0 2 2, aI 2, aI 1, aT, aI 1, aP b1 3, some (.agg #[aN 5000, aN 35000000, aN 35000000]), aS b1 0 2 2, aI 1, aS b1 0 1 2, aI 1, aI 0, aT, aP b1 0, some (.agg #[aN 2500, aN 20000000, aN 20000000]), some (.func (.yield l6) #[] #[]), some (.agg #[aN 2500, aN 20000000, aN 20000000]), some (.agg #[aN 5000, aN 35000000, aN 35000000]), aU, aU, aU, aI 1], [.blk (b1) [aN 2500, aN 20000000, aN 20000000, aN 5000, aN 35000000, aN 35000000] 77 false, .blk ((L1 0).b) [aN 0, aN 0] 123 true, .blk ((L1 1).b) [aN 0, aN 0] 123 true, .blk ((L4 0).b) [.slice none 0 0] 168 true, .blk ((L4 1).b) [.slice none 0 0] 168 true, .dfr D6, .loop l6 T6 #[23, 24] A6 B6 .ready none D6, .blk ((L9 3).b) [aN 2500, aN 20000000, aN 20000000] 77 true, .blk ((L14 3).b) [aN 5000, aN 35000000, aN 35000000] 77 true, .blk ((L17 2).b) [aN 2500, aN 20000000, aN 20000000] 77 true], []⟩) (fun L20 => [(L14 3).b = (L14 3).b, 0 + 3 ≤ 3]) (by kernel_rfl) rfl (fun t ht => by cases ht; exact Nat.le_of_ble_eq_true (by kernel_rfl)) (fun _ => by kernel_rfl) (fun L20 => ⟨rfl, (by decide), trivial⟩) (fun L20 => ?_)
  refine aws_yield' (⟨[aS b1 0 2 2, aU, aP (L1 0).b 0, aP (L1 1).b 0, aI 0, aI 0, aI 0, aP (L4 0).b 0, aP (L4 1).b 0, aU, aU, some (.tuple #[aN 0, aN 0]), aS b1 0 2 2, some (.tuple #[aN 0, aN 0]), aI 0, aI 0, aI 0, aF, aU, aU, aU, aS b1 0 2 2, some (.func (.func 95) #[.slice (some ⟨b1, 0, none⟩) (2) (2)] #[]), some (.agg #[aN 2500, aN 20000000, aN 20000000]), some (.agg #[aN 5000, aN 35000000, aN 35000000]), aU, aU, aU, aU, aU, aU, aU, aU, aU, aU, aU, aU, aU, aU, aU, aU, aU, aU, aU, aU, aU, aU, aU, aU, aU], [.blk (b1) [aN 2500, aN 20000000, aN 20000000, aN 5000, aN 35000000, aN 35000000] 77 false, .blk ((L1 0).b) [aN 0, aN 0] 123 true, .blk ((L1 1).b) [aN 0, aN 0] 123 true, .blk ((L4 0).b) [.slice none 0 0] 168 true, .blk ((L4 1).b) [.slice none 0 0] 168 true, .dfr D6, .loop l6 T6 #[23, 24] A6 B6 .ready none D6, .blk ((L9 3).b) [aN 2500, aN 20000000, aN 20000000] 77 true, .blk ((L14 3).b) [aN 5000, aN 35000000, aN 35000000] 77 true, .blk ((L17 2).b) [aN 2500, aN 20000000, aN 20000000] 77 true], []⟩) [.agg #[aN 2500, aN 20000000, aN 20000000], .agg #[aN 5000, aN 35000000, aN 35000000]] 6 rfl rfl rfl (fun t ht => by cases ht; exact Nat.le_of_ble_eq_true (by kernel_rfl)) rfl rfl rfl rfl hT6 hA6 rfl ?_
  refine aw_sr [⟨.new, [], none, true⟩, ⟨(.write 10), [0], none, true⟩]
    (fun L21 => ⟨[aS b1 0 2 2, aU, aP (L1 0).b 0, aP (L1 1).b 0, aI 0, aI 0, aI 0, aP (L4 0).b 0, aP (L4 1).b 0, aP (L21 0).b 0, aU, some (.tuple #[aN 0, aN 0]), aS b1 0 2 2, some (.tuple #[aN 0, aN 0]), aI 0, aI 0, aI 0, aF, aU, aU, aU, aS b1 0 2 2, some (.func (.func 95) #[.slice (some ⟨b1, 0, none⟩) (2) (2)] #[]), some (.agg #[aN 2500, aN 20000000, aN 20000000]), some (.agg #[aN 5000, aN 35000000, aN 35000000]), aU, aU, aU, aU, aU, aU, aU, aU, aU, aU, aU, aU, aU, aU, aU, aU, aU, aU, aU, aU, aU, aU, aU, aU, aU], [.blk (b1) [aN 2500, aN 20000000, aN 20000000, aN 5000, aN 35000000, aN 35000000] 77 false, .blk ((L1 0).b) [aN 0, aN 0] 123 true, .blk ((L1 1).b) [aN 0, aN 0] 123 true, .blk ((L4 0).b) [.slice none 0 0] 168 true, .blk ((L4 1).b) [.slice none 0 0] 168 true, .dfr D6, .loop l6 T6 #[23, 24] A6 B6 .ready none D6, .blk ((L9 3).b) [aN 2500, aN 20000000, aN 20000000] 77 true, .blk ((L14 3).b) [aN 5000, aN 35000000, aN 35000000] 77 true, .blk ((L17 2).b) [aN 2500, aN 20000000, aN 20000000] 77 true, .blk ((L21 0).b) [aN 2500, aN 20000000, aN 20000000] 77 true], []⟩)
    (fun L21 => [(L21 0).b = (L21 0).b, 0 + 3 ≤ 3, 3 = 3, true = true])
    fol (by kernel_rfl) (fun _ => by kernel_rfl) (fun L21 => ⟨rfl, (by decide), rfl, rfl, trivial⟩) (fun L21 => ?_)
  refine aw_region [⟨.new, [], none, true⟩, ⟨(.write 11), [0], none, true⟩]
    (fun L22 => ⟨[aS b1 0 2 2, aU, aP (L1 0).b 0, aP (L1 1).b 0, aI 0, aI 0, aI 0, aP (L4 0).b 0, aP (L4 1).b 0, aP (L21 0).b 0, aP (L22 0).b 0, some (.tuple #[aN 0, aN 0]), aS b1 0 2 2, some (.tuple #[aN 0, aN 0]), aI 0, aI 0, aI 0, aF, aU, aU, aU, aS b1 0 2 2, some (.func (.func 95) #[.slice (some ⟨b1, 0, none⟩) (2) (2)] #[]), some (.agg #[aN 2500, aN 20000000, aN 20000000]), some (.agg #[aN 5000, aN 35000000, aN 35000000]), aU, aU, aU, aU, aU, aU, aU, aU, aU, aU, aU, aU, aU, aU, aU, aU, aU, aU, aU, aU, aU, aU, aU, aU, aU], [.blk (b1) [aN 2500, aN 20000000, aN 20000000, aN 5000, aN 35000000, aN 35000000] 77 false, .blk ((L1 0).b) [aN 0, aN 0] 123 true, .blk ((L1 1).b) [aN 0, aN 0] 123 true, .blk ((L4 0).b) [.slice none 0 0] 168 true, .blk ((L4 1).b) [.slice none 0 0] 168 true, .dfr D6, .loop l6 T6 #[23, 24] A6 B6 .ready none D6, .blk ((L9 3).b) [aN 2500, aN 20000000, aN 20000000] 77 true, .blk ((L14 3).b) [aN 5000, aN 35000000, aN 35000000] 77 true, .blk ((L17 2).b) [aN 2500, aN 20000000, aN 20000000] 77 true, .blk ((L21 0).b) [aN 2500, aN 20000000, aN 20000000] 77 true, .blk ((L22 0).b) [aN 5000, aN 35000000, aN 35000000] 77 true], []⟩)
    (fun L22 => [(L22 0).b = (L22 0).b, 0 + 3 ≤ 3, 3 = 3, true = true])
    fol (by kernel_rfl) (fun _ => by kernel_rfl) (fun L22 => ⟨rfl, (by decide), rfl, rfl, trivial⟩) (fun L22 => ?_)
  refine round_mid (⟨[aS b1 0 2 2, aU, aP (L1 0).b 0, aP (L1 1).b 0, aI 0, aI 0, aI 0, aP (L4 0).b 0, aP (L4 1).b 0, aP (L21 0).b 0, aP (L22 0).b 0, some (.tuple #[aN 0, aN 0]), aS b1 0 2 2, some (.tuple #[aN 0, aN 0]), aI 0, aI 0, aI 0, aF, aU, aU, aU, aS b1 0 2 2, some (.func (.func 95) #[.slice (some ⟨b1, 0, none⟩) (2) (2)] #[]), some (.agg #[aN 2500, aN 20000000, aN 20000000]), some (.agg #[aN 5000, aN 35000000, aN 35000000]), aU, aU, aU, aU, aU, aU, aU, aU, aU, aU, aU, aU, aU, aU, aU, aU, aU, aU, aU, aU, aU, aU, aU, aU, aU], [.blk (b1) [aN 2500, aN 20000000, aN 20000000, aN 5000, aN 35000000, aN 35000000] 77 false, .blk ((L1 0).b) [aN 0, aN 0] 123 true, .blk ((L1 1).b) [aN 0, aN 0] 123 true, .blk ((L4 0).b) [.slice none 0 0] 168 true, .blk ((L4 1).b) [.slice none 0 0] 168 true, .dfr D6, .loop l6 T6 #[23, 24] A6 B6 .busy none D6, .blk ((L9 3).b) [aN 2500, aN 20000000, aN 20000000] 77 true, .blk ((L14 3).b) [aN 5000, aN 35000000, aN 35000000] 77 true, .blk ((L17 2).b) [aN 2500, aN 20000000, aN 20000000] 77 true, .blk ((L21 0).b) [aN 2500, aN 20000000, aN 20000000] 77 true, .blk ((L22 0).b) [aN 5000, aN 35000000, aN 35000000] 77 true], []⟩) rfl rfl hB6 rfl ?_
  refine aw_block ?_
  refine aw_weak (weak_nil _ 2 123) ?_
  refine aw_sr [⟨(.read 3), [], none, true⟩, ⟨(.read 10), [], none, true⟩, ⟨(.read 11), [], none, true⟩, ⟨(.call [] (.agg #[aN 2500, aN 20000000, aN 5000, aN 35000000])), [1, 2], none, true⟩, ⟨(.call [] (.agg #[aN 15000000, aN 5000])), [1, 2, 3], none, true⟩, ⟨.new, [1, 2, 3, 4], none, true⟩, ⟨(.app 12 18), [0, 1, 2, 3, 4, 5], none, true⟩, ⟨(.write 3), [0, 1, 2, 3, 4, 5, 6], none, true⟩]
    (fun L24 => ⟨[aS b1 0 2 2, aU, aP (L1 0).b 0, aP (L1 1).b 0, aI 0, aI 0, aI 0, aP (L4 0).b 0, aP (L4 1).b 0, aP (L21 0).b 0, aP (L22 0).b 0, some (.tuple #[aN 0, aN 0]), aS b1 0 2 2, some (.tuple #[aN 0, aN 0]), aI 0, aI 0, aI 0, aF, aU, aU, aU, aS b1 0 2 2, some (.func (.func 95) #[.slice (some ⟨b1, 0, none⟩) (2) (2)] #[]), some (.agg #[aN 2500, aN 20000000, aN 20000000]), some (.agg #[aN 5000, aN 35000000, aN 35000000]), some (.slice none 0 0), some (.agg #[aN 2500, aN 20000000, aN 20000000]), some (.agg #[aN 5000, aN 35000000, aN 35000000]), some (.agg #[aN 2500, aN 20000000, aN 5000, aN 35000000]), some (.agg #[aN 15000000, aN 5000]), aS (L24 5).b 0 1 1, some (.slice ((L24 6).a) (1) ((L24 6).n)), aU, aU, aU, aU, aU, aU, aU, aU, aU, aU, aU, aU, aU, aU, aU, aU, aU, aU], [.blk (b1) [aN 2500, aN 20000000, aN 20000000, aN 5000, aN 35000000, aN 35000000] 77 false, .blk ((L1 0).b) [aN 0, aN 0] 123 true, .blk ((L1 1).b) [aN 0, aN 0] 123 true, .blk ((L4 0).b) [.slice ((L24 6).a) (1) ((L24 6).n)] 168 true, .blk ((L4 1).b) [.slice none 0 0] 168 true, .dfr D6, .loop l6 T6 #[23, 24] A6 B6 .busy none D6, .blk ((L9 3).b) [aN 2500, aN 20000000, aN 20000000] 77 true, .blk ((L14 3).b) [aN 5000, aN 35000000, aN 35000000] 77 true, .blk ((L17 2).b) [aN 2500, aN 20000000, aN 20000000] 77 true, .blk ((L21 0).b) [aN 2500, aN 20000000, aN 20000000] 77 true, .blk ((L22 0).b) [aN 5000, aN 35000000, aN 35000000] 77 true, .row ((L24 6).a) (1) ((L24 6).n) 2 [aN 15000000, aN 5000] 123 true, .blk ((L24 5).b) [aN 15000000, aN 5000] 123 true], []⟩)
    (fun L24 => [(L4 0).b = (L4 0).b, (L21 0).b = (L21 0).b, 0 + 3 ≤ 3, (L22 0).b = (L22 0).b, 0 + 3 ≤ 3, CallOb Try.prog 98 #[.agg #[aN 2500, aN 20000000, aN 20000000], .agg #[aN 5000, aN 35000000, aN 35000000]] [] (.agg #[aN 2500, aN 20000000, aN 5000, aN 35000000]), CallOb Try.prog 132 #[.agg #[aN 2500, aN 20000000, aN 5000, aN 35000000]] [] (.agg #[aN 15000000, aN 5000]), 168 = 168, 123 = 123, (none : Option Addr) = none, 0 = 0, 0 = 0, (L24 5).b = (L24 5).b, 2 = 2, some 2 = some 2, 0 < 2, 0 + 1 * 2 ≤ 2, ∀ u ∈ ([aN 15000000, aN 5000] : List Value), u.oneCell' = true, 0 + 1 ≤ maxLen, (0 + 1) * 16 ≤ 140737488355328, (L4 0).b = (L4 0).b, 0 + 1 ≤ 1, 1 = 1, true = true])
    fol (by kernel_rfl) (fun _ => by kernel_rfl) (fun L24 => ⟨rfl, rfl, (by decide), rfl, (by decide), (callOb_frz (UA.i_62  )), (callOb_frz (UA.i_63  )), rfl, rfl, rfl, rfl, rfl, rfl, rfl, rfl, (by decide), (by decide), (by simp [Value.oneCell']), (by unfold maxLen; decide), (by decide), rfl, (by decide), rfl, rfl, trivial⟩) (fun L24 => ?_)
  refine aw_weak (weak_nil _ 2 123) ?_
  refine aw_region [⟨(.read 4), [], none, true⟩, ⟨(.read 10), [], none, true⟩, ⟨(.read 11), [], none, true⟩, ⟨(.call [] (.agg #[aN 2500, aN 20000000, aN 5000, aN 35000000])), [1, 2], none, true⟩, ⟨(.call [] (.agg #[aN 15000000, aN 5000])), [1, 2, 3], none, true⟩, ⟨.new, [1, 2, 3, 4], none, true⟩, ⟨(.app 14 20), [0, 1, 2, 3, 4, 5], none, true⟩, ⟨(.write 4), [0, 1, 2, 3, 4, 5, 6], none, true⟩]
    (fun L26 => ⟨[aS b1 0 2 2, aU, aP (L1 0).b 0, aP (L1 1).b 0, aI 0, aI 0, aI 0, aP (L4 0).b 0, aP (L4 1).b 0, aP (L21 0).b 0, aP (L22 0).b 0, some (.tuple #[aN 0, aN 0]), aS b1 0 2 2, some (.tuple #[aN 0, aN 0]), aI 0, aI 0, aI 0, aF, aU, aU, aU, aS b1 0 2 2, some (.func (.func 95) #[.slice (some ⟨b1, 0, none⟩) (2) (2)] #[]), some (.agg #[aN 2500, aN 20000000, aN 20000000]), some (.agg #[aN 5000, aN 35000000, aN 35000000]), some (.slice none 0 0), some (.agg #[aN 2500, aN 20000000, aN 20000000]), some (.agg #[aN 5000, aN 35000000, aN 35000000]), some (.agg #[aN 2500, aN 20000000, aN 5000, aN 35000000]), some (.agg #[aN 15000000, aN 5000]), aS (L24 5).b 0 1 1, some (.slice ((L24 6).a) (1) ((L24 6).n)), some (.slice none 0 0), some (.agg #[aN 2500, aN 20000000, aN 20000000]), some (.agg #[aN 5000, aN 35000000, aN 35000000]), some (.agg #[aN 2500, aN 20000000, aN 5000, aN 35000000]), some (.agg #[aN 15000000, aN 5000]), aS (L26 5).b 0 1 1, some (.slice ((L26 6).a) (1) ((L26 6).n)), aU, aU, aU, aU, aU, aU, aU, aU, aU, aU, aU], [.blk (b1) [aN 2500, aN 20000000, aN 20000000, aN 5000, aN 35000000, aN 35000000] 77 false, .blk ((L1 0).b) [aN 0, aN 0] 123 true, .blk ((L1 1).b) [aN 0, aN 0] 123 true, .blk ((L4 0).b) [.slice ((L24 6).a) (1) ((L24 6).n)] 168 true, .blk ((L4 1).b) [.slice ((L26 6).a) (1) ((L26 6).n)] 168 true, .dfr D6, .loop l6 T6 #[23, 24] A6 B6 .busy none D6, .blk ((L9 3).b) [aN 2500, aN 20000000, aN 20000000] 77 true, .blk ((L14 3).b) [aN 5000, aN 35000000, aN 35000000] 77 true, .blk ((L17 2).b) [aN 2500, aN 20000000, aN 20000000] 77 true, .blk ((L21 0).b) [aN 2500, aN 20000000, aN 20000000] 77 true, .blk ((L22 0).b) [aN 5000, aN 35000000, aN 35000000] 77 true, .row ((L24 6).a) (1) ((L24 6).n) 2 [aN 15000000, aN 5000] 123 true, .blk ((L24 5).b) [aN 15000000, aN 5000] 123 true, .row ((L26 6).a) (1) ((L26 6).n) 2 [aN 15000000, aN 5000] 123 true, .blk ((L26 5).b) [aN 15000000, aN 5000] 123 true], []⟩)
    (fun L26 => [(L4 1).b = (L4 1).b, (L21 0).b = (L21 0).b, 0 + 3 ≤ 3, (L22 0).b = (L22 0).b, 0 + 3 ≤ 3, CallOb Try.prog 96 #[.agg #[aN 2500, aN 20000000, aN 20000000], .agg #[aN 5000, aN 35000000, aN 35000000]] [] (.agg #[aN 2500, aN 20000000, aN 5000, aN 35000000]), CallOb Try.prog 132 #[.agg #[aN 2500, aN 20000000, aN 5000, aN 35000000]] [] (.agg #[aN 15000000, aN 5000]), 168 = 168, 123 = 123, (none : Option Addr) = none, 0 = 0, 0 = 0, (L26 5).b = (L26 5).b, 2 = 2, some 2 = some 2, 0 < 2, 0 + 1 * 2 ≤ 2, ∀ u ∈ ([aN 15000000, aN 5000] : List Value), u.oneCell' = true, 0 + 1 ≤ maxLen, (0 + 1) * 16 ≤ 140737488355328, (L4 1).b = (L4 1).b, 0 + 1 ≤ 1, 1 = 1, true = true])
    fol (by kernel_rfl) (fun _ => by kernel_rfl) (fun L26 => ⟨rfl, rfl, (by decide), rfl, (by decide), (callOb_frz (UA.i_64  )), (callOb_frz (UA.i_63  )), rfl, rfl, rfl, rfl, rfl, rfl, rfl, rfl, (by decide), (by decide), (by simp [Value.oneCell']), (by unfold maxLen; decide), (by decide), rfl, (by decide), rfl, rfl, trivial⟩) (fun L26 => ?_)
  refine nrm_inB ?_
  refine round_norm (⟨[aS b1 0 2 2, some (.func (.yield l6) #[] #[]), aU, aU, aI 1, aP (L14 3).b 0, aU, aP (L17 2).b 0, aS b1 0 2 2, aI 2, aI 1, aT, aI 1, aP b1 3, some (.agg #[aN 5000, aN 35000000, aN 35000000]), aS b1 0 2 2, aI 1, aS b1 0 1 2, aI 1, aI 0, aT, aP b1 0, some (.agg #[aN 2500, aN 20000000, aN 20000000]), some (.func (.yield l6) #[] #[]), some (.agg #[aN 2500, aN 20000000, aN 20000000]), some (.agg #[aN 5000, aN 35000000, aN 35000000]), aT, aU, aU, aI 1], [.blk (b1) [aN 2500, aN 20000000, aN 20000000, aN 5000, aN 35000000, aN 35000000] 77 false, .blk ((L1 0).b) [aN 0, aN 0] 123 true, .blk ((L1 1).b) [aN 0, aN 0] 123 true, .blk ((L4 0).b) [.slice ((L24 6).a) (1) ((L24 6).n)] 168 true, .blk ((L4 1).b) [.slice ((L26 6).a) (1) ((L26 6).n)] 168 true, .dfr D6, .loop l6 T6 #[23, 24] A6 B6 .ready none D6, .blk ((L9 3).b) [aN 2500, aN 20000000, aN 20000000] 77 true, .blk ((L14 3).b) [aN 5000, aN 35000000, aN 35000000] 77 true, .blk ((L17 2).b) [aN 2500, aN 20000000, aN 20000000] 77 true, .blk ((L21 0).b) [aN 2500, aN 20000000, aN 20000000] 77 true, .blk ((L22 0).b) [aN 5000, aN 35000000, aN 35000000] 77 true, .row ((L24 6).a) (1) ((L24 6).n) 2 [aN 15000000, aN 5000] 123 true, .blk ((L24 5).b) [aN 15000000, aN 5000] 123 true, .row ((L26 6).a) (1) ((L26 6).n) 2 [aN 15000000, aN 5000] 123 true, .blk ((L26 5).b) [aN 15000000, aN 5000] 123 true], []⟩) rfl rfl rfl ?_
  refine aws_op (⟨.pure, [], none, true⟩) (fun L27 => ⟨[aS b1 0 2 2, some (.func (.yield l6) #[] #[]), aU, aU, aI 1, aP (L14 3).b 0, aU, aP (L17 2).b 0, aS b1 0 2 2, aI 2, aI 1, aT, aI 1, aP b1 3, some (.agg #[aN 5000, aN 35000000, aN 35000000]), aS b1 0 2 2, aI 1, aS b1 0 1 2, aI 1, aI 0, aT, aP b1 0, some (.agg #[aN 2500, aN 20000000, aN 20000000]), some (.func (.yield l6) #[] #[]), some (.agg #[aN 2500, aN 20000000, aN 20000000]), some (.agg #[aN 5000, aN 35000000, aN 35000000]), aT, aF, aU, aI 1], [.blk (b1) [aN 2500, aN 20000000, aN 20000000, aN 5000, aN 35000000, aN 35000000] 77 false, .blk ((L1 0).b) [aN 0, aN 0] 123 true, .blk ((L1 1).b) [aN 0, aN 0] 123 true, .blk ((L4 0).b) [.slice ((L24 6).a) (1) ((L24 6).n)] 168 true, .blk ((L4 1).b) [.slice ((L26 6).a) (1) ((L26 6).n)] 168 true, .dfr D6, .loop l6 T6 #[23, 24] A6 B6 .ready none D6, .blk ((L9 3).b) [aN 2500, aN 20000000, aN 20000000] 77 true, .blk ((L14 3).b) [aN 5000, aN 35000000, aN 35000000] 77 true, .blk ((L17 2).b) [aN 2500, aN 20000000, aN 20000000] 77 true, .blk ((L21 0).b) [aN 2500, aN 20000000, aN 20000000] 77 true, .blk ((L22 0).b) [aN 5000, aN 35000000, aN 35000000] 77 true, .row ((L24 6).a) (1) ((L24 6).n) 2 [aN 15000000, aN 5000] 123 true, .blk ((L24 5).b) [aN 15000000, aN 5000] 123 true, .row ((L26 6).a) (1) ((L26 6).n) 2 [aN 15000000, aN 5000] 123 true, .blk ((L26 5).b) [aN 15000000, aN 5000] 123 true], []⟩) (fun L27 => []) (by kernel_rfl) rfl (fun t ht => by cases ht; exact Nat.le_of_ble_eq_true (by kernel_rfl)) (fun _ => by kernel_rfl) (fun L27 => trivial) (fun L27 => ?_)
  refine aws_end rfl ?_
  refine nrm_thn ?_
  refine aw_false (false) rfl rfl ?_
  refine aw_skip ?_
  refine nrm_inB ?_
  refine nrm_thn ?_
  refine aw_region [⟨.pure, [], none, true⟩, ⟨.pure, [0], none, true⟩]
    (fun L28 => ⟨[aS b1 0 2 2, some (.func (.yield l6) #[] #[]), aU, aU, aI 1, aP (L14 3).b 0, aU, aP (L17 2).b 0, aS b1 0 2 2, aI 2, aI 1, aT, aI 1, aP b1 3, some (.agg #[aN 5000, aN 35000000, aN 35000000]), aS b1 0 2 2, aI 1, aS b1 0 1 2, aI 1, aI 1, aT, aP b1 0, some (.agg #[aN 2500, aN 20000000, aN 20000000]), some (.func (.yield l6) #[] #[]), some (.agg #[aN 2500, aN 20000000, aN 20000000]), some (.agg #[aN 5000, aN 35000000, aN 35000000]), aT, aF, aI 1, aI 1], [.blk (b1) [aN 2500, aN 20000000, aN 20000000, aN 5000, aN 35000000, aN 35000000] 77 false, .blk ((L1 0).b) [aN 0, aN 0] 123 true, .blk ((L1 1).b) [aN 0, aN 0] 123 true, .blk ((L4 0).b) [.slice ((L24 6).a) (1) ((L24 6).n)] 168 true, .blk ((L4 1).b) [.slice ((L26 6).a) (1) ((L26 6).n)] 168 true, .dfr D6, .loop l6 T6 #[23, 24] A6 B6 .ready none D6, .blk ((L9 3).b) [aN 2500, aN 20000000, aN 20000000] 77 true, .blk ((L14 3).b) [aN 5000, aN 35000000, aN 35000000] 77 true, .blk ((L17 2).b) [aN 2500, aN 20000000, aN 20000000] 77 true, .blk ((L21 0).b) [aN 2500, aN 20000000, aN 20000000] 77 true, .blk ((L22 0).b) [aN 5000, aN 35000000, aN 35000000] 77 true, .row ((L24 6).a) (1) ((L24 6).n) 2 [aN 15000000, aN 5000] 123 true, .blk ((L24 5).b) [aN 15000000, aN 5000] 123 true, .row ((L26 6).a) (1) ((L26 6).n) 2 [aN 15000000, aN 5000] 123 true, .blk ((L26 5).b) [aN 15000000, aN 5000] 123 true], []⟩)
    (fun L28 => [])
    fol (by kernel_rfl) (fun _ => by kernel_rfl) (fun L28 => trivial) (fun L28 => ?_)
  refine nrm_thn ?_
  refine awn_weak (σ' := ⟨[aS b1 0 2 2, some (.func (.yield l6) #[] #[]), aU, aU, aI 1, aP (L14 3).b 0, aU, aP (L17 2).b 0, aS b1 0 2 2, aI 2, aI 1, aT, aI 1, aP b1 3, some (.agg #[aN 5000, aN 35000000, aN 35000000]), aS b1 0 2 2, aI 1, aS b1 0 1 2, aI 1, aI 1, aT, aP b1 0, some (.agg #[aN 2500, aN 20000000, aN 20000000]), some (.func (.yield l6) #[] #[]), some (.agg #[aN 2500, aN 20000000, aN 20000000]), some (.agg #[aN 5000, aN 35000000, aN 35000000]), aT, aF, aI 1, aI 1], [.blk (b1) [aN 2500, aN 20000000, aN 20000000, aN 5000, aN 35000000, aN 35000000] 77 false, .blk ((L1 0).b) [aN 0, aN 0] 123 true, .blk ((L1 1).b) [aN 0, aN 0] 123 true, .blk ((L4 0).b) [.slice ((L24 6).a) (1) ((L24 6).n)] 168 true, .blk ((L4 1).b) [.slice ((L26 6).a) (1) ((L26 6).n)] 168 true, .dfr D6, .loop l6 T6 #[23, 24] A6 B6 .ready none D6, .blk ((L14 3).b) [aN 5000, aN 35000000, aN 35000000] 77 true, .blk ((L17 2).b) [aN 2500, aN 20000000, aN 20000000] 77 true, .row ((L24 6).a) (1) ((L24 6).n) 2 [aN 15000000, aN 5000] 123 true, .row ((L26 6).a) (1) ((L26 6).n) 2 [aN 15000000, aN 5000] 123 true], []⟩) (weak_to [] [0, 1, 2, 3, 4, 5, 6, 8, 9, 12, 14] (by decide) (by kernel_rfl)) ?_
  refine aw_round ?_
  refine aw_sr [⟨.pure, [], none, true⟩]
    (fun L29 => ⟨[aS b1 0 2 2, some (.func (.yield l6) #[] #[]), aU, aU, aI 1, aP (L14 3).b 0, aU, aP (L17 2).b 0, aS b1 0 2 2, aI 2, aI 1, aT, aI 1, aP b1 3, some (.agg #[aN 5000, aN 35000000, aN 35000000]), aS b1 0 2 2, aI 1, aS b1 0 1 2, aI 1, aI 1, aF, aP b1 0, some (.agg #[aN 2500, aN 20000000, aN 20000000]), some (.func (.yield l6) #[] #[]), some (.agg #[aN 2500, aN 20000000, aN 20000000]), some (.agg #[aN 5000, aN 35000000, aN 35000000]), aT, aF, aI 1, aI 1], [.blk (b1) [aN 2500, aN 20000000, aN 20000000, aN 5000, aN 35000000, aN 35000000] 77 false, .blk ((L1 0).b) [aN 0, aN 0] 123 true, .blk ((L1 1).b) [aN 0, aN 0] 123 true, .blk ((L4 0).b) [.slice ((L24 6).a) (1) ((L24 6).n)] 168 true, .blk ((L4 1).b) [.slice ((L26 6).a) (1) ((L26 6).n)] 168 true, .dfr D6, .loop l6 T6 #[23, 24] A6 B6 .ready none D6, .blk ((L14 3).b) [aN 5000, aN 35000000, aN 35000000] 77 true, .blk ((L17 2).b) [aN 2500, aN 20000000, aN 20000000] 77 true, .row ((L24 6).a) (1) ((L24 6).n) 2 [aN 15000000, aN 5000] 123 true, .row ((L26 6).a) (1) ((L26 6).n) 2 [aN 15000000, aN 5000] 123 true], []⟩)
    (fun L29 => [])
    fol (by kernel_rfl) (fun _ => by kernel_rfl) (fun L29 => trivial) (fun L29 => ?_)
  refine aw_seq ?_
  refine aw_false (false) rfl rfl ?_
  refine aw_exit ?_
  refine ex_thn ?_
  refine ex_thn ?_
  refine ex_hit ?_
  refine nrm_inB ?_
  refine nrm_thn ?_
  refine aw_region [⟨.pure, [], none, true⟩, ⟨.pure, [0], none, true⟩]
    (fun L30 => ⟨[aS b1 0 2 2, some (.func (.yield l6) #[] #[]), aU, aU, aI 1, aP (L14 3).b 0, aU, aP (L17 2).b 0, aS b1 0 2 2, aI 2, aI 2, aT, aI 1, aP b1 3, some (.agg #[aN 5000, aN 35000000, aN 35000000]), aS b1 0 2 2, aI 1, aS b1 0 1 2, aI 1, aI 1, aF, aP b1 0, some (.agg #[aN 2500, aN 20000000, aN 20000000]), some (.func (.yield l6) #[] #[]), some (.agg #[aN 2500, aN 20000000, aN 20000000]), some (.agg #[aN 5000, aN 35000000, aN 35000000]), aT, aF, aI 1, aI 2], [.blk (b1) [aN 2500, aN 20000000, aN 20000000, aN 5000, aN 35000000, aN 35000000] 77 false, .blk ((L1 0).b) [aN 0, aN 0] 123 true, .blk ((L1 1).b) [aN 0, aN 0] 123 true, .blk ((L4 0).b) [.slice ((L24 6).a) (1) ((L24 6).n)] 168 true, .blk ((L4 1).b) [.slice ((L26 6).a) (1) ((L26 6).n)] 168 true, .dfr D6, .loop l6 T6 #[23, 24] A6 B6 .ready none D6, .blk ((L14 3).b) [aN 5000, aN 35000000, aN 35000000] 77 true, .blk ((L17 2).b) [aN 2500, aN 20000000, aN 20000000] 77 true, .row ((L24 6).a) (1) ((L24 6).n) 2 [aN 15000000, aN 5000] 123 true, .row ((L26 6).a) (1) ((L26 6).n) 2 [aN 15000000, aN 5000] 123 true], []⟩)
    (fun L30 => [])
    fol (by kernel_rfl) (fun _ => by kernel_rfl) (fun L30 => trivial) (fun L30 => ?_)
  refine nrm_thn ?_
  refine aw_round ?_
  refine aw_sr [⟨.pure, [], none, true⟩]
    (fun L31 => ⟨[aS b1 0 2 2, some (.func (.yield l6) #[] #[]), aU, aU, aI 1, aP (L14 3).b 0, aU, aP (L17 2).b 0, aS b1 0 2 2, aI 2, aI 2, aF, aI 1, aP b1 3, some (.agg #[aN 5000, aN 35000000, aN 35000000]), aS b1 0 2 2, aI 1, aS b1 0 1 2, aI 1, aI 1, aF, aP b1 0, some (.agg #[aN 2500, aN 20000000, aN 20000000]), some (.func (.yield l6) #[] #[]), some (.agg #[aN 2500, aN 20000000, aN 20000000]), some (.agg #[aN 5000, aN 35000000, aN 35000000]), aT, aF, aI 1, aI 2], [.blk (b1) [aN 2500, aN 20000000, aN 20000000, aN 5000, aN 35000000, aN 35000000] 77 false, .blk ((L1 0).b) [aN 0, aN 0] 123 true, .blk ((L1 1).b) [aN 0, aN 0] 123 true, .blk ((L4 0).b) [.slice ((L24 6).a) (1) ((L24 6).n)] 168 true, .blk ((L4 1).b) [.slice ((L26 6).a) (1) ((L26 6).n)] 168 true, .dfr D6, .loop l6 T6 #[23, 24] A6 B6 .ready none D6, .blk ((L14 3).b) [aN 5000, aN 35000000, aN 35000000] 77 true, .blk ((L17 2).b) [aN 2500, aN 20000000, aN 20000000] 77 true, .row ((L24 6).a) (1) ((L24 6).n) 2 [aN 15000000, aN 5000] 123 true, .row ((L26 6).a) (1) ((L26 6).n) 2 [aN 15000000, aN 5000] 123 true], []⟩)
    (fun L31 => [])
    fol (by kernel_rfl) (fun _ => by kernel_rfl) (fun L31 => trivial) (fun L31 => ?_)
  refine aw_seq ?_
  refine aw_false (false) rfl rfl ?_
  refine aw_exit ?_
  refine ex_thn ?_
  refine ex_thn ?_
  refine ex_hit ?_
  refine iter_none (⟨[aS b1 0 2 2, aU, aP (L1 0).b 0, aP (L1 1).b 0, aI 0, aI 0, aI 0, aP (L4 0).b 0, aP (L4 1).b 0, aU, aU, some (.tuple #[aN 0, aN 0]), aS b1 0 2 2, some (.tuple #[aN 0, aN 0]), aI 0, aI 0, aI 0, aF, aU, aU, aU, aS b1 0 2 2, some (.func (.func 95) #[.slice (some ⟨b1, 0, none⟩) (2) (2)] #[]), aU, aU, aU, aU, aU, aU, aU, aU, aU, aU, aU, aU, aU, aU, aU, aU, aU, aU, aU, aU, aU, aU, aU, aU, aU, aU, aU], [.blk (b1) [aN 2500, aN 20000000, aN 20000000, aN 5000, aN 35000000, aN 35000000] 77 false, .blk ((L1 0).b) [aN 0, aN 0] 123 true, .blk ((L1 1).b) [aN 0, aN 0] 123 true, .blk ((L4 0).b) [.slice ((L24 6).a) (1) ((L24 6).n)] 168 true, .blk ((L4 1).b) [.slice ((L26 6).a) (1) ((L26 6).n)] 168 true, .dfr D6, .blk ((L14 3).b) [aN 5000, aN 35000000, aN 35000000] 77 true, .blk ((L17 2).b) [aN 2500, aN 20000000, aN 20000000] 77 true, .row ((L24 6).a) (1) ((L24 6).n) 2 [aN 15000000, aN 5000] 123 true, .row ((L26 6).a) (1) ((L26 6).n) 2 [aN 15000000, aN 5000] 123 true], [D6]⟩) none [] (.tuple #[]) [] 6 .ready (.inl rfl) rfl (by kernel_rfl) trivial rfl (by decide) rfl ?_
  refine nrm_inB ?_
  refine nrm_thn ?_
  refine aw_open 8 rfl (by decide) (fun g33 hg33 hcg33 _ => ?_)
  rw [hg33]
  refine aw_open 9 rfl (by decide) (fun g35 hg35 hcg35 _ => ?_)
  rw [hg35]
  refine aw_sr [⟨(.read 3), [], none, true⟩, ⟨(.call [8] (.agg #[aN 15000000, aN 5000])), [0], none, true⟩, ⟨(.read 4), [], none, true⟩, ⟨(.call [9] (.agg #[aN 15000000, aN 5000])), [0, 1, 2], none, true⟩, ⟨(.write 1), [0, 1, 2, 3], none, true⟩, ⟨(.write 2), [0, 1, 2, 3, 4], none, true⟩]
    (fun L36 => ⟨[aS b1 0 2 2, aU, aP (L1 0).b 0, aP (L1 1).b 0, aI 0, aI 0, aI 0, aP (L4 0).b 0, aP (L4 1).b 0, aU, aU, some (.tuple #[aN 0, aN 0]), aS b1 0 2 2, some (.tuple #[aN 0, aN 0]), aI 0, aI 0, aI 0, aF, aU, aU, aU, aS b1 0 2 2, some (.func (.func 95) #[.slice (some ⟨b1, 0, none⟩) (2) (2)] #[]), aU, aU, aU, aU, aU, aU, aU, aU, aU, aU, aU, aU, aU, aU, aU, aU, aS g33 0 1 (L24 6).n, some (.agg #[aN 15000000, aN 5000]), aS g35 0 1 (L26 6).n, some (.agg #[aN 15000000, aN 5000]), aU, aU, aU, aU, aU, aU, aU], [.blk (b1) [aN 2500, aN 20000000, aN 20000000, aN 5000, aN 35000000, aN 35000000] 77 false, .blk ((L1 0).b) [aN 15000000, aN 5000] 123 true, .blk ((L1 1).b) [aN 15000000, aN 5000] 123 true, .blk ((L4 0).b) [.slice (some ⟨g33, 0, none⟩) (1) ((L24 6).n)] 168 true, .blk ((L4 1).b) [.slice (some ⟨g35, 0, none⟩) (1) ((L26 6).n)] 168 true, .dfr D6, .blk ((L14 3).b) [aN 5000, aN 35000000, aN 35000000] 77 true, .blk ((L17 2).b) [aN 2500, aN 20000000, aN 20000000] 77 true, .row (some ⟨g33, 0, none⟩) (1) ((L24 6).n) 2 [aN 15000000, aN 5000] 123 true, .row (some ⟨g35, 0, none⟩) (1) ((L26 6).n) 2 [aN 15000000, aN 5000] 123 true], [D6]⟩)
    (fun L36 => [(L4 0).b = (L4 0).b, CallOb Try.prog 133 #[.slice (some ⟨g33, 0, none⟩) (1) ((L24 6).n), .func (.func 134) #[] #[]] [.row (some ⟨g33, 0, none⟩) (1) ((L24 6).n) 2 [aN 15000000, aN 5000] 123 true] (.agg #[aN 15000000, aN 5000]), (L4 1).b = (L4 1).b, CallOb Try.prog 135 #[.slice (some ⟨g35, 0, none⟩) (1) ((L26 6).n), .func (.func 134) #[] #[]] [.row (some ⟨g35, 0, none⟩) (1) ((L26 6).n) 2 [aN 15000000, aN 5000] 123 true] (.agg #[aN 15000000, aN 5000]), (L1 0).b = (L1 0).b, 0 + 2 ≤ 2, 2 = 2, true = true, (L1 1).b = (L1 1).b, 0 + 2 ≤ 2, 2 = 2, true = true])
    fol (by kernel_rfl) (fun _ => by kernel_rfl) (fun L36 => ⟨rfl, (callOb_frz (UA.i_65 (g33) ((L24 6).n))), rfl, (callOb_frz (UA.i_66 (g35) ((L26 6).n))), rfl, (by decide), rfl, rfl, rfl, (by decide), rfl, rfl, trivial⟩) (fun L36 => ?_)
  refine aw_sr [⟨(.read 1), [], none, true⟩, ⟨(.read 2), [], none, true⟩, ⟨(.read 1), [], none, true⟩, ⟨(.read 2), [], none, true⟩, ⟨(.call [] (aN 0)), [2, 3], none, true⟩, ⟨.pure, [2, 3, 4], none, true⟩, ⟨(.call [] (aN 0)), [2, 3, 4, 5], none, true⟩, ⟨(.write 1), [0, 2, 3, 4, 5, 6], none, true⟩, ⟨(.write 2), [0, 1, 2, 3, 4, 5, 6, 7], none, true⟩, ⟨.pure, [0, 1, 2, 3, 4, 5, 6, 7, 8], none, true⟩]
    (fun L37 => ⟨[aS b1 0 2 2, aU, aP (L1 0).b 0, aP (L1 1).b 0, aI 0, aI 0, aI 0, aP (L4 0).b 0, aP (L4 1).b 0, aU, aU, some (.tuple #[aN 0, aN 0]), aS b1 0 2 2, some (.tuple #[aN 0, aN 0]), aI 0, aI 0, aI 0, aF, aU, aU, aU, aS b1 0 2 2, some (.func (.func 95) #[.slice (some ⟨b1, 0, none⟩) (2) (2)] #[]), aU, aU, aU, aU, aU, aU, aU, aU, aU, aU, aU, aU, aU, aU, aU, aU, aS g33 0 1 (L24 6).n, some (.agg #[aN 15000000, aN 5000]), aS g35 0 1 (L26 6).n, some (.agg #[aN 15000000, aN 5000]), some (.agg #[aN 15000000, aN 5000]), some (.agg #[aN 15000000, aN 5000]), some (.agg #[aN 15000000, aN 5000]), some (.agg #[aN 15000000, aN 5000]), aI 0, aT, aI 0], [.blk (b1) [aN 2500, aN 20000000, aN 20000000, aN 5000, aN 35000000, aN 35000000] 77 false, .blk ((L1 0).b) [aN 15000000, aN 5000] 123 true, .blk ((L1 1).b) [aN 15000000, aN 5000] 123 true, .blk ((L4 0).b) [.slice (some ⟨g33, 0, none⟩) (1) ((L24 6).n)] 168 true, .blk ((L4 1).b) [.slice (some ⟨g35, 0, none⟩) (1) ((L26 6).n)] 168 true, .dfr D6, .blk ((L14 3).b) [aN 5000, aN 35000000, aN 35000000] 77 true, .blk ((L17 2).b) [aN 2500, aN 20000000, aN 20000000] 77 true, .row (some ⟨g33, 0, none⟩) (1) ((L24 6).n) 2 [aN 15000000, aN 5000] 123 true, .row (some ⟨g35, 0, none⟩) (1) ((L26 6).n) 2 [aN 15000000, aN 5000] 123 true], [D6]⟩)
    (fun L37 => [(L1 0).b = (L1 0).b, 0 + 2 ≤ 2, (L1 1).b = (L1 1).b, 0 + 2 ≤ 2, (L1 0).b = (L1 0).b, 0 + 2 ≤ 2, (L1 1).b = (L1 1).b, 0 + 2 ≤ 2, CallOb Try.prog 134 #[.agg #[aN 15000000, aN 5000], .agg #[aN 15000000, aN 5000]] [] (aN 0), CallOb Try.prog 81 #[.bool (true), aN 12] [] (aN 0), (L1 0).b = (L1 0).b, 0 + 2 ≤ 2, 2 = 2, true = true, (L1 1).b = (L1 1).b, 0 + 2 ≤ 2, 2 = 2, true = true])
    fol (by kernel_rfl) (fun _ => by kernel_rfl) (fun L37 => ⟨rfl, (by decide), rfl, (by decide), rfl, (by decide), rfl, (by decide), (callOb_frz (UA.i_69  )), (callOb_frz (UA.i_25  )), rfl, (by decide), rfl, rfl, rfl, (by decide), rfl, rfl, trivial⟩) (fun L37 => ?_)
  refine aw_ret ?_
  exact fin_ret (some 5) [1, 2, 0] (.tuple #[.agg #[aN 15000000, aN 5000], .agg #[aN 15000000, aN 5000], aN 0]) [(L1 0).b = (L1 0).b, 0 + 2 ≤ 2, (L1 1).b = (L1 1).b, 0 + 2 ≤ 2] (.inr rfl) ⟨_, rfl, rfl⟩ (by kernel_rfl) ⟨rfl, (by decide), rfl, (by decide), trivial⟩ (fun w' hb => ⟨rfl, hb⟩)

-- couplant/base.Unless
set_option maxRecDepth 100000 in
set_option maxHeartbeats 400000 in
theorem UA.i_71 : CallOb Try.prog 81 #[.bool (true), aN 11] [] (aN 0) := by
  intro w hw
  refine calls_aw [aT, aI 11, aU, aU, aU, aU, aU] [] Try.func81 rfl (by kernel_rfl) (fun e x h => by cases h) ?_
  refine aw_sr [⟨.pure, [], none, true⟩]
    (fun L1 => ⟨[aT, aI 11, aU, aU, aI 0, aU, aU], [], []⟩)
    (fun L1 => [])
    fol (by kernel_rfl) (fun _ => by kernel_rfl) (fun L1 => trivial) (fun L1 => ?_)
  refine aw_seq ?_
  refine aw_sr [⟨.pure, [], none, true⟩]
    (fun L2 => ⟨[aT, aI 11, aU, aU, aI 0, aT, aU], [], []⟩)
    (fun L2 => [])
    fol (by kernel_rfl) (fun _ => by kernel_rfl) (fun L2 => trivial) (fun L2 => ?_)
  refine aw_true (true) rfl rfl ?_
  refine aw_sr [⟨.pure, [], none, true⟩]
    (fun L3 => ⟨[aT, aI 11, aU, aU, aI 0, aT, aU], [], []⟩)
    (fun L3 => [])
    fol (by kernel_rfl) (fun _ => by kernel_rfl) (fun L3 => trivial) (fun L3 => ?_)
  refine aw_ret ?_
  refine ret_thn ?_
  exact fin_ret none [0] (aN 0) [] (.inr rfl) rfl (by kernel_rfl) trivial (fun w' hb => ⟨rfl, hb⟩)

-- couplant/tune.speedOf
set_option maxRecDepth 100000 in
set_option maxHeartbeats 400000 in
theorem UA.i_72 : CallOb Try.prog 92 #[.agg #[aN 15000000, aN 5000]] [] (.agg #[aN 50000000000, aN 15000000]) := by
  intro w hw
  refine calls_aw [some (.agg #[aN 15000000, aN 5000]), aU, aU, aU, aU, aU, aU, aU, aU] [] Try.func92 rfl (by kernel_rfl) (fun e x h => by cases h) ?_
  refine aw_sr [⟨.new, [], none, true⟩, ⟨.new, [], none, true⟩]
    (fun L1 => ⟨[some (.agg #[aN 15000000, aN 5000]), aP (L1 0).b 0, aP (L1 1).b 0, aU, aU, aU, aU, aU, aU], [.blk ((L1 0).b) [aN 15000000, aN 5000] 123 true, .blk ((L1 1).b) [aN 0, aN 0] 123 true], []⟩)
    (fun L1 => [])
    fol (by kernel_rfl) (fun _ => by kernel_rfl) (fun L1 => trivial) (fun L1 => ?_)
  refine aw_sr [⟨.pure, [], none, true⟩, ⟨(.read 0), [0], none, true⟩, ⟨.pure, [0, 1], none, true⟩, ⟨.pure, [], none, true⟩, ⟨(.read 0), [3], none, true⟩, ⟨.pure, [0, 1, 2, 3, 4], none, true⟩, ⟨(.write 1), [0, 1, 2, 3, 4, 5], none, true⟩]
    (fun L2 => ⟨[some (.agg #[aN 15000000, aN 5000]), aP (L1 0).b 0, aP (L1 1).b 0, aP (L1 0).b 1, aI 5000, aI 50000000000, aP (L1 0).b 0, aI 15000000, some (.agg #[aN 50000000000, aN 15000000])], [.blk ((L1 0).b) [aN 15000000, aN 5000] 123 true, .blk ((L1 1).b) [aN 50000000000, aN 15000000] 123 true], []⟩)
    (fun L2 => [(L1 0).b = (L1 0).b, (L1 0).b = (L1 0).b, (L1 1).b = (L1 1).b, 0 + 2 ≤ 2, 2 = 2, true = true])
    fol (by kernel_rfl) (fun _ => by kernel_rfl) (fun L2 => ⟨rfl, rfl, rfl, (by decide), rfl, rfl, trivial⟩) (fun L2 => ?_)
  refine aw_ret ?_
  exact fin_ret none [1] (.agg #[aN 50000000000, aN 15000000]) [(L1 1).b = (L1 1).b, 0 + 2 ≤ 2] (.inr rfl) rfl (by kernel_rfl) ⟨rfl, (by decide), trivial⟩ (fun w' hb => ⟨rfl, hb⟩)

-- couplant/base.DividedDown
set_option maxRecDepth 100000 in
set_option maxHeartbeats 400000 in
theorem UA.i_73 : CallOb Try.prog 109 #[aN 50000000000, aN 15000000] [] (aN 3333) := by
  intro w hw
  refine calls_aw [aI 50000000000, aI 15000000, aU, aU, aU, aU, aU, aU, aU, aU, aU, aU, aU, aU, aU, aU] [] Try.func109 rfl (by kernel_rfl) (fun e x h => by cases h) ?_
  refine aw_sr [⟨.pure, [], none, true⟩]
    (fun L1 => ⟨[aI 50000000000, aI 15000000, aU, aU, aI 0, aU, aU, aU, aU, aU, aU, aU, aU, aU, aU, aU], [], []⟩)
    (fun L1 => [])
    fol (by kernel_rfl) (fun _ => by kernel_rfl) (fun L1 => trivial) (fun L1 => ?_)
  refine aw_sr [⟨.pure, [], none, true⟩, ⟨.pure, [], none, true⟩, ⟨.pure, [0, 1], none, true⟩, ⟨.pure, [0, 1, 2], none, true⟩]
    (fun L2 => ⟨[aI 50000000000, aI 15000000, aU, aU, aI 0, aI 3333, aI 50000000000, aI 15000000, aI 3333, aU, aU, aU, aU, aU, aU, aU], [], []⟩)
    (fun L2 => [])
    fol (by kernel_rfl) (fun _ => by kernel_rfl) (fun L2 => trivial) (fun L2 => ?_)
  refine aw_seq ?_
  refine aw_sr [⟨.pure, [], none, true⟩, ⟨.pure, [], none, true⟩, ⟨.pure, [0, 1], none, true⟩, ⟨.pure, [0, 1, 2], none, true⟩]
    (fun L3 => ⟨[aI 50000000000, aI 15000000, aU, aU, aI 0, aI 3333, aI 50000000000, aI 15000000, aI 3333, aI 50000000000, aI 15000000, aI 5000000, aF, aU, aU, aU], [], []⟩)
    (fun L3 => [])
    fol (by kernel_rfl) (fun _ => by kernel_rfl) (fun L3 => trivial) (fun L3 => ?_)
  refine aw_false (false) rfl rfl ?_
  refine aw_skip ?_
  refine nrm_thn ?_
  refine aw_sr [⟨.pure, [], none, true⟩, ⟨.pure, [0], none, true⟩]
    (fun L4 => ⟨[aI 50000000000, aI 15000000, aU, aU, aI 3333, aI 3333, aI 50000000000, aI 15000000, aI 3333, aI 50000000000, aI 15000000, aI 5000000, aF, aU, aU, aI 3333], [], []⟩)
    (fun L4 => [])
    fol (by kernel_rfl) (fun _ => by kernel_rfl) (fun L4 => trivial) (fun L4 => ?_)
  refine aw_ret ?_
  exact fin_ret none [0] (aN 3333) [] (.inr rfl) rfl (by kernel_rfl) trivial (fun w' hb => ⟨rfl, hb⟩)

-- (couplant/tune.quotient).down
set_option maxRecDepth 100000 in
set_option maxHeartbeats 400000 in
theorem UA.i_74 : CallOb Try.prog 93 #[.agg #[aN 50000000000, aN 15000000]] [] (aN 3333) := by
  intro w hw
  refine calls_aw [some (.agg #[aN 50000000000, aN 15000000]), aU, aU, aU, aU, aU, aU, aU] [] Try.func93 rfl (by kernel_rfl) (fun e x h => by cases h) ?_
  refine aw_sr [⟨.new, [], none, true⟩, ⟨.pure, [], none, true⟩]
    (fun L1 => ⟨[some (.agg #[aN 50000000000, aN 15000000]), aP (L1 0).b 0, aI 0, aU, aU, aU, aU, aU], [.blk ((L1 0).b) [aN 50000000000, aN 15000000] 123 true], []⟩)
    (fun L1 => [])
    fol (by kernel_rfl) (fun _ => by kernel_rfl) (fun L1 => trivial) (fun L1 => ?_)
  refine aw_sr [⟨.pure, [], none, true⟩, ⟨(.read 0), [0], none, true⟩, ⟨.pure, [], none, true⟩, ⟨(.read 0), [2], none, true⟩, ⟨(.call [] (aN 3333)), [0, 1, 2, 3], none, true⟩, ⟨.pure, [0, 1, 2, 3, 4], none, true⟩]
    (fun L2 => ⟨[some (.agg #[aN 50000000000, aN 15000000]), aP (L1 0).b 0, aI 3333, aP (L1 0).b 0, aI 50000000000, aP (L1 0).b 1, aI 15000000, aI 3333], [.blk ((L1 0).b) [aN 50000000000, aN 15000000] 123 true], []⟩)
    (fun L2 => [(L1 0).b = (L1 0).b, (L1 0).b = (L1 0).b, CallOb Try.prog 109 #[aN 50000000000, aN 15000000] [] (aN 3333)])
    fol (by kernel_rfl) (fun _ => by kernel_rfl) (fun L2 => ⟨rfl, rfl, (callOb_frz (UA.i_73  )), trivial⟩) (fun L2 => ?_)
  refine aw_ret ?_
  exact fin_ret none [0] (aN 3333) [] (.inr rfl) rfl (by kernel_rfl) trivial (fun w' hb => ⟨rfl, hb⟩)

-- couplant/base.DividedDown
set_option maxRecDepth 100000 in
set_option maxHeartbeats 400000 in
theorem UA.i_75 : CallOb Try.prog 109 #[aN (-50000000000), aN 15000000] [] (aN (-3334)) := by
  intro w hw
  refine calls_aw [aI (-50000000000), aI 15000000, aU, aU, aU, aU, aU, aU, aU, aU, aU, aU, aU, aU, aU, aU] [] Try.func109 rfl (by kernel_rfl) (fun e x h => by cases h) ?_
  refine aw_sr [⟨.pure, [], none, true⟩]
    (fun L1 => ⟨[aI (-50000000000), aI 15000000, aU, aU, aI 0, aU, aU, aU, aU, aU, aU, aU, aU, aU, aU, aU], [], []⟩)
    (fun L1 => [])
    fol (by kernel_rfl) (fun _ => by kernel_rfl) (fun L1 => trivial) (fun L1 => ?_)
  refine aw_sr [⟨.pure, [], none, true⟩, ⟨.pure, [], none, true⟩, ⟨.pure, [0, 1], none, true⟩, ⟨.pure, [0, 1, 2], none, true⟩]
    (fun L2 => ⟨[aI (-50000000000), aI 15000000, aU, aU, aI 0, aI (-3333), aI (-50000000000), aI 15000000, aI (-3333), aU, aU, aU, aU, aU, aU, aU], [], []⟩)
    (fun L2 => [])
    fol (by kernel_rfl) (fun _ => by kernel_rfl) (fun L2 => trivial) (fun L2 => ?_)
  refine aw_seq ?_
  refine aw_sr [⟨.pure, [], none, true⟩, ⟨.pure, [], none, true⟩, ⟨.pure, [0, 1], none, true⟩, ⟨.pure, [0, 1, 2], none, true⟩]
    (fun L3 => ⟨[aI (-50000000000), aI 15000000, aU, aU, aI 0, aI (-3333), aI (-50000000000), aI 15000000, aI (-3333), aI (-50000000000), aI 15000000, aI (-5000000), aT, aU, aU, aU], [], []⟩)
    (fun L3 => [])
    fol (by kernel_rfl) (fun _ => by kernel_rfl) (fun L3 => trivial) (fun L3 => ?_)
  refine aw_true (true) rfl rfl ?_
  refine aw_region [⟨.pure, [], none, true⟩, ⟨.pure, [0], none, true⟩, ⟨.pure, [0, 1], none, true⟩]
    (fun L4 => ⟨[aI (-50000000000), aI 15000000, aU, aU, aI 0, aI (-3334), aI (-50000000000), aI 15000000, aI (-3333), aI (-50000000000), aI 15000000, aI (-5000000), aT, aI (-3333), aI (-3334), aU], [], []⟩)
    (fun L4 => [])
    fol (by kernel_rfl) (fun _ => by kernel_rfl) (fun L4 => trivial) (fun L4 => ?_)
  refine nrm_thn ?_
  refine aw_sr [⟨.pure, [], none, true⟩, ⟨.pure, [0], none, true⟩]
    (fun L5 => ⟨[aI (-50000000000), aI 15000000, aU, aU, aI (-3334), aI (-3334), aI (-50000000000), aI 15000000, aI (-3333), aI (-50000000000), aI 15000000, aI (-5000000), aT, aI (-3333), aI (-3334), aI (-3334)], [], []⟩)
    (fun L5 => [])
    fol (by kernel_rfl) (fun _ => by kernel_rfl) (fun L5 => trivial) (fun L5 => ?_)
  refine aw_ret ?_
  exact fin_ret none [0] (aN (-3334)) [] (.inr rfl) rfl (by kernel_rfl) trivial (fun w' hb => ⟨rfl, hb⟩)

-- couplant/base.DividedUp
set_option maxRecDepth 100000 in
set_option maxHeartbeats 400000 in
theorem UA.i_76 : CallOb Try.prog 110 #[aN 50000000000, aN 15000000] [] (aN 3334) := by
  intro w hw
  refine calls_aw [aI 50000000000, aI 15000000, aU, aU, aU, aU, aU, aU, aU, aU] [] Try.func110 rfl (by kernel_rfl) (fun e x h => by cases h) ?_
  refine aw_sr [⟨.pure, [], none, true⟩]
    (fun L1 => ⟨[aI 50000000000, aI 15000000, aU, aU, aI 0, aU, aU, aU, aU, aU], [], []⟩)
    (fun L1 => [])
    fol (by kernel_rfl) (fun _ => by kernel_rfl) (fun L1 => trivial) (fun L1 => ?_)
  refine aw_sr [⟨.pure, [], none, true⟩, ⟨.pure, [0], aI (-50000000000), true⟩, ⟨.pure, [], none, true⟩, ⟨(.call [] (aN (-3334))), [0, 1, 2], none, true⟩, ⟨.pure, [0, 1, 2, 3], aI 3334, true⟩, ⟨.pure, [0, 1, 2, 3, 4], none, true⟩]
    (fun L2 => ⟨[aI 50000000000, aI 15000000, aU, aU, aI 3334, aI 50000000000, aI (-50000000000), aI 15000000, aI (-3334), aI 3334], [], []⟩)
    (fun L2 => [(.int .i64 (IntKind.i64.wrap ((0) - (50000000000))) : Value) = aN (-50000000000), CallOb Try.prog 109 #[aN (-50000000000), aN 15000000] [] (aN (-3334)), (.int .i64 (IntKind.i64.wrap ((0) - (-3334))) : Value) = aN 3334])
    fol (by kernel_rfl) (fun _ => by kernel_rfl) (fun L2 => ⟨rfl, (callOb_frz (UA.i_75  )), rfl, trivial⟩) (fun L2 => ?_)
  refine aw_ret ?_
  exact fin_ret none [0] (aN 3334) [] (.inr rfl) rfl (by kernel_rfl) trivial (fun w' hb => ⟨rfl, hb⟩)

-- (couplant/tune.quotient).up
set_option maxRecDepth 100000 in
set_option maxHeartbeats 400000 in
theorem UA.i_77 : CallOb Try.prog 94 #[.agg #[aN 50000000000, aN 15000000]] [] (aN 3334) := by
  intro w hw
  refine calls_aw [some (.agg #[aN 50000000000, aN 15000000]), aU, aU, aU, aU, aU, aU, aU] [] Try.func94 rfl (by kernel_rfl) (fun e x h => by cases h) ?_
  refine aw_sr [⟨.new, [], none, true⟩, ⟨.pure, [], none, true⟩]
    (fun L1 => ⟨[some (.agg #[aN 50000000000, aN 15000000]), aP (L1 0).b 0, aI 0, aU, aU, aU, aU, aU], [.blk ((L1 0).b) [aN 50000000000, aN 15000000] 123 true], []⟩)
    (fun L1 => [])
    fol (by kernel_rfl) (fun _ => by kernel_rfl) (fun L1 => trivial) (fun L1 => ?_)
  refine aw_sr [⟨.pure, [], none, true⟩, ⟨(.read 0), [0], none, true⟩, ⟨.pure, [], none, true⟩, ⟨(.read 0), [2], none, true⟩, ⟨(.call [] (aN 3334)), [0, 1, 2, 3], none, true⟩, ⟨.pure, [0, 1, 2, 3, 4], none, true⟩]
    (fun L2 => ⟨[some (.agg #[aN 50000000000, aN 15000000]), aP (L1 0).b 0, aI 3334, aP (L1 0).b 0, aI 50000000000, aP (L1 0).b 1, aI 15000000, aI 3334], [.blk ((L1 0).b) [aN 50000000000, aN 15000000] 123 true], []⟩)
    (fun L2 => [(L1 0).b = (L1 0).b, (L1 0).b = (L1 0).b, CallOb Try.prog 110 #[aN 50000000000, aN 15000000] [] (aN 3334)])
    fol (by kernel_rfl) (fun _ => by kernel_rfl) (fun L2 => ⟨rfl, rfl, (callOb_frz (UA.i_76  )), trivial⟩) (fun L2 => ?_)
  refine aw_ret ?_
  exact fin_ret none [0] (aN 3334) [] (.inr rfl) rfl (by kernel_rfl) trivial (fun w' hb => ⟨rfl, hb⟩)

-- couplant/tune.SpeedRange
set_option maxRecDepth 100000 in
set_option maxHeartbeats 400000 in
theorem UA.i_78 (b1 : Nat) : CallOb Try.prog 40 #[.slice (some ⟨b1, 0, none⟩) (2) (2)] [.blk (b1) [aN 2500, aN 20000000, aN 20000000, aN 5000, aN 35000000, aN 35000000] 77 false] (.tuple #[.agg #[aN 3333, aN 3334], aN 0]) := by
  intro w hw
  refine calls_aw [aS b1 0 2 2, aU, aU, aU, aU, aU, aU, aU, aU, aU, aU, aU, aU, aU, aU, aU, aU, aU, aU, aU, aU, aU, aU, aU, aU, aU, aU, aU, aU, aU, aU] [.blk (b1) [aN 2500, aN 20000000, aN 20000000, aN 5000, aN 35000000, aN 35000000] 77 false] Try.func40 rfl (by kernel_rfl) (esOk hw (by simp [Cel.mine])) ?_
  refine aw_sr [⟨.new, [], none, true⟩, ⟨.pure, [], none, true⟩]
    (fun L1 => ⟨[aS b1 0 2 2, aU, aP (L1 0).b 0, aI 0, aU, aU, aU, aU, aU, aU, aU, aU, aU, aU, aU, aU, aU, aU, aU, aU, aU, aU, aU, aU, aU, aU, aU, aU, aU, aU, aU], [.blk (b1) [aN 2500, aN 20000000, aN 20000000, aN 5000, aN 35000000, aN 35000000] 77 false, .blk ((L1 0).b) [aN 0, aN 0] 30 true], []⟩)
    (fun L1 => [])
    fol (by kernel_rfl) (fun _ => by kernel_rfl) (fun L1 => trivial) (fun L1 => ?_)
  refine aw_sr [⟨.pure, [], none, true⟩, ⟨(.call [0] (.tuple #[.agg #[aN 15000000, aN 5000], .agg #[aN 15000000, aN 5000], aN 0])), [0], none, true⟩, ⟨.pure, [0, 1], none, true⟩, ⟨.pure, [0, 1, 2], none, true⟩, ⟨.pure, [0, 1, 2], none, true⟩, ⟨.pure, [0, 1, 2], none, true⟩, ⟨.new, [], none, true⟩, ⟨.new, [], none, true⟩, ⟨(.write 8), [0, 1, 2, 3, 6, 7], none, true⟩, ⟨(.write 9), [0, 1, 2, 3, 4, 6, 7, 8], none, true⟩, ⟨.pure, [0, 1, 2, 3, 4, 5, 6, 7, 8, 9], none, true⟩]
    (fun L2 => ⟨[aS b1 0 2 2, aU, aP (L1 0).b 0, aI 0, aP (L2 6).b 0, aP (L2 7).b 0, aI 0, some (.tuple #[.agg #[aN 15000000, aN 5000], .agg #[aN 15000000, aN 5000], aN 0]), aS b1 0 2 2, some (.tuple #[.agg #[aN 15000000, aN 5000], .agg #[aN 15000000, aN 5000], aN 0]), some (.agg #[aN 15000000, aN 5000]), some (.agg #[aN 15000000, aN 5000]), aI 0, aU, aU, aU, aU, aU, aU, aU, aU, aU, aU, aU, aU, aU, aU, aU, aU, aU, aU], [.blk (b1) [aN 2500, aN 20000000, aN 20000000, aN 5000, aN 35000000, aN 35000000] 77 false, .blk ((L1 0).b) [aN 0, aN 0] 30 true, .blk ((L2 6).b) [aN 15000000, aN 5000] 123 true, .blk ((L2 7).b) [aN 15000000, aN 5000] 123 true], []⟩)
    (fun L2 => [CallOb Try.prog 91 #[.slice (some ⟨b1, 0, none⟩) (2) (2)] [.blk (b1) [aN 2500, aN 20000000, aN 20000000, aN 5000, aN 35000000, aN 35000000] 77 false] (.tuple #[.agg #[aN 15000000, aN 5000], .agg #[aN 15000000, aN 5000], aN 0]), (L2 6).b = (L2 6).b, 0 + 2 ≤ 2, 2 = 2, true = true, (L2 7).b = (L2 7).b, 0 + 2 ≤ 2, 2 = 2, true = true])
    fol (by kernel_rfl) (fun _ => by kernel_rfl) (fun L2 => ⟨(callOb_frz (UA.i_70 (b1) )), rfl, (by decide), rfl, rfl, rfl, (by decide), rfl, rfl, trivial⟩) (fun L2 => ?_)
  refine aw_seq ?_
  refine aw_sr [⟨.pure, [], none, true⟩, ⟨.pure, [], none, true⟩, ⟨(.read 2), [1], none, true⟩, ⟨.pure, [1, 2], none, true⟩, ⟨(.call [] (aN 0)), [1, 2, 3], none, true⟩, ⟨.new, [0, 1, 2, 3, 4], none, true⟩, ⟨(.call [9] (aN 0)), [0, 1, 2, 3, 4, 5], none, true⟩, ⟨.pure, [0, 1, 2, 3, 4, 5, 6], none, true⟩]
    (fun L3 => ⟨[aS b1 0 2 2, aU, aP (L1 0).b 0, aI 0, aP (L2 6).b 0, aP (L2 7).b 0, aI 0, some (.tuple #[.agg #[aN 15000000, aN 5000], .agg #[aN 15000000, aN 5000], aN 0]), aS b1 0 2 2, some (.tuple #[.agg #[aN 15000000, aN 5000], .agg #[aN 15000000, aN 5000], aN 0]), some (.agg #[aN 15000000, aN 5000]), some (.agg #[aN 15000000, aN 5000]), aI 0, aI 0, aP (L2 6).b 0, aI 15000000, aT, aI 0, aS (L3 5).b 0 2 2, aI 0, aU, aU, aU, aU, aU, aU, aU, aU, aU, aU, aU], [.blk (b1) [aN 2500, aN 20000000, aN 20000000, aN 5000, aN 35000000, aN 35000000] 77 false, .blk ((L1 0).b) [aN 0, aN 0] 30 true, .blk ((L2 6).b) [aN 15000000, aN 5000] 123 true, .blk ((L2 7).b) [aN 15000000, aN 5000] 123 true, .blk ((L3 5).b) [aN 0, aN 0] 25 true], []⟩)
    (fun L3 => [(L2 6).b = (L2 6).b, CallOb Try.prog 81 #[.bool (true), aN 11] [] (aN 0), CallOb Try.prog 78 #[.slice (some ⟨(L3 5).b, 0, none⟩) (2) (2)] [.blk ((L3 5).b) [aN 0, aN 0] 25 true] (aN 0)])
    fol (by kernel_rfl) (fun _ => by kernel_rfl) (fun L3 => ⟨rfl, (callOb_frz (UA.i_71  )), (callOb_frz (UA.i_3 ((L3 5).b) )), trivial⟩) (fun L3 => ?_)
  refine aw_sr [⟨.pure, [], none, true⟩, ⟨.pure, [0], none, true⟩]
    (fun L4 => ⟨[aS b1 0 2 2, aU, aP (L1 0).b 0, aI 0, aP (L2 6).b 0, aP (L2 7).b 0, aI 0, some (.tuple #[.agg #[aN 15000000, aN 5000], .agg #[aN 15000000, aN 5000], aN 0]), aS b1 0 2 2, some (.tuple #[.agg #[aN 15000000, aN 5000], .agg #[aN 15000000, aN 5000], aN 0]), some (.agg #[aN 15000000, aN 5000]), some (.agg #[aN 15000000, aN 5000]), aI 0, aI 0, aP (L2 6).b 0, aI 15000000, aT, aI 0, aS (L3 5).b 0 2 2, aI 0, aI 0, aF, aU, aU, aU, aU, aU, aU, aU, aU, aU], [.blk (b1) [aN 2500, aN 20000000, aN 20000000, aN 5000, aN 35000000, aN 35000000] 77 false, .blk ((L1 0).b) [aN 0, aN 0] 30 true, .blk ((L2 6).b) [aN 15000000, aN 5000] 123 true, .blk ((L2 7).b) [aN 15000000, aN 5000] 123 true, .blk ((L3 5).b) [aN 0, aN 0] 25 true], []⟩)
    (fun L4 => [])
    fol (by kernel_rfl) (fun _ => by kernel_rfl) (fun L4 => trivial) (fun L4 => ?_)
  refine aw_false (false) rfl rfl ?_
  refine aw_skip ?_
  refine nrm_thn ?_
  refine aw_sr [⟨(.read 3), [], none, true⟩, ⟨(.call [] (.agg #[aN 50000000000, aN 15000000])), [0], none, true⟩, ⟨(.call [] (aN 3333)), [0, 1], none, true⟩, ⟨(.read 2), [], none, true⟩, ⟨(.call [] (.agg #[aN 50000000000, aN 15000000])), [0, 1, 2, 3], none, true⟩, ⟨(.call [] (aN 3334)), [0, 1, 2, 3, 4], none, true⟩, ⟨.pure, [0, 1, 2, 3, 4, 5], none, true⟩, ⟨(.write 1), [0, 1, 2, 3, 4, 5, 6], none, true⟩, ⟨.pure, [0, 1, 2, 3, 4, 5, 6, 7], none, true⟩]
    (fun L5 => ⟨[aS b1 0 2 2, aU, aP (L1 0).b 0, aI 0, aP (L2 6).b 0, aP (L2 7).b 0, aI 0, some (.tuple #[.agg #[aN 15000000, aN 5000], .agg #[aN 15000000, aN 5000], aN 0]), aS b1 0 2 2, some (.tuple #[.agg #[aN 15000000, aN 5000], .agg #[aN 15000000, aN 5000], aN 0]), some (.agg #[aN 15000000, aN 5000]), some (.agg #[aN 15000000, aN 5000]), aI 0, aI 0, aP (L2 6).b 0, aI 15000000, aT, aI 0, aS (L3 5).b 0 2 2, aI 0, aI 0, aF, aU, aU, some (.agg #[aN 15000000, aN 5000]), some (.agg #[aN 50000000000, aN 15000000]), aI 3333, some (.agg #[aN 15000000, aN 5000]), some (.agg #[aN 50000000000, aN 15000000]), aI 3334, some (.agg #[aN 3333, aN 3334])], [.blk (b1) [aN 2500, aN 20000000, aN 20000000, aN 5000, aN 35000000, aN 35000000] 77 false, .blk ((L1 0).b) [aN 3333, aN 3334] 30 true, .blk ((L2 6).b) [aN 15000000, aN 5000] 123 true, .blk ((L2 7).b) [aN 15000000, aN 5000] 123 true, .blk ((L3 5).b) [aN 0, aN 0] 25 true], []⟩)
    (fun L5 => [(L2 7).b = (L2 7).b, 0 + 2 ≤ 2, CallOb Try.prog 92 #[.agg #[aN 15000000, aN 5000]] [] (.agg #[aN 50000000000, aN 15000000]), CallOb Try.prog 93 #[.agg #[aN 50000000000, aN 15000000]] [] (aN 3333), (L2 6).b = (L2 6).b, 0 + 2 ≤ 2, CallOb Try.prog 92 #[.agg #[aN 15000000, aN 5000]] [] (.agg #[aN 50000000000, aN 15000000]), CallOb Try.prog 94 #[.agg #[aN 50000000000, aN 15000000]] [] (aN 3334), (L1 0).b = (L1 0).b, 0 + 2 ≤ 2, 2 = 2, true = true])
    fol (by kernel_rfl) (fun _ => by kernel_rfl) (fun L5 => ⟨rfl, (by decide), (callOb_frz (UA.i_72  )), (callOb_frz (UA.i_74  )), rfl, (by decide), (callOb_frz (UA.i_72  )), (callOb_frz (UA.i_77  )), rfl, (by decide), rfl, rfl, trivial⟩) (fun L5 => ?_)
  refine aw_ret ?_
  exact fin_ret none [1, 0] (.tuple #[.agg #[aN 3333, aN 3334], aN 0]) [(L1 0).b = (L1 0).b, 0 + 2 ≤ 2] (.inr rfl) rfl (by kernel_rfl) ⟨rfl, (by decide), trivial⟩ (fun w' hb => ⟨rfl, hb⟩)

-- couplant/couplantlaw06.Done
set_option maxRecDepth 100000 in
set_option maxHeartbeats 400000 in
theorem UA.i_79 : CallN Try.prog 74 #[] [] (fun l => .slice (some ⟨l.b, 0, none⟩) (2) (2)) (fun l => .blk (l.b) [aN 0, aN 0, aN 200, aN 10, aN 1, aN 210] 110 true) := by
  intro w hw
  refine calls_aw [aU, aU, aU, aU] [] Try.func74 rfl (by kernel_rfl) (fun e x h => by cases h) ?_
  refine aw_sr [⟨.pure, [], none, true⟩]
    (fun L1 => ⟨[some (.slice none 0 0), aU, aU, aU], [], []⟩)
    (fun L1 => [])
    fol (by kernel_rfl) (fun _ => by kernel_rfl) (fun L1 => trivial) (fun L1 => ?_)
  refine aw_sr [⟨.pure, [], none, true⟩, ⟨.pure, [], none, true⟩, ⟨.new, [0, 1], none, true⟩, ⟨.pure, [0, 1, 2], none, true⟩]
    (fun L2 => ⟨[aS (L2 2).b 0 2 2, some (.agg #[aN 0, aN 0, aN 200]), some (.agg #[aN 10, aN 1, aN 210]), aS (L2 2).b 0 2 2], [.blk ((L2 2).b) [aN 0, aN 0, aN 200, aN 10, aN 1, aN 210] 110 true], []⟩)
    (fun L2 => [])
    fol (by kernel_rfl) (fun _ => by kernel_rfl) (fun L2 => trivial) (fun L2 => ?_)
  refine aw_ret ?_
  exact fin_new none [0] (.slice (some ⟨(L2 2).b, 0, none⟩) (2) (2)) [] (⟨(L2 2).b, none, 0⟩) (fun l => .slice (some ⟨l.b, 0, none⟩) (2) (2)) (fun l => .blk (l.b) [aN 0, aN 0, aN 200, aN 10, aN 1, aN 210] 110 true) 0 (.inr rfl) rfl (by kernel_rfl) trivial rfl rfl rfl

-- couplant/base.LengthError
set_option maxRecDepth 100000 in
set_option maxHeartbeats 400000 in
theorem UA.i_80 : CallOb Try.prog 75 #[aN 2, aN 10] [] (aN 0) := by
  intro w hw
  refine calls_aw [aI 2, aI 10, aU, aU, aU, aU, aU, aU, aU, aU, aU, aU, aU, aU] [] Try.func75 rfl (by kernel_rfl) (fun e x h => by cases h) ?_
  refine aw_sr [⟨.pure, [], none, true⟩]
    (fun L1 => ⟨[aI 2, aI 10, aU, aU, aI 0, aU, aU, aU, aU, aU, aU, aU, aU, aU], [], []⟩)
    (fun L1 => [])
    fol (by kernel_rfl) (fun _ => by kernel_rfl) (fun L1 => trivial) (fun L1 => ?_)
  refine aw_sr [⟨.pure, [], none, true⟩, ⟨.pure, [0], none, true⟩, ⟨(.call [] (aN 0)), [0, 1], none, true⟩, ⟨.pure, [], none, true⟩, ⟨.pure, [], none, true⟩, ⟨.pure, [3, 4], none, true⟩, ⟨(.call [] (aN 0)), [0, 1, 2, 3, 4, 5], none, true⟩, ⟨.new, [0, 1, 2, 3, 4, 5, 6], none, true⟩, ⟨(.call [7] (aN 0)), [0, 1, 2, 3, 4, 5, 6, 7], none, true⟩, ⟨.pure, [0, 1, 2, 3, 4, 5, 6, 7, 8], none, true⟩]
    (fun L2 => ⟨[aI 2, aI 10, aU, aU, aI 0, aI 2, aT, aI 0, aI 2, aI 10, aT, aI 0, aS (L2 7).b 0 2 2, aI 0], [.blk ((L2 7).b) [aN 0, aN 0] 25 true], []⟩)
    (fun L2 => [CallOb Try.prog 81 #[.bool (true), aN 10] [] (aN 0), CallOb Try.prog 81 #[.bool (true), aN 8] [] (aN 0), CallOb Try.prog 78 #[.slice (some ⟨(L2 7).b, 0, none⟩) (2) (2)] [.blk ((L2 7).b) [aN 0, aN 0] 25 true] (aN 0)])
    fol (by kernel_rfl) (fun _ => by kernel_rfl) (fun L2 => ⟨(callOb_frz (UA.i_1  )), (callOb_frz (UA.i_2  )), (callOb_frz (UA.i_3 ((L2 7).b) )), trivial⟩) (fun L2 => ?_)
  refine aw_ret ?_
  exact fin_ret none [0] (aN 0) [] (.inr rfl) rfl (by kernel_rfl) trivial (fun w' hb => ⟨rfl, hb⟩)

-- couplant/base.isLetter
set_option maxRecDepth 100000 in
set_option maxHeartbeats 400000 in
theorem UA.i_81 : CallOb Try.prog 151 #[.int .u8 (119)] [] (.bool (true)) := by
  intro w hw
  refine calls_aw [some (.int .u8 (119)), aU, aU, aU, aU, aU, aU, aU, aU, aU, aU, aU, aU, aU, aU, aU, aU] [] Try.func151 rfl (by kernel_rfl) (fun e x h => by cases h) ?_
  refine aw_sr [⟨.pure, [], none, true⟩]
    (fun L1 => ⟨[some (.int .u8 (119)), aU, aF, aU, aU, aU, aU, aU, aU, aU, aU, aU, aU, aU, aU, aU, aU], [], []⟩)
    (fun L1 => [])
    fol (by kernel_rfl) (fun _ => by kernel_rfl) (fun L1 => trivial) (fun L1 => ?_)
  refine aw_sr [⟨.pure, [], none, true⟩, ⟨.pure, [0], none, true⟩, ⟨.pure, [0, 1], none, true⟩, ⟨.pure, [0, 1, 2], none, true⟩, ⟨.pure, [0, 1, 2, 3], none, true⟩, ⟨.pure, [0, 1, 2, 3, 4], aF, true⟩, ⟨.pure, [0, 1, 2, 3, 4, 5], none, true⟩, ⟨.pure, [0, 1, 2, 3, 4, 5, 6], none, true⟩, ⟨.pure, [0, 1, 2, 3, 4, 5, 6, 7], none, true⟩, ⟨.pure, [0, 1, 2, 3, 4, 5, 6, 7, 8], none, true⟩, ⟨.pure, [0, 1, 2, 3, 4, 5, 6, 7, 8, 9], none, true⟩, ⟨.pure, [0, 1, 2, 3, 4, 5, 6, 7, 8, 9, 10], none, true⟩, ⟨.pure, [0, 1, 2, 3, 4, 5, 6, 7, 8, 9, 10, 11], aT, true⟩, ⟨.pure, [0, 1, 2, 3, 4, 5, 6, 7, 8, 9, 10, 11, 12], aT, true⟩, ⟨.pure, [0, 1, 2, 3, 4, 5, 6, 7, 8, 9, 10, 11, 12, 13], none, true⟩]
    (fun L2 => ⟨[some (.int .u8 (119)), aU, aT, some (.int .u8 (119)), aT, aT, some (.int .u8 (119)), aF, aF, aF, some (.int .u8 (119)), aT, aT, some (.int .u8 (119)), aT, aT, aT], [], []⟩)
    (fun L2 => [(true) = true, (true) = true, (.bool (false) : Value) = .bool (false), (false) = false, (false) = false, (false) = false, (true) = true, (true) = true, (false) = false, (.bool (true) : Value) = .bool (true), (.bool (true) : Value) = .bool (true)])
    fol (by kernel_rfl) (fun _ => by kernel_rfl) (fun L2 => ⟨rfl, rfl, rfl, rfl, rfl, rfl, rfl, rfl, rfl, rfl, rfl, trivial⟩) (fun L2 => ?_)
  refine aw_ret ?_
  exact fin_ret none [0] (.bool (true)) [] (.inr rfl) rfl (by kernel_rfl) trivial (fun w' hb => ⟨rfl, hb⟩)

-- couplant/base.isLetter
set_option maxRecDepth 100000 in
set_option maxHeartbeats 400000 in
theorem UA.i_82 : CallOb Try.prog 151 #[.int .u8 (101)] [] (.bool (true)) := by
  intro w hw
  refine calls_aw [some (.int .u8 (101)), aU, aU, aU, aU, aU, aU, aU, aU, aU, aU, aU, aU, aU, aU, aU, aU] [] Try.func151 rfl (by kernel_rfl) (fun e x h => by cases h) ?_
  refine aw_sr [⟨.pure, [], none, true⟩]
    (fun L1 => ⟨[some (.int .u8 (101)), aU, aF, aU, aU, aU, aU, aU, aU, aU, aU, aU, aU, aU, aU, aU, aU], [], []⟩)
    (fun L1 => [])
    fol (by kernel_rfl) (fun _ => by kernel_rfl) (fun L1 => trivial) (fun L1 => ?_)
  refine aw_sr [⟨.pure, [], none, true⟩, ⟨.pure, [0], none, true⟩, ⟨.pure, [0, 1], none, true⟩, ⟨.pure, [0, 1, 2], none, true⟩, ⟨.pure, [0, 1, 2, 3], none, true⟩, ⟨.pure, [0, 1, 2, 3, 4], aF, true⟩, ⟨.pure, [0, 1, 2, 3, 4, 5], none, true⟩, ⟨.pure, [0, 1, 2, 3, 4, 5, 6], none, true⟩, ⟨.pure, [0, 1, 2, 3, 4, 5, 6, 7], none, true⟩, ⟨.pure, [0, 1, 2, 3, 4, 5, 6, 7, 8], none, true⟩, ⟨.pure, [0, 1, 2, 3, 4, 5, 6, 7, 8, 9], none, true⟩, ⟨.pure, [0, 1, 2, 3, 4, 5, 6, 7, 8, 9, 10], none, true⟩, ⟨.pure, [0, 1, 2, 3, 4, 5, 6, 7, 8, 9, 10, 11], aT, true⟩, ⟨.pure, [0, 1, 2, 3, 4, 5, 6, 7, 8, 9, 10, 11, 12], aT, true⟩, ⟨.pure, [0, 1, 2, 3, 4, 5, 6, 7, 8, 9, 10, 11, 12, 13], none, true⟩]
    (fun L2 => ⟨[some (.int .u8 (101)), aU, aT, some (.int .u8 (101)), aT, aT, some (.int .u8 (101)), aF, aF, aF, some (.int .u8 (101)), aT, aT, some (.int .u8 (101)), aT, aT, aT], [], []⟩)
    (fun L2 => [(true) = true, (true) = true, (.bool (false) : Value) = .bool (false), (false) = false, (false) = false, (false) = false, (true) = true, (true) = true, (false) = false, (.bool (true) : Value) = .bool (true), (.bool (true) : Value) = .bool (true)])
    fol (by kernel_rfl) (fun _ => by kernel_rfl) (fun L2 => ⟨rfl, rfl, rfl, rfl, rfl, rfl, rfl, rfl, rfl, rfl, rfl, trivial⟩) (fun L2 => ?_)
  refine aw_ret ?_
  exact fin_ret none [0] (.bool (true)) [] (.inr rfl) rfl (by kernel_rfl) trivial (fun w' hb => ⟨rfl, hb⟩)

-- couplant/base.isLetter
set_option maxRecDepth 100000 in
set_option maxHeartbeats 400000 in
theorem UA.i_83 : CallOb Try.prog 151 #[.int .u8 (100)] [] (.bool (true)) := by
  intro w hw
  refine calls_aw [some (.int .u8 (100)), aU, aU, aU, aU, aU, aU, aU, aU, aU, aU, aU, aU, aU, aU, aU, aU] [] Try.func151 rfl (by kernel_rfl) (fun e x h => by cases h) ?_
  refine aw_sr [⟨.pure, [], none, true⟩]
    (fun L1 => ⟨[some (.int .u8 (100)), aU, aF, aU, aU, aU, aU, aU, aU, aU, aU, aU, aU, aU, aU, aU, aU], [], []⟩)
    (fun L1 => [])
    fol (by kernel_rfl) (fun _ => by kernel_rfl) (fun L1 => trivial) (fun L1 => ?_)
  refine aw_sr [⟨.pure, [], none, true⟩, ⟨.pure, [0], none, true⟩, ⟨.pure, [0, 1], none, true⟩, ⟨.pure, [0, 1, 2], none, true⟩, ⟨.pure, [0, 1, 2, 3], none, true⟩, ⟨.pure, [0, 1, 2, 3, 4], aF, true⟩, ⟨.pure, [0, 1, 2, 3, 4, 5], none, true⟩, ⟨.pure, [0, 1, 2, 3, 4, 5, 6], none, true⟩, ⟨.pure, [0, 1, 2, 3, 4, 5, 6, 7], none, true⟩, ⟨.pure, [0, 1, 2, 3, 4, 5, 6, 7, 8], none, true⟩, ⟨.pure, [0, 1, 2, 3, 4, 5, 6, 7, 8, 9], none, true⟩, ⟨.pure, [0, 1, 2, 3, 4, 5, 6, 7, 8, 9, 10], none, true⟩, ⟨.pure, [0, 1, 2, 3, 4, 5, 6, 7, 8, 9, 10, 11], aT, true⟩, ⟨.pure, [0, 1, 2, 3, 4, 5, 6, 7, 8, 9, 10, 11, 12], aT, true⟩, ⟨.pure, [0, 1, 2, 3, 4, 5, 6, 7, 8, 9, 10, 11, 12, 13], none, true⟩]
    (fun L2 => ⟨[some (.int .u8 (100)), aU, aT, some (.int .u8 (100)), aT, aT, some (.int .u8 (100)), aF, aF, aF, some (.int .u8 (100)), aT, aT, some (.int .u8 (100)), aT, aT, aT], [], []⟩)
    (fun L2 => [(true) = true, (true) = true, (.bool (false) : Value) = .bool (false), (false) = false, (false) = false, (false) = false, (true) = true, (true) = true, (false) = false, (.bool (true) : Value) = .bool (true), (.bool (true) : Value) = .bool (true)])
    fol (by kernel_rfl) (fun _ => by kernel_rfl) (fun L2 => ⟨rfl, rfl, rfl, rfl, rfl, rfl, rfl, rfl, rfl, rfl, rfl, trivial⟩) (fun L2 => ?_)
  refine aw_ret ?_
  exact fin_ret none [0] (.bool (true)) [] (.inr rfl) rfl (by kernel_rfl) trivial (fun w' hb => ⟨rfl, hb⟩)

-- couplant/base.isLetter
set_option maxRecDepth 100000 in
set_option maxHeartbeats 400000 in
theorem UA.i_84 : CallOb Try.prog 151 #[.int .u8 (103)] [] (.bool (true)) := by
  intro w hw
  refine calls_aw [some (.int .u8 (103)), aU, aU, aU, aU, aU, aU, aU, aU, aU, aU, aU, aU, aU, aU, aU, aU] [] Try.func151 rfl (by kernel_rfl) (fun e x h => by cases h) ?_
  refine aw_sr [⟨.pure, [], none, true⟩]
    (fun L1 => ⟨[some (.int .u8 (103)), aU, aF, aU, aU, aU, aU, aU, aU, aU, aU, aU, aU, aU, aU, aU, aU], [], []⟩)
    (fun L1 => [])
    fol (by kernel_rfl) (fun _ => by kernel_rfl) (fun L1 => trivial) (fun L1 => ?_)
  refine aw_sr [⟨.pure, [], none, true⟩, ⟨.pure, [0], none, true⟩, ⟨.pure, [0, 1], none, true⟩, ⟨.pure, [0, 1, 2], none, true⟩, ⟨.pure, [0, 1, 2, 3], none, true⟩, ⟨.pure, [0, 1, 2, 3, 4], aF, true⟩, ⟨.pure, [0, 1, 2, 3, 4, 5], none, true⟩, ⟨.pure, [0, 1, 2, 3, 4, 5, 6], none, true⟩, ⟨.pure, [0, 1, 2, 3, 4, 5, 6, 7], none, true⟩, ⟨.pure, [0, 1, 2, 3, 4, 5, 6, 7, 8], none, true⟩, ⟨.pure, [0, 1, 2, 3, 4, 5, 6, 7, 8, 9], none, true⟩, ⟨.pure, [0, 1, 2, 3, 4, 5, 6, 7, 8, 9, 10], none, true⟩, ⟨.pure, [0, 1, 2, 3, 4, 5, 6, 7, 8, 9, 10, 11], aT, true⟩, ⟨.pure, [0, 1, 2, 3, 4, 5, 6, 7, 8, 9, 10, 11, 12], aT, true⟩, ⟨.pure, [0, 1, 2, 3, 4, 5, 6, 7, 8, 9, 10, 11, 12, 13], none, true⟩]
    (fun L2 => ⟨[some (.int .u8 (103)), aU, aT, some (.int .u8 (103)), aT, aT, some (.int .u8 (103)), aF, aF, aF, some (.int .u8 (103)), aT, aT, some (.int .u8 (103)), aT, aT, aT], [], []⟩)
    (fun L2 => [(true) = true, (true) = true, (.bool (false) : Value) = .bool (false), (false) = false, (false) = false, (false) = false, (true) = true, (true) = true, (false) = false, (.bool (true) : Value) = .bool (true), (.bool (true) : Value) = .bool (true)])
    fol (by kernel_rfl) (fun _ => by kernel_rfl) (fun L2 => ⟨rfl, rfl, rfl, rfl, rfl, rfl, rfl, rfl, rfl, rfl, rfl, trivial⟩) (fun L2 => ?_)
  refine aw_ret ?_
  exact fin_ret none [0] (.bool (true)) [] (.inr rfl) rfl (by kernel_rfl) trivial (fun w' hb => ⟨rfl, hb⟩)

-- couplant/base.Within
set_option maxRecDepth 100000 in
set_option maxHeartbeats 400000 in
theorem UA.i_85 : CallOb Try.prog 127 #[aN 5, aN 1, aN 12] [] (.bool (true)) := by
  intro w hw
  refine calls_aw [aI 5, aI 1, aI 12, aU, aU, aU, aU, aU, aU, aU, aU, aU, aU, aU, aU] [] Try.func127 rfl (by kernel_rfl) (fun e x h => by cases h) ?_
  refine aw_sr [⟨.pure, [], none, true⟩]
    (fun L1 => ⟨[aI 5, aI 1, aI 12, aU, aU, aU, aF, aU, aU, aU, aU, aU, aU, aU, aU], [], []⟩)
    (fun L1 => [])
    fol (by kernel_rfl) (fun _ => by kernel_rfl) (fun L1 => trivial) (fun L1 => ?_)
  refine aw_sr [⟨.pure, [], none, true⟩, ⟨.pure, [], none, true⟩, ⟨.pure, [0, 1], none, true⟩, ⟨.pure, [0, 1, 2], none, true⟩, ⟨.pure, [0, 1, 2, 3], none, true⟩, ⟨.pure, [0, 1, 2, 3], none, true⟩, ⟨.pure, [0, 1, 2, 3, 4, 5], none, true⟩, ⟨.pure, [0, 1, 2, 3, 4, 5, 6], aT, true⟩, ⟨.pure, [0, 1, 2, 3, 4, 5, 6, 7], none, true⟩]
    (fun L2 => ⟨[aI 5, aI 1, aI 12, aU, aU, aU, aT, aI 1, aI 5, aT, aT, aI 5, aI 12, aT, aT], [], []⟩)
    (fun L2 => [(true) = true, (true) = true, (true) = true, (.bool (true) : Value) = .bool (true)])
    fol (by kernel_rfl) (fun _ => by kernel_rfl) (fun L2 => ⟨rfl, rfl, rfl, rfl, trivial⟩) (fun L2 => ?_)
  refine aw_ret ?_
  exact fin_ret none [0] (.bool (true)) [] (.inr rfl) rfl (by kernel_rfl) trivial (fun w' hb => ⟨rfl, hb⟩)

end Go.Proofs.Ytipckfokanlcoaa
