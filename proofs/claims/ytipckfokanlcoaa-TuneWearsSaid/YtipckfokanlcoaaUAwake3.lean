/-
  AWAKE of chapter 6, at its fixed arguments.
-/
import Derived.Test.YtipckfokanlcoaaUAwake2
set_option linter.unusedVariables false
set_option linter.unusedSimpArgs false
namespace Go.Proofs.Ytipckfokanlcoaa
open Go Go.RowKit

open Ag
-- slices.IndexFunc[[]int,int]
set_option maxRecDepth 100000 in
set_option maxHeartbeats 400000 in
theorem UA.i_142 (b1 b2 b3 b4 : Nat) : CallOb Try.prog 161 #[.slice (some ⟨b1, 0, none⟩) (1) (1), .func (.func 156) #[] #[.pointer (some ⟨b2, 0, none⟩), .pointer (some ⟨b4, 0, none⟩)]] [.blk (b1) [aN 0] 3 false, .blk (b2) [.slice (some ⟨b3, 0, none⟩) (2) (2)] 46 false, .blk (b3) [aN 100, aN (-1)] 3 false, .blk (b4) [aN 10, aN 1, aN 210] 110 false] (aN (-1)) := by
  intro w hw
  refine calls_aw [aS b1 0 1 1, some (.func (.func 156) #[] #[.pointer (some ⟨b2, 0, none⟩), .pointer (some ⟨b4, 0, none⟩)]), aU, aU, aU, aU, aU, aU, aU, aU, aU, aU, aU, aU, aU, aU, aU, aU, aU] [.blk (b1) [aN 0] 3 false, .blk (b2) [.slice (some ⟨b3, 0, none⟩) (2) (2)] 46 false, .blk (b3) [aN 100, aN (-1)] 3 false, .blk (b4) [aN 10, aN 1, aN 210] 110 false] Try.func161 rfl (by kernel_rfl) (esOk hw (by simp [Cel.mine])) ?_
  refine aw_sr [⟨.pure, [], none, true⟩]
    (fun L1 => ⟨[aS b1 0 1 1, some (.func (.func 156) #[] #[.pointer (some ⟨b2, 0, none⟩), .pointer (some ⟨b4, 0, none⟩)]), aU, aU, aI 0, aU, aU, aU, aU, aU, aU, aU, aU, aU, aU, aU, aU, aU, aU], [.blk (b1) [aN 0] 3 false, .blk (b2) [.slice (some ⟨b3, 0, none⟩) (2) (2)] 46 false, .blk (b3) [aN 100, aN (-1)] 3 false, .blk (b4) [aN 10, aN 1, aN 210] 110 false], []⟩)
    (fun L1 => [])
    fol (by kernel_rfl) (fun _ => by kernel_rfl) (fun L1 => trivial) (fun L1 => ?_)
  refine aw_seq ?_
  refine aw_sr [⟨.pure, [], none, true⟩, ⟨.pure, [0], none, true⟩, ⟨.pure, [], none, true⟩]
    (fun L2 => ⟨[aS b1 0 1 1, some (.func (.func 156) #[] #[.pointer (some ⟨b2, 0, none⟩), .pointer (some ⟨b4, 0, none⟩)]), aU, aU, aI 0, aU, aS b1 0 1 1, aI 1, aI 0, aU, aU, aU, aU, aU, aU, aU, aU, aU, aU], [.blk (b1) [aN 0] 3 false, .blk (b2) [.slice (some ⟨b3, 0, none⟩) (2) (2)] 46 false, .blk (b3) [aN 100, aN (-1)] 3 false, .blk (b4) [aN 10, aN 1, aN 210] 110 false], []⟩)
    (fun L2 => [])
    fol (by kernel_rfl) (fun _ => by kernel_rfl) (fun L2 => trivial) (fun L2 => ?_)
  refine aw_block ?_
  refine aw_rounds 2 ?_
  refine aw_round ?_
  refine aw_sr [⟨.pure, [], none, true⟩]
    (fun L3 => ⟨[aS b1 0 1 1, some (.func (.func 156) #[] #[.pointer (some ⟨b2, 0, none⟩), .pointer (some ⟨b4, 0, none⟩)]), aU, aU, aI 0, aU, aS b1 0 1 1, aI 1, aI 0, aT, aU, aU, aU, aU, aU, aU, aU, aU, aU], [.blk (b1) [aN 0] 3 false, .blk (b2) [.slice (some ⟨b3, 0, none⟩) (2) (2)] 46 false, .blk (b3) [aN 100, aN (-1)] 3 false, .blk (b4) [aN 10, aN 1, aN 210] 110 false], []⟩)
    (fun L3 => [])
    fol (by kernel_rfl) (fun _ => by kernel_rfl) (fun L3 => trivial) (fun L3 => ?_)
  refine aw_seq ?_
  refine aw_true (true) rfl rfl ?_
  refine aw_skip ?_
  refine nrm_thn ?_
  refine aw_seq ?_
  refine aw_block ?_
  refine aw_sr [⟨.pure, [], none, true⟩, ⟨.pure, [0], none, true⟩]
    (fun L4 => ⟨[aS b1 0 1 1, some (.func (.func 156) #[] #[.pointer (some ⟨b2, 0, none⟩), .pointer (some ⟨b4, 0, none⟩)]), aU, aU, aI 0, aI 0, aS b1 0 1 1, aI 1, aI 0, aT, aI 0, aU, aU, aU, aU, aU, aU, aU, aU], [.blk (b1) [aN 0] 3 false, .blk (b2) [.slice (some ⟨b3, 0, none⟩) (2) (2)] 46 false, .blk (b3) [aN 100, aN (-1)] 3 false, .blk (b4) [aN 10, aN 1, aN 210] 110 false], []⟩)
    (fun L4 => [])
    fol (by kernel_rfl) (fun _ => by kernel_rfl) (fun L4 => trivial) (fun L4 => ?_)
  refine aw_sr [⟨.pure, [], none, true⟩, ⟨.pure, [], none, true⟩, ⟨.pure, [], none, true⟩, ⟨.pure, [1, 2], none, true⟩, ⟨(.read 0), [1, 2, 3], none, true⟩, ⟨(.call [1, 2, 3] (.bool (false))), [0, 1, 2, 3, 4], none, true⟩]
    (fun L5 => ⟨[aS b1 0 1 1, some (.func (.func 156) #[] #[.pointer (some ⟨b2, 0, none⟩), .pointer (some ⟨b4, 0, none⟩)]), aU, aU, aI 0, aI 0, aS b1 0 1 1, aI 1, aI 0, aT, aI 0, some (.func (.func 156) #[] #[.pointer (some ⟨b2, 0, none⟩), .pointer (some ⟨b4, 0, none⟩)]), aS b1 0 1 1, aI 0, aP b1 0, aI 0, aF, aU, aU], [.blk (b1) [aN 0] 3 false, .blk (b2) [.slice (some ⟨b3, 0, none⟩) (2) (2)] 46 false, .blk (b3) [aN 100, aN (-1)] 3 false, .blk (b4) [aN 10, aN 1, aN 210] 110 false], []⟩)
    (fun L5 => [b1 = b1, CallOb Try.prog 156 #[aN 0, .pointer (some ⟨b2, 0, none⟩), .pointer (some ⟨b4, 0, none⟩)] [.blk (b2) [.slice (some ⟨b3, 0, none⟩) (2) (2)] 46 false, .blk (b3) [aN 100, aN (-1)] 3 false, .blk (b4) [aN 10, aN 1, aN 210] 110 false] (.bool (false))])
    fol (by kernel_rfl) (fun _ => by kernel_rfl) (fun L5 => ⟨rfl, (callOb_frz (UA.i_141 (b2) (b3) (b4) )), trivial⟩) (fun L5 => ?_)
  refine aw_false (false) rfl rfl ?_
  refine aw_skip ?_
  refine nrm_inB ?_
  refine nrm_thn ?_
  refine aw_region [⟨.pure, [], none, true⟩, ⟨.pure, [0], none, true⟩]
    (fun L6 => ⟨[aS b1 0 1 1, some (.func (.func 156) #[] #[.pointer (some ⟨b2, 0, none⟩), .pointer (some ⟨b4, 0, none⟩)]), aU, aU, aI 0, aI 0, aS b1 0 1 1, aI 1, aI 1, aT, aI 0, some (.func (.func 156) #[] #[.pointer (some ⟨b2, 0, none⟩), .pointer (some ⟨b4, 0, none⟩)]), aS b1 0 1 1, aI 0, aP b1 0, aI 0, aF, aU, aI 1], [.blk (b1) [aN 0] 3 false, .blk (b2) [.slice (some ⟨b3, 0, none⟩) (2) (2)] 46 false, .blk (b3) [aN 100, aN (-1)] 3 false, .blk (b4) [aN 10, aN 1, aN 210] 110 false], []⟩)
    (fun L6 => [])
    fol (by kernel_rfl) (fun _ => by kernel_rfl) (fun L6 => trivial) (fun L6 => ?_)
  refine nrm_thn ?_
  refine aw_round ?_
  refine aw_sr [⟨.pure, [], none, true⟩]
    (fun L7 => ⟨[aS b1 0 1 1, some (.func (.func 156) #[] #[.pointer (some ⟨b2, 0, none⟩), .pointer (some ⟨b4, 0, none⟩)]), aU, aU, aI 0, aI 0, aS b1 0 1 1, aI 1, aI 1, aF, aI 0, some (.func (.func 156) #[] #[.pointer (some ⟨b2, 0, none⟩), .pointer (some ⟨b4, 0, none⟩)]), aS b1 0 1 1, aI 0, aP b1 0, aI 0, aF, aU, aI 1], [.blk (b1) [aN 0] 3 false, .blk (b2) [.slice (some ⟨b3, 0, none⟩) (2) (2)] 46 false, .blk (b3) [aN 100, aN (-1)] 3 false, .blk (b4) [aN 10, aN 1, aN 210] 110 false], []⟩)
    (fun L7 => [])
    fol (by kernel_rfl) (fun _ => by kernel_rfl) (fun L7 => trivial) (fun L7 => ?_)
  refine aw_seq ?_
  refine aw_false (false) rfl rfl ?_
  refine aw_exit ?_
  refine ex_thn ?_
  refine ex_thn ?_
  refine ex_hit ?_
  refine nrm_thn ?_
  refine aw_sr [⟨.pure, [], none, true⟩]
    (fun L8 => ⟨[aS b1 0 1 1, some (.func (.func 156) #[] #[.pointer (some ⟨b2, 0, none⟩), .pointer (some ⟨b4, 0, none⟩)]), aU, aU, aI (-1), aI 0, aS b1 0 1 1, aI 1, aI 1, aF, aI 0, some (.func (.func 156) #[] #[.pointer (some ⟨b2, 0, none⟩), .pointer (some ⟨b4, 0, none⟩)]), aS b1 0 1 1, aI 0, aP b1 0, aI 0, aF, aU, aI 1], [.blk (b1) [aN 0] 3 false, .blk (b2) [.slice (some ⟨b3, 0, none⟩) (2) (2)] 46 false, .blk (b3) [aN 100, aN (-1)] 3 false, .blk (b4) [aN 10, aN 1, aN 210] 110 false], []⟩)
    (fun L8 => [])
    fol (by kernel_rfl) (fun _ => by kernel_rfl) (fun L8 => trivial) (fun L8 => ?_)
  refine aw_ret ?_
  exact fin_ret none [0] (aN (-1)) [] (.inr rfl) rfl (by kernel_rfl) trivial (fun w' hb => ⟨rfl, hb⟩)

-- slices.ContainsFunc[[]int,int]
set_option maxRecDepth 100000 in
set_option maxHeartbeats 400000 in
theorem UA.i_143 (b1 b2 b3 b4 : Nat) : CallOb Try.prog 157 #[.slice (some ⟨b1, 0, none⟩) (1) (1), .func (.func 156) #[] #[.pointer (some ⟨b2, 0, none⟩), .pointer (some ⟨b4, 0, none⟩)]] [.blk (b1) [aN 0] 3 false, .blk (b2) [.slice (some ⟨b3, 0, none⟩) (2) (2)] 46 false, .blk (b3) [aN 100, aN (-1)] 3 false, .blk (b4) [aN 10, aN 1, aN 210] 110 false] (.bool (false)) := by
  intro w hw
  refine calls_aw [aS b1 0 1 1, some (.func (.func 156) #[] #[.pointer (some ⟨b2, 0, none⟩), .pointer (some ⟨b4, 0, none⟩)]), aU, aU, aU, aU, aU, aU, aU] [.blk (b1) [aN 0] 3 false, .blk (b2) [.slice (some ⟨b3, 0, none⟩) (2) (2)] 46 false, .blk (b3) [aN 100, aN (-1)] 3 false, .blk (b4) [aN 10, aN 1, aN 210] 110 false] Try.func157 rfl (by kernel_rfl) (esOk hw (by simp [Cel.mine])) ?_
  refine aw_sr [⟨.pure, [], none, true⟩]
    (fun L1 => ⟨[aS b1 0 1 1, some (.func (.func 156) #[] #[.pointer (some ⟨b2, 0, none⟩), .pointer (some ⟨b4, 0, none⟩)]), aU, aU, aF, aU, aU, aU, aU], [.blk (b1) [aN 0] 3 false, .blk (b2) [.slice (some ⟨b3, 0, none⟩) (2) (2)] 46 false, .blk (b3) [aN 100, aN (-1)] 3 false, .blk (b4) [aN 10, aN 1, aN 210] 110 false], []⟩)
    (fun L1 => [])
    fol (by kernel_rfl) (fun _ => by kernel_rfl) (fun L1 => trivial) (fun L1 => ?_)
  refine aw_sr [⟨.pure, [], none, true⟩, ⟨.pure, [], none, true⟩, ⟨(.call [0, 1, 2, 3] (aN (-1))), [0, 1], none, true⟩, ⟨.pure, [0, 1, 2], none, true⟩, ⟨.pure, [0, 1, 2, 3], none, true⟩]
    (fun L2 => ⟨[aS b1 0 1 1, some (.func (.func 156) #[] #[.pointer (some ⟨b2, 0, none⟩), .pointer (some ⟨b4, 0, none⟩)]), aU, aU, aF, aS b1 0 1 1, some (.func (.func 156) #[] #[.pointer (some ⟨b2, 0, none⟩), .pointer (some ⟨b4, 0, none⟩)]), aI (-1), aF], [.blk (b1) [aN 0] 3 false, .blk (b2) [.slice (some ⟨b3, 0, none⟩) (2) (2)] 46 false, .blk (b3) [aN 100, aN (-1)] 3 false, .blk (b4) [aN 10, aN 1, aN 210] 110 false], []⟩)
    (fun L2 => [CallOb Try.prog 161 #[.slice (some ⟨b1, 0, none⟩) (1) (1), .func (.func 156) #[] #[.pointer (some ⟨b2, 0, none⟩), .pointer (some ⟨b4, 0, none⟩)]] [.blk (b1) [aN 0] 3 false, .blk (b2) [.slice (some ⟨b3, 0, none⟩) (2) (2)] 46 false, .blk (b3) [aN 100, aN (-1)] 3 false, .blk (b4) [aN 10, aN 1, aN 210] 110 false] (aN (-1))])
    fol (by kernel_rfl) (fun _ => by kernel_rfl) (fun L2 => ⟨(callOb_frz (UA.i_142 (b1) (b2) (b3) (b4) )), trivial⟩) (fun L2 => ?_)
  refine aw_ret ?_
  exact fin_ret none [0] (.bool (false)) [] (.inr rfl) rfl (by kernel_rfl) trivial (fun w' hb => ⟨rfl, hb⟩)

-- slices.Index[[]int,int]
set_option maxRecDepth 100000 in
set_option maxHeartbeats 400000 in
theorem UA.i_144 : CallOb Try.prog 162 #[.slice none 0 0, aN 1] [] (aN (-1)) := by
  intro w hw
  refine calls_aw [some (.slice none 0 0), aI 1, aU, aU, aU, aU, aU, aU, aU, aU, aU, aU, aU, aU, aU, aU, aU, aU, aU] [] Try.func162 rfl (by kernel_rfl) (fun e x h => by cases h) ?_
  refine aw_sr [⟨.pure, [], none, true⟩]
    (fun L1 => ⟨[some (.slice none 0 0), aI 1, aU, aU, aI 0, aU, aU, aU, aU, aU, aU, aU, aU, aU, aU, aU, aU, aU, aU], [], []⟩)
    (fun L1 => [])
    fol (by kernel_rfl) (fun _ => by kernel_rfl) (fun L1 => trivial) (fun L1 => ?_)
  refine aw_seq ?_
  refine aw_sr [⟨.pure, [], none, true⟩, ⟨.pure, [0], none, true⟩, ⟨.pure, [], none, true⟩]
    (fun L2 => ⟨[some (.slice none 0 0), aI 1, aU, aU, aI 0, aU, some (.slice none 0 0), aI 0, aI 0, aU, aU, aU, aU, aU, aU, aU, aU, aU, aU], [], []⟩)
    (fun L2 => [])
    fol (by kernel_rfl) (fun _ => by kernel_rfl) (fun L2 => trivial) (fun L2 => ?_)
  refine aw_block ?_
  refine aw_rounds 1 ?_
  refine aw_round ?_
  refine aw_sr [⟨.pure, [], none, true⟩]
    (fun L3 => ⟨[some (.slice none 0 0), aI 1, aU, aU, aI 0, aU, some (.slice none 0 0), aI 0, aI 0, aF, aU, aU, aU, aU, aU, aU, aU, aU, aU], [], []⟩)
    (fun L3 => [])
    fol (by kernel_rfl) (fun _ => by kernel_rfl) (fun L3 => trivial) (fun L3 => ?_)
  refine aw_seq ?_
  refine aw_false (false) rfl rfl ?_
  refine aw_exit ?_
  refine ex_thn ?_
  refine ex_thn ?_
  refine ex_hit ?_
  refine nrm_thn ?_
  refine aw_sr [⟨.pure, [], none, true⟩]
    (fun L4 => ⟨[some (.slice none 0 0), aI 1, aU, aU, aI (-1), aU, some (.slice none 0 0), aI 0, aI 0, aF, aU, aU, aU, aU, aU, aU, aU, aU, aU], [], []⟩)
    (fun L4 => [])
    fol (by kernel_rfl) (fun _ => by kernel_rfl) (fun L4 => trivial) (fun L4 => ?_)
  refine aw_ret ?_
  exact fin_ret none [0] (aN (-1)) [] (.inr rfl) rfl (by kernel_rfl) trivial (fun w' hb => ⟨rfl, hb⟩)

-- slices.Contains[[]int,int]
set_option maxRecDepth 100000 in
set_option maxHeartbeats 400000 in
theorem UA.i_145 : CallOb Try.prog 159 #[.slice none 0 0, aN 1] [] (.bool (false)) := by
  intro w hw
  refine calls_aw [some (.slice none 0 0), aI 1, aU, aU, aU, aU, aU, aU, aU] [] Try.func159 rfl (by kernel_rfl) (fun e x h => by cases h) ?_
  refine aw_sr [⟨.pure, [], none, true⟩]
    (fun L1 => ⟨[some (.slice none 0 0), aI 1, aU, aU, aF, aU, aU, aU, aU], [], []⟩)
    (fun L1 => [])
    fol (by kernel_rfl) (fun _ => by kernel_rfl) (fun L1 => trivial) (fun L1 => ?_)
  refine aw_sr [⟨.pure, [], none, true⟩, ⟨.pure, [], none, true⟩, ⟨(.call [] (aN (-1))), [0, 1], none, true⟩, ⟨.pure, [0, 1, 2], none, true⟩, ⟨.pure, [0, 1, 2, 3], none, true⟩]
    (fun L2 => ⟨[some (.slice none 0 0), aI 1, aU, aU, aF, some (.slice none 0 0), aI 1, aI (-1), aF], [], []⟩)
    (fun L2 => [CallOb Try.prog 162 #[.slice none 0 0, aN 1] [] (aN (-1))])
    fol (by kernel_rfl) (fun _ => by kernel_rfl) (fun L2 => ⟨(callOb_frz (UA.i_144  )), trivial⟩) (fun L2 => ?_)
  refine aw_ret ?_
  exact fin_ret none [0] (.bool (false)) [] (.inr rfl) rfl (by kernel_rfl) trivial (fun w' hb => ⟨rfl, hb⟩)

-- (couplant/tune.procedure).happen$3
set_option maxRecDepth 100000 in
set_option maxHeartbeats 400000 in
theorem UA.i_146 (b1 : Nat) : CallOb Try.prog 158 #[.agg #[.string (ByteArray.mk #[119, 101, 100, 103, 101]), aN 100, aN 50, .slice none 0 0, .bool (true), aN 0, aN 0, aN 200], .pointer (some ⟨b1, 0, none⟩)] [.blk (b1) [aN 10, aN 1, aN 210] 110 false] (.bool (false)) := by
  intro w hw
  refine calls_aw [some (.agg #[.string (ByteArray.mk #[119, 101, 100, 103, 101]), aN 100, aN 50, .slice none 0 0, .bool (true), aN 0, aN 0, aN 200]), aP b1 0, aU, aU, aU, aU, aU, aU, aU, aU] [.blk (b1) [aN 10, aN 1, aN 210] 110 false] Try.func158 rfl (by kernel_rfl) (esOk hw (by simp [Cel.mine])) ?_
  refine aw_sr [⟨.new, [], none, true⟩, ⟨.pure, [], none, true⟩]
    (fun L1 => ⟨[some (.agg #[.string (ByteArray.mk #[119, 101, 100, 103, 101]), aN 100, aN 50, .slice none 0 0, .bool (true), aN 0, aN 0, aN 200]), aP b1 0, aP (L1 0).b 0, aF, aU, aU, aU, aU, aU, aU], [.blk (b1) [aN 10, aN 1, aN 210] 110 false, .blk ((L1 0).b) [.string (ByteArray.mk #[119, 101, 100, 103, 101]), aN 100, aN 50, .slice none 0 0, .bool (true), aN 0, aN 0, aN 200] 179 true], []⟩)
    (fun L1 => [])
    fol (by kernel_rfl) (fun _ => by kernel_rfl) (fun L1 => trivial) (fun L1 => ?_)
  refine aw_sr [⟨.pure, [], none, true⟩, ⟨.pure, [0], none, true⟩, ⟨(.read 1), [0, 1], none, true⟩, ⟨.pure, [], none, true⟩, ⟨(.read 0), [3], none, true⟩, ⟨(.call [] (.bool (false))), [0, 1, 2, 3, 4], none, true⟩, ⟨.pure, [0, 1, 2, 3, 4, 5], none, true⟩]
    (fun L2 => ⟨[some (.agg #[.string (ByteArray.mk #[119, 101, 100, 103, 101]), aN 100, aN 50, .slice none 0 0, .bool (true), aN 0, aN 0, aN 200]), aP b1 0, aP (L1 0).b 0, aF, aP (L1 0).b 0, aP (L1 0).b 3, some (.slice none 0 0), aP b1 1, aI 1, aF], [.blk (b1) [aN 10, aN 1, aN 210] 110 false, .blk ((L1 0).b) [.string (ByteArray.mk #[119, 101, 100, 103, 101]), aN 100, aN 50, .slice none 0 0, .bool (true), aN 0, aN 0, aN 200] 179 true], []⟩)
    (fun L2 => [(L1 0).b = (L1 0).b, b1 = b1, CallOb Try.prog 159 #[.slice none 0 0, aN 1] [] (.bool (false))])
    fol (by kernel_rfl) (fun _ => by kernel_rfl) (fun L2 => ⟨rfl, rfl, (callOb_frz (UA.i_145  )), trivial⟩) (fun L2 => ?_)
  refine aw_ret ?_
  exact fin_ret none [0] (.bool (false)) [] (.inr rfl) rfl (by kernel_rfl) trivial (fun w' hb => ⟨rfl, hb⟩)

-- couplant/base.Within
set_option maxRecDepth 100000 in
set_option maxHeartbeats 400000 in
theorem UA.i_147 : CallOb Try.prog 127 #[aN 1, aN 0, aN 1] [] (.bool (true)) := by
  intro w hw
  refine calls_aw [aI 1, aI 0, aI 1, aU, aU, aU, aU, aU, aU, aU, aU, aU, aU, aU, aU] [] Try.func127 rfl (by kernel_rfl) (fun e x h => by cases h) ?_
  refine aw_sr [⟨.pure, [], none, true⟩]
    (fun L1 => ⟨[aI 1, aI 0, aI 1, aU, aU, aU, aF, aU, aU, aU, aU, aU, aU, aU, aU], [], []⟩)
    (fun L1 => [])
    fol (by kernel_rfl) (fun _ => by kernel_rfl) (fun L1 => trivial) (fun L1 => ?_)
  refine aw_sr [⟨.pure, [], none, true⟩, ⟨.pure, [], none, true⟩, ⟨.pure, [0, 1], none, true⟩, ⟨.pure, [0, 1, 2], none, true⟩, ⟨.pure, [0, 1, 2, 3], none, true⟩, ⟨.pure, [0, 1, 2, 3], none, true⟩, ⟨.pure, [0, 1, 2, 3, 4, 5], none, true⟩, ⟨.pure, [0, 1, 2, 3, 4, 5, 6], aT, true⟩, ⟨.pure, [0, 1, 2, 3, 4, 5, 6, 7], none, true⟩]
    (fun L2 => ⟨[aI 1, aI 0, aI 1, aU, aU, aU, aT, aI 0, aI 1, aT, aT, aI 1, aI 1, aT, aT], [], []⟩)
    (fun L2 => [(true) = true, (true) = true, (true) = true, (.bool (true) : Value) = .bool (true)])
    fol (by kernel_rfl) (fun _ => by kernel_rfl) (fun L2 => ⟨rfl, rfl, rfl, rfl, trivial⟩) (fun L2 => ?_)
  refine aw_ret ?_
  exact fin_ret none [0] (.bool (true)) [] (.inr rfl) rfl (by kernel_rfl) trivial (fun w' hb => ⟨rfl, hb⟩)

-- (couplant/tune.procedure).untils
set_option maxRecDepth 100000 in
set_option maxHeartbeats 400000 in
theorem UA.i_148 (b1 b2 : Nat) : CallN Try.prog 124 #[.slice (some ⟨b1, 0, none⟩) (2) (2)] [.blk (b1) [.string (ByteArray.mk #[119, 101, 100, 103, 101]), aN 100, aN 50, .slice none 0 0, .bool (true), aN 0, aN 0, aN 200, .string (ByteArray.mk #[103, 97, 105, 110]), aN 50, aN 50, .slice (some ⟨b2, 0, none⟩) (1) (1), .bool (true), aN 10, aN 1, aN 210] 179 false, .blk (b2) [aN 0] 3 false] (fun l => .slice (some ⟨l.b, 0, none⟩) (2) (2)) (fun l => .blk (l.b) [aN 100, aN 60] 3 true) := by
  intro w hw
  refine calls_aw [aS b1 0 2 2, aU, aU, aU, aU, aU, aU, aU, aU, aU, aU, aU, aU, aU, aU, aU, aU, aU, aU, aU, aU, aU, aU, aU, aU, aU, aU, aU, aU, aU, aU, aU, aU, aU, aU, aU, aU, aU, aU, aU, aU, aU, aU, aU, aU, aU, aU, aU, aU, aU, aU, aU, aU, aU, aU, aU] [.blk (b1) [.string (ByteArray.mk #[119, 101, 100, 103, 101]), aN 100, aN 50, .slice none 0 0, .bool (true), aN 0, aN 0, aN 200, .string (ByteArray.mk #[103, 97, 105, 110]), aN 50, aN 50, .slice (some ⟨b2, 0, none⟩) (1) (1), .bool (true), aN 10, aN 1, aN 210] 179 false, .blk (b2) [aN 0] 3 false] Try.func124 rfl (by kernel_rfl) (esOk hw (by simp [Cel.mine])) ?_
  refine aw_sr [⟨.pure, [], none, true⟩]
    (fun L1 => ⟨[aS b1 0 2 2, aU, some (.slice none 0 0), aU, aU, aU, aU, aU, aU, aU, aU, aU, aU, aU, aU, aU, aU, aU, aU, aU, aU, aU, aU, aU, aU, aU, aU, aU, aU, aU, aU, aU, aU, aU, aU, aU, aU, aU, aU, aU, aU, aU, aU, aU, aU, aU, aU, aU, aU, aU, aU, aU, aU, aU, aU, aU], [.blk (b1) [.string (ByteArray.mk #[119, 101, 100, 103, 101]), aN 100, aN 50, .slice none 0 0, .bool (true), aN 0, aN 0, aN 200, .string (ByteArray.mk #[103, 97, 105, 110]), aN 50, aN 50, .slice (some ⟨b2, 0, none⟩) (1) (1), .bool (true), aN 10, aN 1, aN 210] 179 false, .blk (b2) [aN 0] 3 false], []⟩)
    (fun L1 => [])
    fol (by kernel_rfl) (fun _ => by kernel_rfl) (fun L1 => trivial) (fun L1 => ?_)
  refine aw_sr [⟨.pure, [], none, true⟩, ⟨.pure, [0], none, true⟩, ⟨.new, [0, 1], none, true⟩, ⟨.pure, [0, 1, 2], none, true⟩]
    (fun L2 => ⟨[aS b1 0 2 2, aU, some (.slice none 0 0), aS (L2 2).b 0 2 2, aU, aU, aU, aU, aS b1 0 2 2, aI 2, aS (L2 2).b 0 2 2, aU, aU, aU, aU, aU, aU, aU, aU, aU, aU, aU, aU, aU, aU, aU, aU, aU, aU, aU, aU, aU, aU, aU, aU, aU, aU, aU, aU, aU, aU, aU, aU, aU, aU, aU, aU, aU, aU, aU, aU, aU, aU, aU, aU, aU], [.blk (b1) [.string (ByteArray.mk #[119, 101, 100, 103, 101]), aN 100, aN 50, .slice none 0 0, .bool (true), aN 0, aN 0, aN 200, .string (ByteArray.mk #[103, 97, 105, 110]), aN 50, aN 50, .slice (some ⟨b2, 0, none⟩) (1) (1), .bool (true), aN 10, aN 1, aN 210] 179 false, .blk (b2) [aN 0] 3 false, .blk ((L2 2).b) [aN 0, aN 0] 3 true], []⟩)
    (fun L2 => [])
    fol (by kernel_rfl) (fun _ => by kernel_rfl) (fun L2 => trivial) (fun L2 => ?_)
  refine aw_seq ?_
  refine aw_sr [⟨.pure, [], none, true⟩, ⟨.pure, [0], none, true⟩, ⟨.pure, [], none, true⟩]
    (fun L3 => ⟨[aS b1 0 2 2, aU, some (.slice none 0 0), aS (L2 2).b 0 2 2, aU, aU, aU, aU, aS b1 0 2 2, aI 2, aS (L2 2).b 0 2 2, aS b1 0 2 2, aI 2, aI 0, aU, aU, aU, aU, aU, aU, aU, aU, aU, aU, aU, aU, aU, aU, aU, aU, aU, aU, aU, aU, aU, aU, aU, aU, aU, aU, aU, aU, aU, aU, aU, aU, aU, aU, aU, aU, aU, aU, aU, aU, aU, aU], [.blk (b1) [.string (ByteArray.mk #[119, 101, 100, 103, 101]), aN 100, aN 50, .slice none 0 0, .bool (true), aN 0, aN 0, aN 200, .string (ByteArray.mk #[103, 97, 105, 110]), aN 50, aN 50, .slice (some ⟨b2, 0, none⟩) (1) (1), .bool (true), aN 10, aN 1, aN 210] 179 false, .blk (b2) [aN 0] 3 false, .blk ((L2 2).b) [aN 0, aN 0] 3 true], []⟩)
    (fun L3 => [])
    fol (by kernel_rfl) (fun _ => by kernel_rfl) (fun L3 => trivial) (fun L3 => ?_)
  refine aw_block ?_
  refine aw_rounds 3 ?_
  refine aw_round ?_
  refine aw_sr [⟨.pure, [], none, true⟩]
    (fun L4 => ⟨[aS b1 0 2 2, aU, some (.slice none 0 0), aS (L2 2).b 0 2 2, aU, aU, aU, aU, aS b1 0 2 2, aI 2, aS (L2 2).b 0 2 2, aS b1 0 2 2, aI 2, aI 0, aT, aU, aU, aU, aU, aU, aU, aU, aU, aU, aU, aU, aU, aU, aU, aU, aU, aU, aU, aU, aU, aU, aU, aU, aU, aU, aU, aU, aU, aU, aU, aU, aU, aU, aU, aU, aU, aU, aU, aU, aU, aU], [.blk (b1) [.string (ByteArray.mk #[119, 101, 100, 103, 101]), aN 100, aN 50, .slice none 0 0, .bool (true), aN 0, aN 0, aN 200, .string (ByteArray.mk #[103, 97, 105, 110]), aN 50, aN 50, .slice (some ⟨b2, 0, none⟩) (1) (1), .bool (true), aN 10, aN 1, aN 210] 179 false, .blk (b2) [aN 0] 3 false, .blk ((L2 2).b) [aN 0, aN 0] 3 true], []⟩)
    (fun L4 => [])
    fol (by kernel_rfl) (fun _ => by kernel_rfl) (fun L4 => trivial) (fun L4 => ?_)
  refine aw_seq ?_
  refine aw_true (true) rfl rfl ?_
  refine aw_skip ?_
  refine nrm_thn ?_
  refine aw_seq ?_
  refine aw_block ?_
  refine aw_sr [⟨.pure, [], none, true⟩, ⟨.pure, [], none, true⟩, ⟨(.read 0), [1], none, true⟩, ⟨.new, [], none, true⟩, ⟨.pure, [0, 1, 2, 3], none, true⟩, ⟨(.write 6), [0, 1, 2, 3, 4], none, true⟩]
    (fun L5 => ⟨[aS b1 0 2 2, aU, some (.slice none 0 0), aS (L2 2).b 0 2 2, aI 0, aP (L5 3).b 0, aU, aU, aS b1 0 2 2, aI 2, aS (L2 2).b 0 2 2, aS b1 0 2 2, aI 2, aI 0, aT, aI 0, aP b1 0, some (.agg #[.string (ByteArray.mk #[119, 101, 100, 103, 101]), aN 100, aN 50, .slice none 0 0, .bool (true), aN 0, aN 0, aN 200]), aU, aU, aU, aU, aU, aU, aU, aU, aU, aU, aU, aU, aU, aU, aU, aU, aU, aU, aU, aU, aU, aU, aU, aU, aU, aU, aU, aU, aU, aU, aU, aU, aU, aU, aU, aU, aU, aU], [.blk (b1) [.string (ByteArray.mk #[119, 101, 100, 103, 101]), aN 100, aN 50, .slice none 0 0, .bool (true), aN 0, aN 0, aN 200, .string (ByteArray.mk #[103, 97, 105, 110]), aN 50, aN 50, .slice (some ⟨b2, 0, none⟩) (1) (1), .bool (true), aN 10, aN 1, aN 210] 179 false, .blk (b2) [aN 0] 3 false, .blk ((L2 2).b) [aN 0, aN 0] 3 true, .blk ((L5 3).b) [.string (ByteArray.mk #[119, 101, 100, 103, 101]), aN 100, aN 50, .slice none 0 0, .bool (true), aN 0, aN 0, aN 200] 179 true], []⟩)
    (fun L5 => [b1 = b1, 0 + 8 ≤ 16, (L5 3).b = (L5 3).b, 0 + 8 ≤ 8, 8 = 8, true = true])
    fol (by kernel_rfl) (fun _ => by kernel_rfl) (fun L5 => ⟨rfl, (by decide), rfl, (by decide), rfl, rfl, trivial⟩) (fun L5 => ?_)
  refine aw_sr [⟨.pure, [], none, true⟩, ⟨.pure, [], none, true⟩, ⟨.pure, [0, 1], none, true⟩, ⟨(.write 2), [0, 1, 2], none, true⟩]
    (fun L6 => ⟨[aS b1 0 2 2, aU, some (.slice none 0 0), aS (L2 2).b 0 2 2, aI 0, aP (L5 3).b 0, aU, aU, aS b1 0 2 2, aI 2, aS (L2 2).b 0 2 2, aS b1 0 2 2, aI 2, aI 0, aT, aI 0, aP b1 0, some (.agg #[.string (ByteArray.mk #[119, 101, 100, 103, 101]), aN 100, aN 50, .slice none 0 0, .bool (true), aN 0, aN 0, aN 200]), aS (L2 2).b 0 2 2, aI 0, aP (L2 2).b 0, aU, aU, aU, aU, aU, aU, aU, aU, aU, aU, aU, aU, aU, aU, aU, aU, aU, aU, aU, aU, aU, aU, aU, aU, aU, aU, aU, aU, aU, aU, aU, aU, aU, aU, aU], [.blk (b1) [.string (ByteArray.mk #[119, 101, 100, 103, 101]), aN 100, aN 50, .slice none 0 0, .bool (true), aN 0, aN 0, aN 200, .string (ByteArray.mk #[103, 97, 105, 110]), aN 50, aN 50, .slice (some ⟨b2, 0, none⟩) (1) (1), .bool (true), aN 10, aN 1, aN 210] 179 false, .blk (b2) [aN 0] 3 false, .blk ((L2 2).b) [aN (-1), aN 0] 3 true, .blk ((L5 3).b) [.string (ByteArray.mk #[119, 101, 100, 103, 101]), aN 100, aN 50, .slice none 0 0, .bool (true), aN 0, aN 0, aN 200] 179 true], []⟩)
    (fun L6 => [(L2 2).b = (L2 2).b, 0 + 1 ≤ 2, 1 = 1, true = true])
    fol (by kernel_rfl) (fun _ => by kernel_rfl) (fun L6 => ⟨rfl, (by decide), rfl, rfl, trivial⟩) (fun L6 => ?_)
  refine aw_seq ?_
  refine aw_sr [⟨.pure, [], none, true⟩, ⟨(.read 3), [0], none, true⟩]
    (fun L7 => ⟨[aS b1 0 2 2, aU, some (.slice none 0 0), aS (L2 2).b 0 2 2, aI 0, aP (L5 3).b 0, aU, aU, aS b1 0 2 2, aI 2, aS (L2 2).b 0 2 2, aS b1 0 2 2, aI 2, aI 0, aT, aI 0, aP b1 0, some (.agg #[.string (ByteArray.mk #[119, 101, 100, 103, 101]), aN 100, aN 50, .slice none 0 0, .bool (true), aN 0, aN 0, aN 200]), aS (L2 2).b 0 2 2, aI 0, aP (L2 2).b 0, aP (L5 3).b 4, aT, aU, aU, aU, aU, aU, aU, aU, aU, aU, aU, aU, aU, aU, aU, aU, aU, aU, aU, aU, aU, aU, aU, aU, aU, aU, aU, aU, aU, aU, aU, aU, aU, aU], [.blk (b1) [.string (ByteArray.mk #[119, 101, 100, 103, 101]), aN 100, aN 50, .slice none 0 0, .bool (true), aN 0, aN 0, aN 200, .string (ByteArray.mk #[103, 97, 105, 110]), aN 50, aN 50, .slice (some ⟨b2, 0, none⟩) (1) (1), .bool (true), aN 10, aN 1, aN 210] 179 false, .blk (b2) [aN 0] 3 false, .blk ((L2 2).b) [aN (-1), aN 0] 3 true, .blk ((L5 3).b) [.string (ByteArray.mk #[119, 101, 100, 103, 101]), aN 100, aN 50, .slice none 0 0, .bool (true), aN 0, aN 0, aN 200] 179 true], []⟩)
    (fun L7 => [(L5 3).b = (L5 3).b])
    fol (by kernel_rfl) (fun _ => by kernel_rfl) (fun L7 => ⟨rfl, trivial⟩) (fun L7 => ?_)
  refine aw_true (true) rfl rfl ?_
  refine aw_region [⟨.pure, [], none, true⟩, ⟨.pure, [], none, true⟩, ⟨.pure, [], none, true⟩, ⟨.pure, [2], none, true⟩, ⟨(.read 3), [2, 3], none, true⟩, ⟨.pure, [], none, true⟩, ⟨.pure, [5], none, true⟩, ⟨(.read 3), [5, 6], none, true⟩, ⟨.pure, [2, 3, 4, 5, 6, 7], none, true⟩, ⟨.pure, [0, 1, 2, 3, 4, 5, 6, 7, 8], none, true⟩, ⟨(.write 2), [0, 1, 2, 3, 4, 5, 6, 7, 8, 9], none, true⟩]
    (fun L8 => ⟨[aS b1 0 2 2, aU, some (.slice none 0 0), aS (L2 2).b 0 2 2, aI 0, aP (L5 3).b 0, aU, aU, aS b1 0 2 2, aI 2, aS (L2 2).b 0 2 2, aS b1 0 2 2, aI 2, aI 0, aT, aI 0, aP b1 0, some (.agg #[.string (ByteArray.mk #[119, 101, 100, 103, 101]), aN 100, aN 50, .slice none 0 0, .bool (true), aN 0, aN 0, aN 200]), aS (L2 2).b 0 2 2, aI 0, aP (L2 2).b 0, aP (L5 3).b 4, aT, aS (L2 2).b 0 2 2, aI 0, aP (L5 3).b 5, aP (L5 3).b 5, aI 0, aP (L5 3).b 0, aP (L5 3).b 1, aI 100, aI 100, aP (L2 2).b 0, aU, aU, aU, aU, aU, aU, aU, aU, aU, aU, aU, aU, aU, aU, aU, aU, aU, aU, aU, aU, aU, aU, aU], [.blk (b1) [.string (ByteArray.mk #[119, 101, 100, 103, 101]), aN 100, aN 50, .slice none 0 0, .bool (true), aN 0, aN 0, aN 200, .string (ByteArray.mk #[103, 97, 105, 110]), aN 50, aN 50, .slice (some ⟨b2, 0, none⟩) (1) (1), .bool (true), aN 10, aN 1, aN 210] 179 false, .blk (b2) [aN 0] 3 false, .blk ((L2 2).b) [aN 100, aN 0] 3 true, .blk ((L5 3).b) [.string (ByteArray.mk #[119, 101, 100, 103, 101]), aN 100, aN 50, .slice none 0 0, .bool (true), aN 0, aN 0, aN 200] 179 true], []⟩)
    (fun L8 => [(L5 3).b = (L5 3).b, (L5 3).b = (L5 3).b, (L2 2).b = (L2 2).b, 0 + 1 ≤ 2, 1 = 1, true = true])
    fol (by kernel_rfl) (fun _ => by kernel_rfl) (fun L8 => ⟨rfl, rfl, rfl, (by decide), rfl, rfl, trivial⟩) (fun L8 => ?_)
  refine nrm_thn ?_
  refine aw_sr [⟨.pure, [], none, true⟩, ⟨.pure, [0], none, true⟩, ⟨(.read 3), [0, 1], none, true⟩, ⟨.pure, [0, 1, 2], none, true⟩, ⟨.pure, [], none, true⟩]
    (fun L9 => ⟨[aS b1 0 2 2, aU, some (.slice none 0 0), aS (L2 2).b 0 2 2, aI 0, aP (L5 3).b 0, aU, aU, aS b1 0 2 2, aI 2, aS (L2 2).b 0 2 2, aS b1 0 2 2, aI 2, aI 0, aT, aI 0, aP b1 0, some (.agg #[.string (ByteArray.mk #[119, 101, 100, 103, 101]), aN 100, aN 50, .slice none 0 0, .bool (true), aN 0, aN 0, aN 200]), aS (L2 2).b 0 2 2, aI 0, aP (L2 2).b 0, aP (L5 3).b 4, aT, aS (L2 2).b 0 2 2, aI 0, aP (L5 3).b 5, aP (L5 3).b 5, aI 0, aP (L5 3).b 0, aP (L5 3).b 1, aI 100, aI 100, aP (L2 2).b 0, aP (L5 3).b 0, aP (L5 3).b 3, some (.slice none 0 0), aI 0, aI 0, aU, aU, aU, aU, aU, aU, aU, aU, aU, aU, aU, aU, aU, aU, aU, aU, aU, aU], [.blk (b1) [.string (ByteArray.mk #[119, 101, 100, 103, 101]), aN 100, aN 50, .slice none 0 0, .bool (true), aN 0, aN 0, aN 200, .string (ByteArray.mk #[103, 97, 105, 110]), aN 50, aN 50, .slice (some ⟨b2, 0, none⟩) (1) (1), .bool (true), aN 10, aN 1, aN 210] 179 false, .blk (b2) [aN 0] 3 false, .blk ((L2 2).b) [aN 100, aN 0] 3 true, .blk ((L5 3).b) [.string (ByteArray.mk #[119, 101, 100, 103, 101]), aN 100, aN 50, .slice none 0 0, .bool (true), aN 0, aN 0, aN 200] 179 true], []⟩)
    (fun L9 => [(L5 3).b = (L5 3).b])
    fol (by kernel_rfl) (fun _ => by kernel_rfl) (fun L9 => ⟨rfl, trivial⟩) (fun L9 => ?_)
  refine aw_block ?_
  refine aw_rounds 1 ?_
  refine aw_round ?_
  refine aw_sr [⟨.pure, [], none, true⟩]
    (fun L10 => ⟨[aS b1 0 2 2, aU, some (.slice none 0 0), aS (L2 2).b 0 2 2, aI 0, aP (L5 3).b 0, aU, aU, aS b1 0 2 2, aI 2, aS (L2 2).b 0 2 2, aS b1 0 2 2, aI 2, aI 0, aT, aI 0, aP b1 0, some (.agg #[.string (ByteArray.mk #[119, 101, 100, 103, 101]), aN 100, aN 50, .slice none 0 0, .bool (true), aN 0, aN 0, aN 200]), aS (L2 2).b 0 2 2, aI 0, aP (L2 2).b 0, aP (L5 3).b 4, aT, aS (L2 2).b 0 2 2, aI 0, aP (L5 3).b 5, aP (L5 3).b 5, aI 0, aP (L5 3).b 0, aP (L5 3).b 1, aI 100, aI 100, aP (L2 2).b 0, aP (L5 3).b 0, aP (L5 3).b 3, some (.slice none 0 0), aI 0, aI 0, aF, aU, aU, aU, aU, aU, aU, aU, aU, aU, aU, aU, aU, aU, aU, aU, aU, aU], [.blk (b1) [.string (ByteArray.mk #[119, 101, 100, 103, 101]), aN 100, aN 50, .slice none 0 0, .bool (true), aN 0, aN 0, aN 200, .string (ByteArray.mk #[103, 97, 105, 110]), aN 50, aN 50, .slice (some ⟨b2, 0, none⟩) (1) (1), .bool (true), aN 10, aN 1, aN 210] 179 false, .blk (b2) [aN 0] 3 false, .blk ((L2 2).b) [aN 100, aN 0] 3 true, .blk ((L5 3).b) [.string (ByteArray.mk #[119, 101, 100, 103, 101]), aN 100, aN 50, .slice none 0 0, .bool (true), aN 0, aN 0, aN 200] 179 true], []⟩)
    (fun L10 => [])
    fol (by kernel_rfl) (fun _ => by kernel_rfl) (fun L10 => trivial) (fun L10 => ?_)
  refine aw_seq ?_
  refine aw_false (false) rfl rfl ?_
  refine aw_exit ?_
  refine ex_thn ?_
  refine ex_thn ?_
  refine ex_hit ?_
  refine nrm_inB ?_
  refine nrm_thn ?_
  refine aw_region [⟨.pure, [], none, true⟩, ⟨.pure, [0], none, true⟩]
    (fun L11 => ⟨[aS b1 0 2 2, aU, some (.slice none 0 0), aS (L2 2).b 0 2 2, aI 0, aP (L5 3).b 0, aU, aU, aS b1 0 2 2, aI 2, aS (L2 2).b 0 2 2, aS b1 0 2 2, aI 2, aI 1, aT, aI 0, aP b1 0, some (.agg #[.string (ByteArray.mk #[119, 101, 100, 103, 101]), aN 100, aN 50, .slice none 0 0, .bool (true), aN 0, aN 0, aN 200]), aS (L2 2).b 0 2 2, aI 0, aP (L2 2).b 0, aP (L5 3).b 4, aT, aS (L2 2).b 0 2 2, aI 0, aP (L5 3).b 5, aP (L5 3).b 5, aI 0, aP (L5 3).b 0, aP (L5 3).b 1, aI 100, aI 100, aP (L2 2).b 0, aP (L5 3).b 0, aP (L5 3).b 3, some (.slice none 0 0), aI 0, aI 0, aF, aU, aU, aU, aU, aU, aU, aU, aU, aU, aU, aU, aU, aU, aU, aU, aI 1, aU], [.blk (b1) [.string (ByteArray.mk #[119, 101, 100, 103, 101]), aN 100, aN 50, .slice none 0 0, .bool (true), aN 0, aN 0, aN 200, .string (ByteArray.mk #[103, 97, 105, 110]), aN 50, aN 50, .slice (some ⟨b2, 0, none⟩) (1) (1), .bool (true), aN 10, aN 1, aN 210] 179 false, .blk (b2) [aN 0] 3 false, .blk ((L2 2).b) [aN 100, aN 0] 3 true, .blk ((L5 3).b) [.string (ByteArray.mk #[119, 101, 100, 103, 101]), aN 100, aN 50, .slice none 0 0, .bool (true), aN 0, aN 0, aN 200] 179 true], []⟩)
    (fun L11 => [])
    fol (by kernel_rfl) (fun _ => by kernel_rfl) (fun L11 => trivial) (fun L11 => ?_)
  refine nrm_thn ?_
  refine aw_round ?_
  refine aw_sr [⟨.pure, [], none, true⟩]
    (fun L12 => ⟨[aS b1 0 2 2, aU, some (.slice none 0 0), aS (L2 2).b 0 2 2, aI 0, aP (L5 3).b 0, aU, aU, aS b1 0 2 2, aI 2, aS (L2 2).b 0 2 2, aS b1 0 2 2, aI 2, aI 1, aT, aI 0, aP b1 0, some (.agg #[.string (ByteArray.mk #[119, 101, 100, 103, 101]), aN 100, aN 50, .slice none 0 0, .bool (true), aN 0, aN 0, aN 200]), aS (L2 2).b 0 2 2, aI 0, aP (L2 2).b 0, aP (L5 3).b 4, aT, aS (L2 2).b 0 2 2, aI 0, aP (L5 3).b 5, aP (L5 3).b 5, aI 0, aP (L5 3).b 0, aP (L5 3).b 1, aI 100, aI 100, aP (L2 2).b 0, aP (L5 3).b 0, aP (L5 3).b 3, some (.slice none 0 0), aI 0, aI 0, aF, aU, aU, aU, aU, aU, aU, aU, aU, aU, aU, aU, aU, aU, aU, aU, aI 1, aU], [.blk (b1) [.string (ByteArray.mk #[119, 101, 100, 103, 101]), aN 100, aN 50, .slice none 0 0, .bool (true), aN 0, aN 0, aN 200, .string (ByteArray.mk #[103, 97, 105, 110]), aN 50, aN 50, .slice (some ⟨b2, 0, none⟩) (1) (1), .bool (true), aN 10, aN 1, aN 210] 179 false, .blk (b2) [aN 0] 3 false, .blk ((L2 2).b) [aN 100, aN 0] 3 true, .blk ((L5 3).b) [.string (ByteArray.mk #[119, 101, 100, 103, 101]), aN 100, aN 50, .slice none 0 0, .bool (true), aN 0, aN 0, aN 200] 179 true], []⟩)
    (fun L12 => [])
    fol (by kernel_rfl) (fun _ => by kernel_rfl) (fun L12 => trivial) (fun L12 => ?_)
  refine aw_seq ?_
  refine aw_true (true) rfl rfl ?_
  refine aw_skip ?_
  refine nrm_thn ?_
  refine aw_seq ?_
  refine aw_block ?_
  refine aw_sr [⟨.pure, [], none, true⟩, ⟨.pure, [], none, true⟩, ⟨(.read 0), [1], none, true⟩, ⟨.new, [], none, true⟩, ⟨.pure, [0, 1, 2, 3], none, true⟩, ⟨(.write 7), [0, 1, 2, 3, 4], none, true⟩]
    (fun L13 => ⟨[aS b1 0 2 2, aU, some (.slice none 0 0), aS (L2 2).b 0 2 2, aI 1, aP (L13 3).b 0, aU, aU, aS b1 0 2 2, aI 2, aS (L2 2).b 0 2 2, aS b1 0 2 2, aI 2, aI 1, aT, aI 1, aP b1 8, some (.agg #[.string (ByteArray.mk #[103, 97, 105, 110]), aN 50, aN 50, .slice (some ⟨b2, 0, none⟩) (1) (1), .bool (true), aN 10, aN 1, aN 210]), aS (L2 2).b 0 2 2, aI 0, aP (L2 2).b 0, aP (L5 3).b 4, aT, aS (L2 2).b 0 2 2, aI 0, aP (L5 3).b 5, aP (L5 3).b 5, aI 0, aP (L5 3).b 0, aP (L5 3).b 1, aI 100, aI 100, aP (L2 2).b 0, aP (L5 3).b 0, aP (L5 3).b 3, some (.slice none 0 0), aI 0, aI 0, aF, aU, aU, aU, aU, aU, aU, aU, aU, aU, aU, aU, aU, aU, aU, aU, aI 1, aU], [.blk (b1) [.string (ByteArray.mk #[119, 101, 100, 103, 101]), aN 100, aN 50, .slice none 0 0, .bool (true), aN 0, aN 0, aN 200, .string (ByteArray.mk #[103, 97, 105, 110]), aN 50, aN 50, .slice (some ⟨b2, 0, none⟩) (1) (1), .bool (true), aN 10, aN 1, aN 210] 179 false, .blk (b2) [aN 0] 3 false, .blk ((L2 2).b) [aN 100, aN 0] 3 true, .blk ((L5 3).b) [.string (ByteArray.mk #[119, 101, 100, 103, 101]), aN 100, aN 50, .slice none 0 0, .bool (true), aN 0, aN 0, aN 200] 179 true, .blk ((L13 3).b) [.string (ByteArray.mk #[103, 97, 105, 110]), aN 50, aN 50, .slice (some ⟨b2, 0, none⟩) (1) (1), .bool (true), aN 10, aN 1, aN 210] 179 true], []⟩)
    (fun L13 => [b1 = b1, 8 + 8 ≤ 16, (L13 3).b = (L13 3).b, 0 + 8 ≤ 8, 8 = 8, true = true])
    fol (by kernel_rfl) (fun _ => by kernel_rfl) (fun L13 => ⟨rfl, (by decide), rfl, (by decide), rfl, rfl, trivial⟩) (fun L13 => ?_)
  refine aw_sr [⟨.pure, [], none, true⟩, ⟨.pure, [], none, true⟩, ⟨.pure, [0, 1], none, true⟩, ⟨(.write 2), [0, 1, 2], none, true⟩]
    (fun L14 => ⟨[aS b1 0 2 2, aU, some (.slice none 0 0), aS (L2 2).b 0 2 2, aI 1, aP (L13 3).b 0, aU, aU, aS b1 0 2 2, aI 2, aS (L2 2).b 0 2 2, aS b1 0 2 2, aI 2, aI 1, aT, aI 1, aP b1 8, some (.agg #[.string (ByteArray.mk #[103, 97, 105, 110]), aN 50, aN 50, .slice (some ⟨b2, 0, none⟩) (1) (1), .bool (true), aN 10, aN 1, aN 210]), aS (L2 2).b 0 2 2, aI 1, aP (L2 2).b 1, aP (L5 3).b 4, aT, aS (L2 2).b 0 2 2, aI 0, aP (L5 3).b 5, aP (L5 3).b 5, aI 0, aP (L5 3).b 0, aP (L5 3).b 1, aI 100, aI 100, aP (L2 2).b 0, aP (L5 3).b 0, aP (L5 3).b 3, some (.slice none 0 0), aI 0, aI 0, aF, aU, aU, aU, aU, aU, aU, aU, aU, aU, aU, aU, aU, aU, aU, aU, aI 1, aU], [.blk (b1) [.string (ByteArray.mk #[119, 101, 100, 103, 101]), aN 100, aN 50, .slice none 0 0, .bool (true), aN 0, aN 0, aN 200, .string (ByteArray.mk #[103, 97, 105, 110]), aN 50, aN 50, .slice (some ⟨b2, 0, none⟩) (1) (1), .bool (true), aN 10, aN 1, aN 210] 179 false, .blk (b2) [aN 0] 3 false, .blk ((L2 2).b) [aN 100, aN (-1)] 3 true, .blk ((L5 3).b) [.string (ByteArray.mk #[119, 101, 100, 103, 101]), aN 100, aN 50, .slice none 0 0, .bool (true), aN 0, aN 0, aN 200] 179 true, .blk ((L13 3).b) [.string (ByteArray.mk #[103, 97, 105, 110]), aN 50, aN 50, .slice (some ⟨b2, 0, none⟩) (1) (1), .bool (true), aN 10, aN 1, aN 210] 179 true], []⟩)
    (fun L14 => [(L2 2).b = (L2 2).b, 1 + 1 ≤ 2, 1 = 1, true = true])
    fol (by kernel_rfl) (fun _ => by kernel_rfl) (fun L14 => ⟨rfl, (by decide), rfl, rfl, trivial⟩) (fun L14 => ?_)
  refine aw_seq ?_
  refine aw_sr [⟨.pure, [], none, true⟩, ⟨(.read 4), [0], none, true⟩]
    (fun L15 => ⟨[aS b1 0 2 2, aU, some (.slice none 0 0), aS (L2 2).b 0 2 2, aI 1, aP (L13 3).b 0, aU, aU, aS b1 0 2 2, aI 2, aS (L2 2).b 0 2 2, aS b1 0 2 2, aI 2, aI 1, aT, aI 1, aP b1 8, some (.agg #[.string (ByteArray.mk #[103, 97, 105, 110]), aN 50, aN 50, .slice (some ⟨b2, 0, none⟩) (1) (1), .bool (true), aN 10, aN 1, aN 210]), aS (L2 2).b 0 2 2, aI 1, aP (L2 2).b 1, aP (L13 3).b 4, aT, aS (L2 2).b 0 2 2, aI 0, aP (L5 3).b 5, aP (L5 3).b 5, aI 0, aP (L5 3).b 0, aP (L5 3).b 1, aI 100, aI 100, aP (L2 2).b 0, aP (L5 3).b 0, aP (L5 3).b 3, some (.slice none 0 0), aI 0, aI 0, aF, aU, aU, aU, aU, aU, aU, aU, aU, aU, aU, aU, aU, aU, aU, aU, aI 1, aU], [.blk (b1) [.string (ByteArray.mk #[119, 101, 100, 103, 101]), aN 100, aN 50, .slice none 0 0, .bool (true), aN 0, aN 0, aN 200, .string (ByteArray.mk #[103, 97, 105, 110]), aN 50, aN 50, .slice (some ⟨b2, 0, none⟩) (1) (1), .bool (true), aN 10, aN 1, aN 210] 179 false, .blk (b2) [aN 0] 3 false, .blk ((L2 2).b) [aN 100, aN (-1)] 3 true, .blk ((L5 3).b) [.string (ByteArray.mk #[119, 101, 100, 103, 101]), aN 100, aN 50, .slice none 0 0, .bool (true), aN 0, aN 0, aN 200] 179 true, .blk ((L13 3).b) [.string (ByteArray.mk #[103, 97, 105, 110]), aN 50, aN 50, .slice (some ⟨b2, 0, none⟩) (1) (1), .bool (true), aN 10, aN 1, aN 210] 179 true], []⟩)
    (fun L15 => [(L13 3).b = (L13 3).b])
    fol (by kernel_rfl) (fun _ => by kernel_rfl) (fun L15 => ⟨rfl, trivial⟩) (fun L15 => ?_)
  refine aw_true (true) rfl rfl ?_
  refine aw_region [⟨.pure, [], none, true⟩, ⟨.pure, [], none, true⟩, ⟨.pure, [], none, true⟩, ⟨.pure, [2], none, true⟩, ⟨(.read 4), [2, 3], none, true⟩, ⟨.pure, [], none, true⟩, ⟨.pure, [5], none, true⟩, ⟨(.read 4), [5, 6], none, true⟩, ⟨.pure, [2, 3, 4, 5, 6, 7], none, true⟩, ⟨.pure, [0, 1, 2, 3, 4, 5, 6, 7, 8], none, true⟩, ⟨(.write 2), [0, 1, 2, 3, 4, 5, 6, 7, 8, 9], none, true⟩]
    (fun L16 => ⟨[aS b1 0 2 2, aU, some (.slice none 0 0), aS (L2 2).b 0 2 2, aI 1, aP (L13 3).b 0, aU, aU, aS b1 0 2 2, aI 2, aS (L2 2).b 0 2 2, aS b1 0 2 2, aI 2, aI 1, aT, aI 1, aP b1 8, some (.agg #[.string (ByteArray.mk #[103, 97, 105, 110]), aN 50, aN 50, .slice (some ⟨b2, 0, none⟩) (1) (1), .bool (true), aN 10, aN 1, aN 210]), aS (L2 2).b 0 2 2, aI 1, aP (L2 2).b 1, aP (L13 3).b 4, aT, aS (L2 2).b 0 2 2, aI 1, aP (L13 3).b 5, aP (L13 3).b 5, aI 10, aP (L13 3).b 0, aP (L13 3).b 1, aI 50, aI 60, aP (L2 2).b 1, aP (L5 3).b 0, aP (L5 3).b 3, some (.slice none 0 0), aI 0, aI 0, aF, aU, aU, aU, aU, aU, aU, aU, aU, aU, aU, aU, aU, aU, aU, aU, aI 1, aU], [.blk (b1) [.string (ByteArray.mk #[119, 101, 100, 103, 101]), aN 100, aN 50, .slice none 0 0, .bool (true), aN 0, aN 0, aN 200, .string (ByteArray.mk #[103, 97, 105, 110]), aN 50, aN 50, .slice (some ⟨b2, 0, none⟩) (1) (1), .bool (true), aN 10, aN 1, aN 210] 179 false, .blk (b2) [aN 0] 3 false, .blk ((L2 2).b) [aN 100, aN 60] 3 true, .blk ((L5 3).b) [.string (ByteArray.mk #[119, 101, 100, 103, 101]), aN 100, aN 50, .slice none 0 0, .bool (true), aN 0, aN 0, aN 200] 179 true, .blk ((L13 3).b) [.string (ByteArray.mk #[103, 97, 105, 110]), aN 50, aN 50, .slice (some ⟨b2, 0, none⟩) (1) (1), .bool (true), aN 10, aN 1, aN 210] 179 true], []⟩)
    (fun L16 => [(L13 3).b = (L13 3).b, (L13 3).b = (L13 3).b, (L2 2).b = (L2 2).b, 1 + 1 ≤ 2, 1 = 1, true = true])
    fol (by kernel_rfl) (fun _ => by kernel_rfl) (fun L16 => ⟨rfl, rfl, rfl, (by decide), rfl, rfl, trivial⟩) (fun L16 => ?_)
  refine nrm_thn ?_
  refine aw_sr [⟨.pure, [], none, true⟩, ⟨.pure, [0], none, true⟩, ⟨(.read 4), [0, 1], none, true⟩, ⟨.pure, [0, 1, 2], none, true⟩, ⟨.pure, [], none, true⟩]
    (fun L17 => ⟨[aS b1 0 2 2, aU, some (.slice none 0 0), aS (L2 2).b 0 2 2, aI 1, aP (L13 3).b 0, aU, aU, aS b1 0 2 2, aI 2, aS (L2 2).b 0 2 2, aS b1 0 2 2, aI 2, aI 1, aT, aI 1, aP b1 8, some (.agg #[.string (ByteArray.mk #[103, 97, 105, 110]), aN 50, aN 50, .slice (some ⟨b2, 0, none⟩) (1) (1), .bool (true), aN 10, aN 1, aN 210]), aS (L2 2).b 0 2 2, aI 1, aP (L2 2).b 1, aP (L13 3).b 4, aT, aS (L2 2).b 0 2 2, aI 1, aP (L13 3).b 5, aP (L13 3).b 5, aI 10, aP (L13 3).b 0, aP (L13 3).b 1, aI 50, aI 60, aP (L2 2).b 1, aP (L13 3).b 0, aP (L13 3).b 3, aS b2 0 1 1, aI 1, aI 0, aF, aU, aU, aU, aU, aU, aU, aU, aU, aU, aU, aU, aU, aU, aU, aU, aI 1, aU], [.blk (b1) [.string (ByteArray.mk #[119, 101, 100, 103, 101]), aN 100, aN 50, .slice none 0 0, .bool (true), aN 0, aN 0, aN 200, .string (ByteArray.mk #[103, 97, 105, 110]), aN 50, aN 50, .slice (some ⟨b2, 0, none⟩) (1) (1), .bool (true), aN 10, aN 1, aN 210] 179 false, .blk (b2) [aN 0] 3 false, .blk ((L2 2).b) [aN 100, aN 60] 3 true, .blk ((L5 3).b) [.string (ByteArray.mk #[119, 101, 100, 103, 101]), aN 100, aN 50, .slice none 0 0, .bool (true), aN 0, aN 0, aN 200] 179 true, .blk ((L13 3).b) [.string (ByteArray.mk #[103, 97, 105, 110]), aN 50, aN 50, .slice (some ⟨b2, 0, none⟩) (1) (1), .bool (true), aN 10, aN 1, aN 210] 179 true], []⟩)
    (fun L17 => [(L13 3).b = (L13 3).b])
    fol (by kernel_rfl) (fun _ => by kernel_rfl) (fun L17 => ⟨rfl, trivial⟩) (fun L17 => ?_)
  refine aw_block ?_
  refine aw_rounds 2 ?_
  refine aw_round ?_
  refine aw_sr [⟨.pure, [], none, true⟩]
    (fun L18 => ⟨[aS b1 0 2 2, aU, some (.slice none 0 0), aS (L2 2).b 0 2 2, aI 1, aP (L13 3).b 0, aU, aU, aS b1 0 2 2, aI 2, aS (L2 2).b 0 2 2, aS b1 0 2 2, aI 2, aI 1, aT, aI 1, aP b1 8, some (.agg #[.string (ByteArray.mk #[103, 97, 105, 110]), aN 50, aN 50, .slice (some ⟨b2, 0, none⟩) (1) (1), .bool (true), aN 10, aN 1, aN 210]), aS (L2 2).b 0 2 2, aI 1, aP (L2 2).b 1, aP (L13 3).b 4, aT, aS (L2 2).b 0 2 2, aI 1, aP (L13 3).b 5, aP (L13 3).b 5, aI 10, aP (L13 3).b 0, aP (L13 3).b 1, aI 50, aI 60, aP (L2 2).b 1, aP (L13 3).b 0, aP (L13 3).b 3, aS b2 0 1 1, aI 1, aI 0, aT, aU, aU, aU, aU, aU, aU, aU, aU, aU, aU, aU, aU, aU, aU, aU, aI 1, aU], [.blk (b1) [.string (ByteArray.mk #[119, 101, 100, 103, 101]), aN 100, aN 50, .slice none 0 0, .bool (true), aN 0, aN 0, aN 200, .string (ByteArray.mk #[103, 97, 105, 110]), aN 50, aN 50, .slice (some ⟨b2, 0, none⟩) (1) (1), .bool (true), aN 10, aN 1, aN 210] 179 false, .blk (b2) [aN 0] 3 false, .blk ((L2 2).b) [aN 100, aN 60] 3 true, .blk ((L5 3).b) [.string (ByteArray.mk #[119, 101, 100, 103, 101]), aN 100, aN 50, .slice none 0 0, .bool (true), aN 0, aN 0, aN 200] 179 true, .blk ((L13 3).b) [.string (ByteArray.mk #[103, 97, 105, 110]), aN 50, aN 50, .slice (some ⟨b2, 0, none⟩) (1) (1), .bool (true), aN 10, aN 1, aN 210] 179 true], []⟩)
    (fun L18 => [])
    fol (by kernel_rfl) (fun _ => by kernel_rfl) (fun L18 => trivial) (fun L18 => ?_)
  refine aw_seq ?_
  refine aw_true (true) rfl rfl ?_
  refine aw_skip ?_
  refine nrm_thn ?_
  refine aw_seq ?_
  refine aw_block ?_
  refine aw_sr [⟨.pure, [], none, true⟩, ⟨(.read 1), [0], none, true⟩, ⟨.pure, [0, 1], none, true⟩]
    (fun L19 => ⟨[aS b1 0 2 2, aU, some (.slice none 0 0), aS (L2 2).b 0 2 2, aI 1, aP (L13 3).b 0, aU, aI 0, aS b1 0 2 2, aI 2, aS (L2 2).b 0 2 2, aS b1 0 2 2, aI 2, aI 1, aT, aI 1, aP b1 8, some (.agg #[.string (ByteArray.mk #[103, 97, 105, 110]), aN 50, aN 50, .slice (some ⟨b2, 0, none⟩) (1) (1), .bool (true), aN 10, aN 1, aN 210]), aS (L2 2).b 0 2 2, aI 1, aP (L2 2).b 1, aP (L13 3).b 4, aT, aS (L2 2).b 0 2 2, aI 1, aP (L13 3).b 5, aP (L13 3).b 5, aI 10, aP (L13 3).b 0, aP (L13 3).b 1, aI 50, aI 60, aP (L2 2).b 1, aP (L13 3).b 0, aP (L13 3).b 3, aS b2 0 1 1, aI 1, aI 0, aT, aP b2 0, aI 0, aU, aU, aU, aU, aU, aU, aU, aU, aU, aU, aU, aU, aU, aI 1, aU], [.blk (b1) [.string (ByteArray.mk #[119, 101, 100, 103, 101]), aN 100, aN 50, .slice none 0 0, .bool (true), aN 0, aN 0, aN 200, .string (ByteArray.mk #[103, 97, 105, 110]), aN 50, aN 50, .slice (some ⟨b2, 0, none⟩) (1) (1), .bool (true), aN 10, aN 1, aN 210] 179 false, .blk (b2) [aN 0] 3 false, .blk ((L2 2).b) [aN 100, aN 60] 3 true, .blk ((L5 3).b) [.string (ByteArray.mk #[119, 101, 100, 103, 101]), aN 100, aN 50, .slice none 0 0, .bool (true), aN 0, aN 0, aN 200] 179 true, .blk ((L13 3).b) [.string (ByteArray.mk #[103, 97, 105, 110]), aN 50, aN 50, .slice (some ⟨b2, 0, none⟩) (1) (1), .bool (true), aN 10, aN 1, aN 210] 179 true], []⟩)
    (fun L19 => [b2 = b2])
    fol (by kernel_rfl) (fun _ => by kernel_rfl) (fun L19 => ⟨rfl, trivial⟩) (fun L19 => ?_)
  refine aw_region [⟨.pure, [], none, true⟩, ⟨.pure, [], none, true⟩, ⟨.pure, [], none, true⟩, ⟨.pure, [], none, true⟩, ⟨.pure, [2, 3], none, true⟩, ⟨(.read 2), [2, 3, 4], none, true⟩, ⟨.pure, [], none, true⟩, ⟨.pure, [], none, true⟩, ⟨.pure, [6, 7], none, true⟩, ⟨(.read 2), [6, 7, 8], none, true⟩, ⟨.pure, [2, 3, 4, 5, 6, 7, 8, 9], none, true⟩, ⟨.pure, [0, 1, 2, 3, 4, 5, 6, 7, 8, 9, 10], none, true⟩, ⟨(.write 2), [0, 1, 2, 3, 4, 5, 6, 7, 8, 9, 10, 11], none, true⟩]
    (fun L20 => ⟨[aS b1 0 2 2, aU, some (.slice none 0 0), aS (L2 2).b 0 2 2, aI 1, aP (L13 3).b 0, aU, aI 0, aS b1 0 2 2, aI 2, aS (L2 2).b 0 2 2, aS b1 0 2 2, aI 2, aI 1, aT, aI 1, aP b1 8, some (.agg #[.string (ByteArray.mk #[103, 97, 105, 110]), aN 50, aN 50, .slice (some ⟨b2, 0, none⟩) (1) (1), .bool (true), aN 10, aN 1, aN 210]), aS (L2 2).b 0 2 2, aI 1, aP (L2 2).b 1, aP (L13 3).b 4, aT, aS (L2 2).b 0 2 2, aI 1, aP (L13 3).b 5, aP (L13 3).b 5, aI 10, aP (L13 3).b 0, aP (L13 3).b 1, aI 50, aI 60, aP (L2 2).b 1, aP (L13 3).b 0, aP (L13 3).b 3, aS b2 0 1 1, aI 1, aI 0, aT, aP b2 0, aI 0, aS (L2 2).b 0 2 2, aI 1, aS (L2 2).b 0 2 2, aI 1, aP (L2 2).b 1, aI 60, aS (L2 2).b 0 2 2, aI 0, aP (L2 2).b 0, aI 100, aI 60, aP (L2 2).b 1, aU, aI 1, aU], [.blk (b1) [.string (ByteArray.mk #[119, 101, 100, 103, 101]), aN 100, aN 50, .slice none 0 0, .bool (true), aN 0, aN 0, aN 200, .string (ByteArray.mk #[103, 97, 105, 110]), aN 50, aN 50, .slice (some ⟨b2, 0, none⟩) (1) (1), .bool (true), aN 10, aN 1, aN 210] 179 false, .blk (b2) [aN 0] 3 false, .blk ((L2 2).b) [aN 100, aN 60] 3 true, .blk ((L5 3).b) [.string (ByteArray.mk #[119, 101, 100, 103, 101]), aN 100, aN 50, .slice none 0 0, .bool (true), aN 0, aN 0, aN 200] 179 true, .blk ((L13 3).b) [.string (ByteArray.mk #[103, 97, 105, 110]), aN 50, aN 50, .slice (some ⟨b2, 0, none⟩) (1) (1), .bool (true), aN 10, aN 1, aN 210] 179 true], []⟩)
    (fun L20 => [(L2 2).b = (L2 2).b, (L2 2).b = (L2 2).b, (L2 2).b = (L2 2).b, 1 + 1 ≤ 2, 1 = 1, true = true])
    fol (by kernel_rfl) (fun _ => by kernel_rfl) (fun L20 => ⟨rfl, rfl, rfl, (by decide), rfl, rfl, trivial⟩) (fun L20 => ?_)
  refine nrm_inB ?_
  refine nrm_thn ?_
  refine aw_region [⟨.pure, [], none, true⟩, ⟨.pure, [0], none, true⟩]
    (fun L21 => ⟨[aS b1 0 2 2, aU, some (.slice none 0 0), aS (L2 2).b 0 2 2, aI 1, aP (L13 3).b 0, aU, aI 0, aS b1 0 2 2, aI 2, aS (L2 2).b 0 2 2, aS b1 0 2 2, aI 2, aI 1, aT, aI 1, aP b1 8, some (.agg #[.string (ByteArray.mk #[103, 97, 105, 110]), aN 50, aN 50, .slice (some ⟨b2, 0, none⟩) (1) (1), .bool (true), aN 10, aN 1, aN 210]), aS (L2 2).b 0 2 2, aI 1, aP (L2 2).b 1, aP (L13 3).b 4, aT, aS (L2 2).b 0 2 2, aI 1, aP (L13 3).b 5, aP (L13 3).b 5, aI 10, aP (L13 3).b 0, aP (L13 3).b 1, aI 50, aI 60, aP (L2 2).b 1, aP (L13 3).b 0, aP (L13 3).b 3, aS b2 0 1 1, aI 1, aI 1, aT, aP b2 0, aI 0, aS (L2 2).b 0 2 2, aI 1, aS (L2 2).b 0 2 2, aI 1, aP (L2 2).b 1, aI 60, aS (L2 2).b 0 2 2, aI 0, aP (L2 2).b 0, aI 100, aI 60, aP (L2 2).b 1, aI 1, aI 1, aU], [.blk (b1) [.string (ByteArray.mk #[119, 101, 100, 103, 101]), aN 100, aN 50, .slice none 0 0, .bool (true), aN 0, aN 0, aN 200, .string (ByteArray.mk #[103, 97, 105, 110]), aN 50, aN 50, .slice (some ⟨b2, 0, none⟩) (1) (1), .bool (true), aN 10, aN 1, aN 210] 179 false, .blk (b2) [aN 0] 3 false, .blk ((L2 2).b) [aN 100, aN 60] 3 true, .blk ((L5 3).b) [.string (ByteArray.mk #[119, 101, 100, 103, 101]), aN 100, aN 50, .slice none 0 0, .bool (true), aN 0, aN 0, aN 200] 179 true, .blk ((L13 3).b) [.string (ByteArray.mk #[103, 97, 105, 110]), aN 50, aN 50, .slice (some ⟨b2, 0, none⟩) (1) (1), .bool (true), aN 10, aN 1, aN 210] 179 true], []⟩)
    (fun L21 => [])
    fol (by kernel_rfl) (fun _ => by kernel_rfl) (fun L21 => trivial) (fun L21 => ?_)
  refine nrm_thn ?_
  refine awn_weak (σ' := ⟨[aS b1 0 2 2, aU, some (.slice none 0 0), aS (L2 2).b 0 2 2, aI 1, aP (L13 3).b 0, aU, aI 0, aS b1 0 2 2, aI 2, aS (L2 2).b 0 2 2, aS b1 0 2 2, aI 2, aI 1, aT, aI 1, aP b1 8, some (.agg #[.string (ByteArray.mk #[103, 97, 105, 110]), aN 50, aN 50, .slice (some ⟨b2, 0, none⟩) (1) (1), .bool (true), aN 10, aN 1, aN 210]), aS (L2 2).b 0 2 2, aI 1, aP (L2 2).b 1, aP (L13 3).b 4, aT, aS (L2 2).b 0 2 2, aI 1, aP (L13 3).b 5, aP (L13 3).b 5, aI 10, aP (L13 3).b 0, aP (L13 3).b 1, aI 50, aI 60, aP (L2 2).b 1, aP (L13 3).b 0, aP (L13 3).b 3, aS b2 0 1 1, aI 1, aI 1, aT, aP b2 0, aI 0, aS (L2 2).b 0 2 2, aI 1, aS (L2 2).b 0 2 2, aI 1, aP (L2 2).b 1, aI 60, aS (L2 2).b 0 2 2, aI 0, aP (L2 2).b 0, aI 100, aI 60, aP (L2 2).b 1, aI 1, aI 1, aU], [.blk (b1) [.string (ByteArray.mk #[119, 101, 100, 103, 101]), aN 100, aN 50, .slice none 0 0, .bool (true), aN 0, aN 0, aN 200, .string (ByteArray.mk #[103, 97, 105, 110]), aN 50, aN 50, .slice (some ⟨b2, 0, none⟩) (1) (1), .bool (true), aN 10, aN 1, aN 210] 179 false, .blk (b2) [aN 0] 3 false, .blk ((L2 2).b) [aN 100, aN 60] 3 true, .blk ((L13 3).b) [.string (ByteArray.mk #[103, 97, 105, 110]), aN 50, aN 50, .slice (some ⟨b2, 0, none⟩) (1) (1), .bool (true), aN 10, aN 1, aN 210] 179 true], []⟩) (weak_to [] [0, 1, 2, 4] (by decide) (by kernel_rfl)) ?_
  refine aw_round ?_
  refine aw_sr [⟨.pure, [], none, true⟩]
    (fun L22 => ⟨[aS b1 0 2 2, aU, some (.slice none 0 0), aS (L2 2).b 0 2 2, aI 1, aP (L13 3).b 0, aU, aI 0, aS b1 0 2 2, aI 2, aS (L2 2).b 0 2 2, aS b1 0 2 2, aI 2, aI 1, aT, aI 1, aP b1 8, some (.agg #[.string (ByteArray.mk #[103, 97, 105, 110]), aN 50, aN 50, .slice (some ⟨b2, 0, none⟩) (1) (1), .bool (true), aN 10, aN 1, aN 210]), aS (L2 2).b 0 2 2, aI 1, aP (L2 2).b 1, aP (L13 3).b 4, aT, aS (L2 2).b 0 2 2, aI 1, aP (L13 3).b 5, aP (L13 3).b 5, aI 10, aP (L13 3).b 0, aP (L13 3).b 1, aI 50, aI 60, aP (L2 2).b 1, aP (L13 3).b 0, aP (L13 3).b 3, aS b2 0 1 1, aI 1, aI 1, aF, aP b2 0, aI 0, aS (L2 2).b 0 2 2, aI 1, aS (L2 2).b 0 2 2, aI 1, aP (L2 2).b 1, aI 60, aS (L2 2).b 0 2 2, aI 0, aP (L2 2).b 0, aI 100, aI 60, aP (L2 2).b 1, aI 1, aI 1, aU], [.blk (b1) [.string (ByteArray.mk #[119, 101, 100, 103, 101]), aN 100, aN 50, .slice none 0 0, .bool (true), aN 0, aN 0, aN 200, .string (ByteArray.mk #[103, 97, 105, 110]), aN 50, aN 50, .slice (some ⟨b2, 0, none⟩) (1) (1), .bool (true), aN 10, aN 1, aN 210] 179 false, .blk (b2) [aN 0] 3 false, .blk ((L2 2).b) [aN 100, aN 60] 3 true, .blk ((L13 3).b) [.string (ByteArray.mk #[103, 97, 105, 110]), aN 50, aN 50, .slice (some ⟨b2, 0, none⟩) (1) (1), .bool (true), aN 10, aN 1, aN 210] 179 true], []⟩)
    (fun L22 => [])
    fol (by kernel_rfl) (fun _ => by kernel_rfl) (fun L22 => trivial) (fun L22 => ?_)
  refine aw_seq ?_
  refine aw_false (false) rfl rfl ?_
  refine aw_exit ?_
  refine ex_thn ?_
  refine ex_thn ?_
  refine ex_hit ?_
  refine nrm_inB ?_
  refine nrm_thn ?_
  refine aw_region [⟨.pure, [], none, true⟩, ⟨.pure, [0], none, true⟩]
    (fun L23 => ⟨[aS b1 0 2 2, aU, some (.slice none 0 0), aS (L2 2).b 0 2 2, aI 1, aP (L13 3).b 0, aU, aI 0, aS b1 0 2 2, aI 2, aS (L2 2).b 0 2 2, aS b1 0 2 2, aI 2, aI 2, aT, aI 1, aP b1 8, some (.agg #[.string (ByteArray.mk #[103, 97, 105, 110]), aN 50, aN 50, .slice (some ⟨b2, 0, none⟩) (1) (1), .bool (true), aN 10, aN 1, aN 210]), aS (L2 2).b 0 2 2, aI 1, aP (L2 2).b 1, aP (L13 3).b 4, aT, aS (L2 2).b 0 2 2, aI 1, aP (L13 3).b 5, aP (L13 3).b 5, aI 10, aP (L13 3).b 0, aP (L13 3).b 1, aI 50, aI 60, aP (L2 2).b 1, aP (L13 3).b 0, aP (L13 3).b 3, aS b2 0 1 1, aI 1, aI 1, aF, aP b2 0, aI 0, aS (L2 2).b 0 2 2, aI 1, aS (L2 2).b 0 2 2, aI 1, aP (L2 2).b 1, aI 60, aS (L2 2).b 0 2 2, aI 0, aP (L2 2).b 0, aI 100, aI 60, aP (L2 2).b 1, aI 1, aI 2, aU], [.blk (b1) [.string (ByteArray.mk #[119, 101, 100, 103, 101]), aN 100, aN 50, .slice none 0 0, .bool (true), aN 0, aN 0, aN 200, .string (ByteArray.mk #[103, 97, 105, 110]), aN 50, aN 50, .slice (some ⟨b2, 0, none⟩) (1) (1), .bool (true), aN 10, aN 1, aN 210] 179 false, .blk (b2) [aN 0] 3 false, .blk ((L2 2).b) [aN 100, aN 60] 3 true, .blk ((L13 3).b) [.string (ByteArray.mk #[103, 97, 105, 110]), aN 50, aN 50, .slice (some ⟨b2, 0, none⟩) (1) (1), .bool (true), aN 10, aN 1, aN 210] 179 true], []⟩)
    (fun L23 => [])
    fol (by kernel_rfl) (fun _ => by kernel_rfl) (fun L23 => trivial) (fun L23 => ?_)
  refine nrm_thn ?_
  refine aw_round ?_
  refine aw_sr [⟨.pure, [], none, true⟩]
    (fun L24 => ⟨[aS b1 0 2 2, aU, some (.slice none 0 0), aS (L2 2).b 0 2 2, aI 1, aP (L13 3).b 0, aU, aI 0, aS b1 0 2 2, aI 2, aS (L2 2).b 0 2 2, aS b1 0 2 2, aI 2, aI 2, aF, aI 1, aP b1 8, some (.agg #[.string (ByteArray.mk #[103, 97, 105, 110]), aN 50, aN 50, .slice (some ⟨b2, 0, none⟩) (1) (1), .bool (true), aN 10, aN 1, aN 210]), aS (L2 2).b 0 2 2, aI 1, aP (L2 2).b 1, aP (L13 3).b 4, aT, aS (L2 2).b 0 2 2, aI 1, aP (L13 3).b 5, aP (L13 3).b 5, aI 10, aP (L13 3).b 0, aP (L13 3).b 1, aI 50, aI 60, aP (L2 2).b 1, aP (L13 3).b 0, aP (L13 3).b 3, aS b2 0 1 1, aI 1, aI 1, aF, aP b2 0, aI 0, aS (L2 2).b 0 2 2, aI 1, aS (L2 2).b 0 2 2, aI 1, aP (L2 2).b 1, aI 60, aS (L2 2).b 0 2 2, aI 0, aP (L2 2).b 0, aI 100, aI 60, aP (L2 2).b 1, aI 1, aI 2, aU], [.blk (b1) [.string (ByteArray.mk #[119, 101, 100, 103, 101]), aN 100, aN 50, .slice none 0 0, .bool (true), aN 0, aN 0, aN 200, .string (ByteArray.mk #[103, 97, 105, 110]), aN 50, aN 50, .slice (some ⟨b2, 0, none⟩) (1) (1), .bool (true), aN 10, aN 1, aN 210] 179 false, .blk (b2) [aN 0] 3 false, .blk ((L2 2).b) [aN 100, aN 60] 3 true, .blk ((L13 3).b) [.string (ByteArray.mk #[103, 97, 105, 110]), aN 50, aN 50, .slice (some ⟨b2, 0, none⟩) (1) (1), .bool (true), aN 10, aN 1, aN 210] 179 true], []⟩)
    (fun L24 => [])
    fol (by kernel_rfl) (fun _ => by kernel_rfl) (fun L24 => trivial) (fun L24 => ?_)
  refine aw_seq ?_
  refine aw_false (false) rfl rfl ?_
  refine aw_exit ?_
  refine ex_thn ?_
  refine ex_thn ?_
  refine ex_hit ?_
  refine nrm_thn ?_
  refine aw_sr [⟨.pure, [], none, true⟩, ⟨.pure, [0], none, true⟩]
    (fun L25 => ⟨[aS b1 0 2 2, aU, aS (L2 2).b 0 2 2, aS (L2 2).b 0 2 2, aI 1, aP (L13 3).b 0, aU, aI 0, aS b1 0 2 2, aI 2, aS (L2 2).b 0 2 2, aS b1 0 2 2, aI 2, aI 2, aF, aI 1, aP b1 8, some (.agg #[.string (ByteArray.mk #[103, 97, 105, 110]), aN 50, aN 50, .slice (some ⟨b2, 0, none⟩) (1) (1), .bool (true), aN 10, aN 1, aN 210]), aS (L2 2).b 0 2 2, aI 1, aP (L2 2).b 1, aP (L13 3).b 4, aT, aS (L2 2).b 0 2 2, aI 1, aP (L13 3).b 5, aP (L13 3).b 5, aI 10, aP (L13 3).b 0, aP (L13 3).b 1, aI 50, aI 60, aP (L2 2).b 1, aP (L13 3).b 0, aP (L13 3).b 3, aS b2 0 1 1, aI 1, aI 1, aF, aP b2 0, aI 0, aS (L2 2).b 0 2 2, aI 1, aS (L2 2).b 0 2 2, aI 1, aP (L2 2).b 1, aI 60, aS (L2 2).b 0 2 2, aI 0, aP (L2 2).b 0, aI 100, aI 60, aP (L2 2).b 1, aI 1, aI 2, aS (L2 2).b 0 2 2], [.blk (b1) [.string (ByteArray.mk #[119, 101, 100, 103, 101]), aN 100, aN 50, .slice none 0 0, .bool (true), aN 0, aN 0, aN 200, .string (ByteArray.mk #[103, 97, 105, 110]), aN 50, aN 50, .slice (some ⟨b2, 0, none⟩) (1) (1), .bool (true), aN 10, aN 1, aN 210] 179 false, .blk (b2) [aN 0] 3 false, .blk ((L2 2).b) [aN 100, aN 60] 3 true, .blk ((L13 3).b) [.string (ByteArray.mk #[103, 97, 105, 110]), aN 50, aN 50, .slice (some ⟨b2, 0, none⟩) (1) (1), .bool (true), aN 10, aN 1, aN 210] 179 true], []⟩)
    (fun L25 => [])
    fol (by kernel_rfl) (fun _ => by kernel_rfl) (fun L25 => trivial) (fun L25 => ?_)
  refine aw_ret ?_
  exact fin_new none [0] (.slice (some ⟨(L2 2).b, 0, none⟩) (2) (2)) [] (⟨(L2 2).b, none, 0⟩) (fun l => .slice (some ⟨l.b, 0, none⟩) (2) (2)) (fun l => .blk (l.b) [aN 100, aN 60] 3 true) 2 (.inr rfl) rfl (by kernel_rfl) trivial rfl rfl rfl

-- couplant/tune.lastMinute
set_option maxRecDepth 100000 in
set_option maxHeartbeats 400000 in
theorem UA.i_149 (b1 : Nat) : CallOb Try.prog 123 #[.slice (some ⟨b1, 0, none⟩) (2) (2)] [.blk (b1) [aN 0, aN 0, aN 200, aN 10, aN 1, aN 210] 110 false] (aN 10) := by
  intro w hw
  refine calls_aw [aS b1 0 2 2, aU, aU, aU, aU, aU, aU, aU, aU, aU, aU, aU, aU] [.blk (b1) [aN 0, aN 0, aN 200, aN 10, aN 1, aN 210] 110 false] Try.func123 rfl (by kernel_rfl) (esOk hw (by simp [Cel.mine])) ?_
  refine aw_sr [⟨.pure, [], none, true⟩]
    (fun L1 => ⟨[aS b1 0 2 2, aU, aI 0, aU, aU, aU, aU, aU, aU, aU, aU, aU, aU], [.blk (b1) [aN 0, aN 0, aN 200, aN 10, aN 1, aN 210] 110 false], []⟩)
    (fun L1 => [])
    fol (by kernel_rfl) (fun _ => by kernel_rfl) (fun L1 => trivial) (fun L1 => ?_)
  refine aw_seq ?_
  refine aw_sr [⟨.pure, [], none, true⟩, ⟨.pure, [0], none, true⟩, ⟨.pure, [0, 1], none, true⟩]
    (fun L2 => ⟨[aS b1 0 2 2, aU, aI 0, aS b1 0 2 2, aI 2, aF, aU, aU, aU, aU, aU, aU, aU], [.blk (b1) [aN 0, aN 0, aN 200, aN 10, aN 1, aN 210] 110 false], []⟩)
    (fun L2 => [])
    fol (by kernel_rfl) (fun _ => by kernel_rfl) (fun L2 => trivial) (fun L2 => ?_)
  refine aw_false (false) rfl rfl ?_
  refine aw_skip ?_
  refine nrm_thn ?_
  refine aw_sr [⟨.pure, [], none, true⟩, ⟨.pure, [], none, true⟩, ⟨.pure, [1], none, true⟩, ⟨.pure, [1, 2], none, true⟩, ⟨.pure, [0, 1, 2, 3], none, true⟩, ⟨.pure, [0, 1, 2, 3, 4], none, true⟩, ⟨(.read 0), [0, 1, 2, 3, 4, 5], none, true⟩, ⟨.pure, [0, 1, 2, 3, 4, 5, 6], none, true⟩]
    (fun L3 => ⟨[aS b1 0 2 2, aU, aI 10, aS b1 0 2 2, aI 2, aF, aS b1 0 2 2, aS b1 0 2 2, aI 2, aI 1, aP b1 3, aP b1 3, aI 10], [.blk (b1) [aN 0, aN 0, aN 200, aN 10, aN 1, aN 210] 110 false], []⟩)
    (fun L3 => [b1 = b1])
    fol (by kernel_rfl) (fun _ => by kernel_rfl) (fun L3 => ⟨rfl, trivial⟩) (fun L3 => ?_)
  refine aw_ret ?_
  exact fin_ret none [0] (aN 10) [] (.inr rfl) rfl (by kernel_rfl) trivial (fun w' hb => ⟨rfl, hb⟩)

end Go.Proofs.Ytipckfokanlcoaa
