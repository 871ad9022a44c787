/-
  AWAKE of chapter 6, at its fixed arguments.
-/
import Derived.Test.YtipckfokanlcoaaUAwake1
set_option linter.unusedVariables false
set_option linter.unusedSimpArgs false
namespace Go.Proofs.Ytipckfokanlcoaa
open Go Go.RowKit

open Ag
-- couplant/base.isName
set_option maxRecDepth 100000 in
set_option maxHeartbeats 400000 in
theorem UA.i_86 : CallOb Try.prog 139 #[.string (ByteArray.mk #[119, 101, 100, 103, 101])] [] (.bool (true)) := by
  intro w hw
  refine calls_aw [some (.string (ByteArray.mk #[119, 101, 100, 103, 101])), aU, aU, aU, aU, aU, aU, aU, aU, aU, aU, aU, aU, aU, aU, aU, aU, aU, aU, aU, aU, aU, aU, aU, aU, aU, aU, aU, aU, aU, aU, aU, aU] [] Try.func139 rfl (by kernel_rfl) (fun e x h => by cases h) ?_
  refine aw_sr [⟨.pure, [], none, true⟩]
    (fun L1 => ⟨[some (.string (ByteArray.mk #[119, 101, 100, 103, 101])), aU, aF, aU, aU, aU, aU, aU, aU, aU, aU, aU, aU, aU, aU, aU, aU, aU, aU, aU, aU, aU, aU, aU, aU, aU, aU, aU, aU, aU, aU, aU, aU], [], []⟩)
    (fun L1 => [])
    fol (by kernel_rfl) (fun _ => by kernel_rfl) (fun L1 => trivial) (fun L1 => ?_)
  refine aw_seq ?_
  refine aw_sr [⟨.pure, [], none, true⟩, ⟨.pure, [0], none, true⟩, ⟨.pure, [], none, true⟩]
    (fun L2 => ⟨[some (.string (ByteArray.mk #[119, 101, 100, 103, 101])), aU, aF, aU, aU, some (.string (ByteArray.mk #[119, 101, 100, 103, 101])), aI 5, aI 0, aU, aU, aU, aU, aU, aU, aU, aU, aU, aU, aU, aU, aU, aU, aU, aU, aU, aU, aU, aU, aU, aU, aU, aU, aU], [], []⟩)
    (fun L2 => [])
    fol (by kernel_rfl) (fun _ => by kernel_rfl) (fun L2 => trivial) (fun L2 => ?_)
  refine aw_block ?_
  refine aw_rounds 6 ?_
  refine aw_round ?_
  refine aw_sr [⟨.pure, [], none, true⟩]
    (fun L3 => ⟨[some (.string (ByteArray.mk #[119, 101, 100, 103, 101])), aU, aF, aU, aU, some (.string (ByteArray.mk #[119, 101, 100, 103, 101])), aI 5, aI 0, aT, aU, aU, aU, aU, aU, aU, aU, aU, aU, aU, aU, aU, aU, aU, aU, aU, aU, aU, aU, aU, aU, aU, aU, aU], [], []⟩)
    (fun L3 => [])
    fol (by kernel_rfl) (fun _ => by kernel_rfl) (fun L3 => trivial) (fun L3 => ?_)
  refine aw_seq ?_
  refine aw_true (true) rfl rfl ?_
  refine aw_skip ?_
  refine nrm_thn ?_
  refine aw_seq ?_
  refine aw_block ?_
  refine aw_sr [⟨.pure, [], none, true⟩, ⟨.pure, [0], none, true⟩]
    (fun L4 => ⟨[some (.string (ByteArray.mk #[119, 101, 100, 103, 101])), aU, aF, aI 0, aU, some (.string (ByteArray.mk #[119, 101, 100, 103, 101])), aI 5, aI 0, aT, aI 0, aU, aU, aU, aU, aU, aU, aU, aU, aU, aU, aU, aU, aU, aU, aU, aU, aU, aU, aU, aU, aU, aU, aU], [], []⟩)
    (fun L4 => [])
    fol (by kernel_rfl) (fun _ => by kernel_rfl) (fun L4 => trivial) (fun L4 => ?_)
  refine aw_sr [⟨.pure, [], none, true⟩, ⟨.pure, [], none, true⟩, ⟨.pure, [0, 1], none, true⟩, ⟨.pure, [0, 1, 2], none, true⟩]
    (fun L5 => ⟨[some (.string (ByteArray.mk #[119, 101, 100, 103, 101])), aU, aF, aI 0, some (.int .u8 (119)), some (.string (ByteArray.mk #[119, 101, 100, 103, 101])), aI 5, aI 0, aT, aI 0, some (.string (ByteArray.mk #[119, 101, 100, 103, 101])), aI 0, some (.int .u8 (119)), aU, aU, aU, aU, aU, aU, aU, aU, aU, aU, aU, aU, aU, aU, aU, aU, aU, aU, aU, aU], [], []⟩)
    (fun L5 => [])
    fol (by kernel_rfl) (fun _ => by kernel_rfl) (fun L5 => trivial) (fun L5 => ?_)
  refine aw_sr [⟨.pure, [], none, true⟩, ⟨(.call [] (.bool (true))), [0], none, true⟩, ⟨.pure, [0, 1], none, true⟩, ⟨.pure, [0, 1, 2], none, true⟩, ⟨.pure, [0, 1, 2, 3], none, false⟩, ⟨.pure, [0, 1, 2, 3, 4], none, false⟩, ⟨.pure, [0, 1, 2, 3, 4, 5], none, false⟩, ⟨.pure, [0, 1, 2, 3, 4, 5, 6], none, false⟩, ⟨.pure, [0, 1, 2, 3, 4, 5, 6, 7], none, false⟩, ⟨.pure, [0, 1, 2, 3, 4, 5, 6, 7, 8], none, false⟩, ⟨.pure, [0, 1, 2, 3, 4, 5, 6, 7, 8, 9], none, false⟩, ⟨.pure, [0, 1, 2, 3, 4, 5, 6, 7, 8, 9, 10], none, false⟩, ⟨.pure, [0, 1, 2, 3, 4, 5, 6, 7, 8, 9, 10, 11], none, false⟩, ⟨.pure, [0, 1, 2, 3, 4, 5, 6, 7, 8, 9, 10, 11, 12], none, false⟩, ⟨.pure, [0, 1, 2, 3, 4, 5, 6, 7, 8, 9, 10, 11, 12, 13], none, false⟩, ⟨.pure, [0, 1, 2, 3, 4, 5, 6, 7, 8, 9, 10, 11, 12, 13, 14], aF, true⟩]
    (fun L6 => ⟨[some (.string (ByteArray.mk #[119, 101, 100, 103, 101])), aU, aF, aI 0, some (.int .u8 (119)), some (.string (ByteArray.mk #[119, 101, 100, 103, 101])), aI 5, aI 0, aT, aI 0, some (.string (ByteArray.mk #[119, 101, 100, 103, 101])), aI 0, some (.int .u8 (119)), some (.int .u8 (119)), aT, aF, aF, aU, aU, aU, aU, aU, aU, aU, aU, aU, aU, aU, aF, aU, aU, aU, aU], [], []⟩)
    (fun L6 => [CallOb Try.prog 151 #[.int .u8 (119)] [] (.bool (true)), (false) = false, (false) = false, (false) = false, (false) = false, (.bool (false) : Value) = .bool (false)])
    fol (by kernel_rfl) (fun _ => by kernel_rfl) (fun L6 => ⟨(callOb_frz (UA.i_81  )), rfl, rfl, rfl, rfl, rfl, trivial⟩) (fun L6 => ?_)
  refine aw_false (false) rfl rfl ?_
  refine aw_skip ?_
  refine nrm_inB ?_
  refine nrm_thn ?_
  refine aw_region [⟨.pure, [], none, true⟩, ⟨.pure, [0], none, true⟩]
    (fun L7 => ⟨[some (.string (ByteArray.mk #[119, 101, 100, 103, 101])), aU, aF, aI 0, some (.int .u8 (119)), some (.string (ByteArray.mk #[119, 101, 100, 103, 101])), aI 5, aI 1, aT, aI 0, some (.string (ByteArray.mk #[119, 101, 100, 103, 101])), aI 0, some (.int .u8 (119)), some (.int .u8 (119)), aT, aF, aF, aU, aU, aU, aU, aU, aU, aU, aU, aU, aU, aU, aF, aI 1, aU, aU, aU], [], []⟩)
    (fun L7 => [])
    fol (by kernel_rfl) (fun _ => by kernel_rfl) (fun L7 => trivial) (fun L7 => ?_)
  refine nrm_thn ?_
  refine aw_round ?_
  refine aw_sr [⟨.pure, [], none, true⟩]
    (fun L8 => ⟨[some (.string (ByteArray.mk #[119, 101, 100, 103, 101])), aU, aF, aI 0, some (.int .u8 (119)), some (.string (ByteArray.mk #[119, 101, 100, 103, 101])), aI 5, aI 1, aT, aI 0, some (.string (ByteArray.mk #[119, 101, 100, 103, 101])), aI 0, some (.int .u8 (119)), some (.int .u8 (119)), aT, aF, aF, aU, aU, aU, aU, aU, aU, aU, aU, aU, aU, aU, aF, aI 1, aU, aU, aU], [], []⟩)
    (fun L8 => [])
    fol (by kernel_rfl) (fun _ => by kernel_rfl) (fun L8 => trivial) (fun L8 => ?_)
  refine aw_seq ?_
  refine aw_true (true) rfl rfl ?_
  refine aw_skip ?_
  refine nrm_thn ?_
  refine aw_seq ?_
  refine aw_block ?_
  refine aw_sr [⟨.pure, [], none, true⟩, ⟨.pure, [0], none, true⟩]
    (fun L9 => ⟨[some (.string (ByteArray.mk #[119, 101, 100, 103, 101])), aU, aF, aI 1, some (.int .u8 (119)), some (.string (ByteArray.mk #[119, 101, 100, 103, 101])), aI 5, aI 1, aT, aI 1, some (.string (ByteArray.mk #[119, 101, 100, 103, 101])), aI 0, some (.int .u8 (119)), some (.int .u8 (119)), aT, aF, aF, aU, aU, aU, aU, aU, aU, aU, aU, aU, aU, aU, aF, aI 1, aU, aU, aU], [], []⟩)
    (fun L9 => [])
    fol (by kernel_rfl) (fun _ => by kernel_rfl) (fun L9 => trivial) (fun L9 => ?_)
  refine aw_sr [⟨.pure, [], none, true⟩, ⟨.pure, [], none, true⟩, ⟨.pure, [0, 1], none, true⟩, ⟨.pure, [0, 1, 2], none, true⟩]
    (fun L10 => ⟨[some (.string (ByteArray.mk #[119, 101, 100, 103, 101])), aU, aF, aI 1, some (.int .u8 (101)), some (.string (ByteArray.mk #[119, 101, 100, 103, 101])), aI 5, aI 1, aT, aI 1, some (.string (ByteArray.mk #[119, 101, 100, 103, 101])), aI 1, some (.int .u8 (101)), some (.int .u8 (119)), aT, aF, aF, aU, aU, aU, aU, aU, aU, aU, aU, aU, aU, aU, aF, aI 1, aU, aU, aU], [], []⟩)
    (fun L10 => [])
    fol (by kernel_rfl) (fun _ => by kernel_rfl) (fun L10 => trivial) (fun L10 => ?_)
  refine aw_sr [⟨.pure, [], none, true⟩, ⟨(.call [] (.bool (true))), [0], none, true⟩, ⟨.pure, [0, 1], none, true⟩, ⟨.pure, [0, 1, 2], none, true⟩, ⟨.pure, [0, 1, 2, 3], none, false⟩, ⟨.pure, [0, 1, 2, 3, 4], none, false⟩, ⟨.pure, [0, 1, 2, 3, 4, 5], none, false⟩, ⟨.pure, [0, 1, 2, 3, 4, 5, 6], none, false⟩, ⟨.pure, [0, 1, 2, 3, 4, 5, 6, 7], none, false⟩, ⟨.pure, [0, 1, 2, 3, 4, 5, 6, 7, 8], none, false⟩, ⟨.pure, [0, 1, 2, 3, 4, 5, 6, 7, 8, 9], none, false⟩, ⟨.pure, [0, 1, 2, 3, 4, 5, 6, 7, 8, 9, 10], none, false⟩, ⟨.pure, [0, 1, 2, 3, 4, 5, 6, 7, 8, 9, 10, 11], none, false⟩, ⟨.pure, [0, 1, 2, 3, 4, 5, 6, 7, 8, 9, 10, 11, 12], none, false⟩, ⟨.pure, [0, 1, 2, 3, 4, 5, 6, 7, 8, 9, 10, 11, 12, 13], none, false⟩, ⟨.pure, [0, 1, 2, 3, 4, 5, 6, 7, 8, 9, 10, 11, 12, 13, 14], aF, true⟩]
    (fun L11 => ⟨[some (.string (ByteArray.mk #[119, 101, 100, 103, 101])), aU, aF, aI 1, some (.int .u8 (101)), some (.string (ByteArray.mk #[119, 101, 100, 103, 101])), aI 5, aI 1, aT, aI 1, some (.string (ByteArray.mk #[119, 101, 100, 103, 101])), aI 1, some (.int .u8 (101)), some (.int .u8 (101)), aT, aF, aF, aU, aU, aU, aU, aU, aU, aU, aU, aU, aU, aU, aF, aI 1, aU, aU, aU], [], []⟩)
    (fun L11 => [CallOb Try.prog 151 #[.int .u8 (101)] [] (.bool (true)), (false) = false, (false) = false, (false) = false, (false) = false, (.bool (false) : Value) = .bool (false)])
    fol (by kernel_rfl) (fun _ => by kernel_rfl) (fun L11 => ⟨(callOb_frz (UA.i_82  )), rfl, rfl, rfl, rfl, rfl, trivial⟩) (fun L11 => ?_)
  refine aw_false (false) rfl rfl ?_
  refine aw_skip ?_
  refine nrm_inB ?_
  refine nrm_thn ?_
  refine aw_region [⟨.pure, [], none, true⟩, ⟨.pure, [0], none, true⟩]
    (fun L12 => ⟨[some (.string (ByteArray.mk #[119, 101, 100, 103, 101])), aU, aF, aI 1, some (.int .u8 (101)), some (.string (ByteArray.mk #[119, 101, 100, 103, 101])), aI 5, aI 2, aT, aI 1, some (.string (ByteArray.mk #[119, 101, 100, 103, 101])), aI 1, some (.int .u8 (101)), some (.int .u8 (101)), aT, aF, aF, aU, aU, aU, aU, aU, aU, aU, aU, aU, aU, aU, aF, aI 2, aU, aU, aU], [], []⟩)
    (fun L12 => [])
    fol (by kernel_rfl) (fun _ => by kernel_rfl) (fun L12 => trivial) (fun L12 => ?_)
  refine nrm_thn ?_
  refine aw_round ?_
  refine aw_sr [⟨.pure, [], none, true⟩]
    (fun L13 => ⟨[some (.string (ByteArray.mk #[119, 101, 100, 103, 101])), aU, aF, aI 1, some (.int .u8 (101)), some (.string (ByteArray.mk #[119, 101, 100, 103, 101])), aI 5, aI 2, aT, aI 1, some (.string (ByteArray.mk #[119, 101, 100, 103, 101])), aI 1, some (.int .u8 (101)), some (.int .u8 (101)), aT, aF, aF, aU, aU, aU, aU, aU, aU, aU, aU, aU, aU, aU, aF, aI 2, aU, aU, aU], [], []⟩)
    (fun L13 => [])
    fol (by kernel_rfl) (fun _ => by kernel_rfl) (fun L13 => trivial) (fun L13 => ?_)
  refine aw_seq ?_
  refine aw_true (true) rfl rfl ?_
  refine aw_skip ?_
  refine nrm_thn ?_
  refine aw_seq ?_
  refine aw_block ?_
  refine aw_sr [⟨.pure, [], none, true⟩, ⟨.pure, [0], none, true⟩]
    (fun L14 => ⟨[some (.string (ByteArray.mk #[119, 101, 100, 103, 101])), aU, aF, aI 2, some (.int .u8 (101)), some (.string (ByteArray.mk #[119, 101, 100, 103, 101])), aI 5, aI 2, aT, aI 2, some (.string (ByteArray.mk #[119, 101, 100, 103, 101])), aI 1, some (.int .u8 (101)), some (.int .u8 (101)), aT, aF, aF, aU, aU, aU, aU, aU, aU, aU, aU, aU, aU, aU, aF, aI 2, aU, aU, aU], [], []⟩)
    (fun L14 => [])
    fol (by kernel_rfl) (fun _ => by kernel_rfl) (fun L14 => trivial) (fun L14 => ?_)
  refine aw_sr [⟨.pure, [], none, true⟩, ⟨.pure, [], none, true⟩, ⟨.pure, [0, 1], none, true⟩, ⟨.pure, [0, 1, 2], none, true⟩]
    (fun L15 => ⟨[some (.string (ByteArray.mk #[119, 101, 100, 103, 101])), aU, aF, aI 2, some (.int .u8 (100)), some (.string (ByteArray.mk #[119, 101, 100, 103, 101])), aI 5, aI 2, aT, aI 2, some (.string (ByteArray.mk #[119, 101, 100, 103, 101])), aI 2, some (.int .u8 (100)), some (.int .u8 (101)), aT, aF, aF, aU, aU, aU, aU, aU, aU, aU, aU, aU, aU, aU, aF, aI 2, aU, aU, aU], [], []⟩)
    (fun L15 => [])
    fol (by kernel_rfl) (fun _ => by kernel_rfl) (fun L15 => trivial) (fun L15 => ?_)
  refine aw_sr [⟨.pure, [], none, true⟩, ⟨(.call [] (.bool (true))), [0], none, true⟩, ⟨.pure, [0, 1], none, true⟩, ⟨.pure, [0, 1, 2], none, true⟩, ⟨.pure, [0, 1, 2, 3], none, false⟩, ⟨.pure, [0, 1, 2, 3, 4], none, false⟩, ⟨.pure, [0, 1, 2, 3, 4, 5], none, false⟩, ⟨.pure, [0, 1, 2, 3, 4, 5, 6], none, false⟩, ⟨.pure, [0, 1, 2, 3, 4, 5, 6, 7], none, false⟩, ⟨.pure, [0, 1, 2, 3, 4, 5, 6, 7, 8], none, false⟩, ⟨.pure, [0, 1, 2, 3, 4, 5, 6, 7, 8, 9], none, false⟩, ⟨.pure, [0, 1, 2, 3, 4, 5, 6, 7, 8, 9, 10], none, false⟩, ⟨.pure, [0, 1, 2, 3, 4, 5, 6, 7, 8, 9, 10, 11], none, false⟩, ⟨.pure, [0, 1, 2, 3, 4, 5, 6, 7, 8, 9, 10, 11, 12], none, false⟩, ⟨.pure, [0, 1, 2, 3, 4, 5, 6, 7, 8, 9, 10, 11, 12, 13], none, false⟩, ⟨.pure, [0, 1, 2, 3, 4, 5, 6, 7, 8, 9, 10, 11, 12, 13, 14], aF, true⟩]
    (fun L16 => ⟨[some (.string (ByteArray.mk #[119, 101, 100, 103, 101])), aU, aF, aI 2, some (.int .u8 (100)), some (.string (ByteArray.mk #[119, 101, 100, 103, 101])), aI 5, aI 2, aT, aI 2, some (.string (ByteArray.mk #[119, 101, 100, 103, 101])), aI 2, some (.int .u8 (100)), some (.int .u8 (100)), aT, aF, aF, aU, aU, aU, aU, aU, aU, aU, aU, aU, aU, aU, aF, aI 2, aU, aU, aU], [], []⟩)
    (fun L16 => [CallOb Try.prog 151 #[.int .u8 (100)] [] (.bool (true)), (false) = false, (false) = false, (false) = false, (false) = false, (.bool (false) : Value) = .bool (false)])
    fol (by kernel_rfl) (fun _ => by kernel_rfl) (fun L16 => ⟨(callOb_frz (UA.i_83  )), rfl, rfl, rfl, rfl, rfl, trivial⟩) (fun L16 => ?_)
  refine aw_false (false) rfl rfl ?_
  refine aw_skip ?_
  refine nrm_inB ?_
  refine nrm_thn ?_
  refine aw_region [⟨.pure, [], none, true⟩, ⟨.pure, [0], none, true⟩]
    (fun L17 => ⟨[some (.string (ByteArray.mk #[119, 101, 100, 103, 101])), aU, aF, aI 2, some (.int .u8 (100)), some (.string (ByteArray.mk #[119, 101, 100, 103, 101])), aI 5, aI 3, aT, aI 2, some (.string (ByteArray.mk #[119, 101, 100, 103, 101])), aI 2, some (.int .u8 (100)), some (.int .u8 (100)), aT, aF, aF, aU, aU, aU, aU, aU, aU, aU, aU, aU, aU, aU, aF, aI 3, aU, aU, aU], [], []⟩)
    (fun L17 => [])
    fol (by kernel_rfl) (fun _ => by kernel_rfl) (fun L17 => trivial) (fun L17 => ?_)
  refine nrm_thn ?_
  refine aw_round ?_
  refine aw_sr [⟨.pure, [], none, true⟩]
    (fun L18 => ⟨[some (.string (ByteArray.mk #[119, 101, 100, 103, 101])), aU, aF, aI 2, some (.int .u8 (100)), some (.string (ByteArray.mk #[119, 101, 100, 103, 101])), aI 5, aI 3, aT, aI 2, some (.string (ByteArray.mk #[119, 101, 100, 103, 101])), aI 2, some (.int .u8 (100)), some (.int .u8 (100)), aT, aF, aF, aU, aU, aU, aU, aU, aU, aU, aU, aU, aU, aU, aF, aI 3, aU, aU, aU], [], []⟩)
    (fun L18 => [])
    fol (by kernel_rfl) (fun _ => by kernel_rfl) (fun L18 => trivial) (fun L18 => ?_)
  refine aw_seq ?_
  refine aw_true (true) rfl rfl ?_
  refine aw_skip ?_
  refine nrm_thn ?_
  refine aw_seq ?_
  refine aw_block ?_
  refine aw_sr [⟨.pure, [], none, true⟩, ⟨.pure, [0], none, true⟩]
    (fun L19 => ⟨[some (.string (ByteArray.mk #[119, 101, 100, 103, 101])), aU, aF, aI 3, some (.int .u8 (100)), some (.string (ByteArray.mk #[119, 101, 100, 103, 101])), aI 5, aI 3, aT, aI 3, some (.string (ByteArray.mk #[119, 101, 100, 103, 101])), aI 2, some (.int .u8 (100)), some (.int .u8 (100)), aT, aF, aF, aU, aU, aU, aU, aU, aU, aU, aU, aU, aU, aU, aF, aI 3, aU, aU, aU], [], []⟩)
    (fun L19 => [])
    fol (by kernel_rfl) (fun _ => by kernel_rfl) (fun L19 => trivial) (fun L19 => ?_)
  refine aw_sr [⟨.pure, [], none, true⟩, ⟨.pure, [], none, true⟩, ⟨.pure, [0, 1], none, true⟩, ⟨.pure, [0, 1, 2], none, true⟩]
    (fun L20 => ⟨[some (.string (ByteArray.mk #[119, 101, 100, 103, 101])), aU, aF, aI 3, some (.int .u8 (103)), some (.string (ByteArray.mk #[119, 101, 100, 103, 101])), aI 5, aI 3, aT, aI 3, some (.string (ByteArray.mk #[119, 101, 100, 103, 101])), aI 3, some (.int .u8 (103)), some (.int .u8 (100)), aT, aF, aF, aU, aU, aU, aU, aU, aU, aU, aU, aU, aU, aU, aF, aI 3, aU, aU, aU], [], []⟩)
    (fun L20 => [])
    fol (by kernel_rfl) (fun _ => by kernel_rfl) (fun L20 => trivial) (fun L20 => ?_)
  refine aw_sr [⟨.pure, [], none, true⟩, ⟨(.call [] (.bool (true))), [0], none, true⟩, ⟨.pure, [0, 1], none, true⟩, ⟨.pure, [0, 1, 2], none, true⟩, ⟨.pure, [0, 1, 2, 3], none, false⟩, ⟨.pure, [0, 1, 2, 3, 4], none, false⟩, ⟨.pure, [0, 1, 2, 3, 4, 5], none, false⟩, ⟨.pure, [0, 1, 2, 3, 4, 5, 6], none, false⟩, ⟨.pure, [0, 1, 2, 3, 4, 5, 6, 7], none, false⟩, ⟨.pure, [0, 1, 2, 3, 4, 5, 6, 7, 8], none, false⟩, ⟨.pure, [0, 1, 2, 3, 4, 5, 6, 7, 8, 9], none, false⟩, ⟨.pure, [0, 1, 2, 3, 4, 5, 6, 7, 8, 9, 10], none, false⟩, ⟨.pure, [0, 1, 2, 3, 4, 5, 6, 7, 8, 9, 10, 11], none, false⟩, ⟨.pure, [0, 1, 2, 3, 4, 5, 6, 7, 8, 9, 10, 11, 12], none, false⟩, ⟨.pure, [0, 1, 2, 3, 4, 5, 6, 7, 8, 9, 10, 11, 12, 13], none, false⟩, ⟨.pure, [0, 1, 2, 3, 4, 5, 6, 7, 8, 9, 10, 11, 12, 13, 14], aF, true⟩]
    (fun L21 => ⟨[some (.string (ByteArray.mk #[119, 101, 100, 103, 101])), aU, aF, aI 3, some (.int .u8 (103)), some (.string (ByteArray.mk #[119, 101, 100, 103, 101])), aI 5, aI 3, aT, aI 3, some (.string (ByteArray.mk #[119, 101, 100, 103, 101])), aI 3, some (.int .u8 (103)), some (.int .u8 (103)), aT, aF, aF, aU, aU, aU, aU, aU, aU, aU, aU, aU, aU, aU, aF, aI 3, aU, aU, aU], [], []⟩)
    (fun L21 => [CallOb Try.prog 151 #[.int .u8 (103)] [] (.bool (true)), (false) = false, (false) = false, (false) = false, (false) = false, (.bool (false) : Value) = .bool (false)])
    fol (by kernel_rfl) (fun _ => by kernel_rfl) (fun L21 => ⟨(callOb_frz (UA.i_84  )), rfl, rfl, rfl, rfl, rfl, trivial⟩) (fun L21 => ?_)
  refine aw_false (false) rfl rfl ?_
  refine aw_skip ?_
  refine nrm_inB ?_
  refine nrm_thn ?_
  refine aw_region [⟨.pure, [], none, true⟩, ⟨.pure, [0], none, true⟩]
    (fun L22 => ⟨[some (.string (ByteArray.mk #[119, 101, 100, 103, 101])), aU, aF, aI 3, some (.int .u8 (103)), some (.string (ByteArray.mk #[119, 101, 100, 103, 101])), aI 5, aI 4, aT, aI 3, some (.string (ByteArray.mk #[119, 101, 100, 103, 101])), aI 3, some (.int .u8 (103)), some (.int .u8 (103)), aT, aF, aF, aU, aU, aU, aU, aU, aU, aU, aU, aU, aU, aU, aF, aI 4, aU, aU, aU], [], []⟩)
    (fun L22 => [])
    fol (by kernel_rfl) (fun _ => by kernel_rfl) (fun L22 => trivial) (fun L22 => ?_)
  refine nrm_thn ?_
  refine aw_round ?_
  refine aw_sr [⟨.pure, [], none, true⟩]
    (fun L23 => ⟨[some (.string (ByteArray.mk #[119, 101, 100, 103, 101])), aU, aF, aI 3, some (.int .u8 (103)), some (.string (ByteArray.mk #[119, 101, 100, 103, 101])), aI 5, aI 4, aT, aI 3, some (.string (ByteArray.mk #[119, 101, 100, 103, 101])), aI 3, some (.int .u8 (103)), some (.int .u8 (103)), aT, aF, aF, aU, aU, aU, aU, aU, aU, aU, aU, aU, aU, aU, aF, aI 4, aU, aU, aU], [], []⟩)
    (fun L23 => [])
    fol (by kernel_rfl) (fun _ => by kernel_rfl) (fun L23 => trivial) (fun L23 => ?_)
  refine aw_seq ?_
  refine aw_true (true) rfl rfl ?_
  refine aw_skip ?_
  refine nrm_thn ?_
  refine aw_seq ?_
  refine aw_block ?_
  refine aw_sr [⟨.pure, [], none, true⟩, ⟨.pure, [0], none, true⟩]
    (fun L24 => ⟨[some (.string (ByteArray.mk #[119, 101, 100, 103, 101])), aU, aF, aI 4, some (.int .u8 (103)), some (.string (ByteArray.mk #[119, 101, 100, 103, 101])), aI 5, aI 4, aT, aI 4, some (.string (ByteArray.mk #[119, 101, 100, 103, 101])), aI 3, some (.int .u8 (103)), some (.int .u8 (103)), aT, aF, aF, aU, aU, aU, aU, aU, aU, aU, aU, aU, aU, aU, aF, aI 4, aU, aU, aU], [], []⟩)
    (fun L24 => [])
    fol (by kernel_rfl) (fun _ => by kernel_rfl) (fun L24 => trivial) (fun L24 => ?_)
  refine aw_sr [⟨.pure, [], none, true⟩, ⟨.pure, [], none, true⟩, ⟨.pure, [0, 1], none, true⟩, ⟨.pure, [0, 1, 2], none, true⟩]
    (fun L25 => ⟨[some (.string (ByteArray.mk #[119, 101, 100, 103, 101])), aU, aF, aI 4, some (.int .u8 (101)), some (.string (ByteArray.mk #[119, 101, 100, 103, 101])), aI 5, aI 4, aT, aI 4, some (.string (ByteArray.mk #[119, 101, 100, 103, 101])), aI 4, some (.int .u8 (101)), some (.int .u8 (103)), aT, aF, aF, aU, aU, aU, aU, aU, aU, aU, aU, aU, aU, aU, aF, aI 4, aU, aU, aU], [], []⟩)
    (fun L25 => [])
    fol (by kernel_rfl) (fun _ => by kernel_rfl) (fun L25 => trivial) (fun L25 => ?_)
  refine aw_sr [⟨.pure, [], none, true⟩, ⟨(.call [] (.bool (true))), [0], none, true⟩, ⟨.pure, [0, 1], none, true⟩, ⟨.pure, [0, 1, 2], none, true⟩, ⟨.pure, [0, 1, 2, 3], none, false⟩, ⟨.pure, [0, 1, 2, 3, 4], none, false⟩, ⟨.pure, [0, 1, 2, 3, 4, 5], none, false⟩, ⟨.pure, [0, 1, 2, 3, 4, 5, 6], none, false⟩, ⟨.pure, [0, 1, 2, 3, 4, 5, 6, 7], none, false⟩, ⟨.pure, [0, 1, 2, 3, 4, 5, 6, 7, 8], none, false⟩, ⟨.pure, [0, 1, 2, 3, 4, 5, 6, 7, 8, 9], none, false⟩, ⟨.pure, [0, 1, 2, 3, 4, 5, 6, 7, 8, 9, 10], none, false⟩, ⟨.pure, [0, 1, 2, 3, 4, 5, 6, 7, 8, 9, 10, 11], none, false⟩, ⟨.pure, [0, 1, 2, 3, 4, 5, 6, 7, 8, 9, 10, 11, 12], none, false⟩, ⟨.pure, [0, 1, 2, 3, 4, 5, 6, 7, 8, 9, 10, 11, 12, 13], none, false⟩, ⟨.pure, [0, 1, 2, 3, 4, 5, 6, 7, 8, 9, 10, 11, 12, 13, 14], aF, true⟩]
    (fun L26 => ⟨[some (.string (ByteArray.mk #[119, 101, 100, 103, 101])), aU, aF, aI 4, some (.int .u8 (101)), some (.string (ByteArray.mk #[119, 101, 100, 103, 101])), aI 5, aI 4, aT, aI 4, some (.string (ByteArray.mk #[119, 101, 100, 103, 101])), aI 4, some (.int .u8 (101)), some (.int .u8 (101)), aT, aF, aF, aU, aU, aU, aU, aU, aU, aU, aU, aU, aU, aU, aF, aI 4, aU, aU, aU], [], []⟩)
    (fun L26 => [CallOb Try.prog 151 #[.int .u8 (101)] [] (.bool (true)), (false) = false, (false) = false, (false) = false, (false) = false, (.bool (false) : Value) = .bool (false)])
    fol (by kernel_rfl) (fun _ => by kernel_rfl) (fun L26 => ⟨(callOb_frz (UA.i_82  )), rfl, rfl, rfl, rfl, rfl, trivial⟩) (fun L26 => ?_)
  refine aw_false (false) rfl rfl ?_
  refine aw_skip ?_
  refine nrm_inB ?_
  refine nrm_thn ?_
  refine aw_region [⟨.pure, [], none, true⟩, ⟨.pure, [0], none, true⟩]
    (fun L27 => ⟨[some (.string (ByteArray.mk #[119, 101, 100, 103, 101])), aU, aF, aI 4, some (.int .u8 (101)), some (.string (ByteArray.mk #[119, 101, 100, 103, 101])), aI 5, aI 5, aT, aI 4, some (.string (ByteArray.mk #[119, 101, 100, 103, 101])), aI 4, some (.int .u8 (101)), some (.int .u8 (101)), aT, aF, aF, aU, aU, aU, aU, aU, aU, aU, aU, aU, aU, aU, aF, aI 5, aU, aU, aU], [], []⟩)
    (fun L27 => [])
    fol (by kernel_rfl) (fun _ => by kernel_rfl) (fun L27 => trivial) (fun L27 => ?_)
  refine nrm_thn ?_
  refine aw_round ?_
  refine aw_sr [⟨.pure, [], none, true⟩]
    (fun L28 => ⟨[some (.string (ByteArray.mk #[119, 101, 100, 103, 101])), aU, aF, aI 4, some (.int .u8 (101)), some (.string (ByteArray.mk #[119, 101, 100, 103, 101])), aI 5, aI 5, aF, aI 4, some (.string (ByteArray.mk #[119, 101, 100, 103, 101])), aI 4, some (.int .u8 (101)), some (.int .u8 (101)), aT, aF, aF, aU, aU, aU, aU, aU, aU, aU, aU, aU, aU, aU, aF, aI 5, aU, aU, aU], [], []⟩)
    (fun L28 => [])
    fol (by kernel_rfl) (fun _ => by kernel_rfl) (fun L28 => trivial) (fun L28 => ?_)
  refine aw_seq ?_
  refine aw_false (false) rfl rfl ?_
  refine aw_exit ?_
  refine ex_thn ?_
  refine ex_thn ?_
  refine ex_hit ?_
  refine nrm_thn ?_
  refine aw_sr [⟨.pure, [], none, true⟩, ⟨.pure, [0], none, true⟩, ⟨(.call [] (.bool (true))), [0, 1], none, true⟩, ⟨.pure, [0, 1, 2], none, true⟩]
    (fun L29 => ⟨[some (.string (ByteArray.mk #[119, 101, 100, 103, 101])), aU, aT, aI 4, some (.int .u8 (101)), some (.string (ByteArray.mk #[119, 101, 100, 103, 101])), aI 5, aI 5, aF, aI 4, some (.string (ByteArray.mk #[119, 101, 100, 103, 101])), aI 4, some (.int .u8 (101)), some (.int .u8 (101)), aT, aF, aF, aU, aU, aU, aU, aU, aU, aU, aU, aU, aU, aU, aF, aI 5, some (.string (ByteArray.mk #[119, 101, 100, 103, 101])), aI 5, aT], [], []⟩)
    (fun L29 => [CallOb Try.prog 127 #[aN 5, aN 1, aN 12] [] (.bool (true))])
    fol (by kernel_rfl) (fun _ => by kernel_rfl) (fun L29 => ⟨(callOb_frz (UA.i_85  )), trivial⟩) (fun L29 => ?_)
  refine aw_ret ?_
  exact fin_ret none [0] (.bool (true)) [] (.inr rfl) rfl (by kernel_rfl) trivial (fun w' hb => ⟨rfl, hb⟩)

-- couplant/base.Unless
set_option maxRecDepth 100000 in
set_option maxHeartbeats 400000 in
theorem UA.i_87 : CallOb Try.prog 81 #[.bool (true), aN 4] [] (aN 0) := by
  intro w hw
  refine calls_aw [aT, aI 4, aU, aU, aU, aU, aU] [] Try.func81 rfl (by kernel_rfl) (fun e x h => by cases h) ?_
  refine aw_sr [⟨.pure, [], none, true⟩]
    (fun L1 => ⟨[aT, aI 4, aU, aU, aI 0, aU, aU], [], []⟩)
    (fun L1 => [])
    fol (by kernel_rfl) (fun _ => by kernel_rfl) (fun L1 => trivial) (fun L1 => ?_)
  refine aw_seq ?_
  refine aw_sr [⟨.pure, [], none, true⟩]
    (fun L2 => ⟨[aT, aI 4, aU, aU, aI 0, aT, aU], [], []⟩)
    (fun L2 => [])
    fol (by kernel_rfl) (fun _ => by kernel_rfl) (fun L2 => trivial) (fun L2 => ?_)
  refine aw_true (true) rfl rfl ?_
  refine aw_sr [⟨.pure, [], none, true⟩]
    (fun L3 => ⟨[aT, aI 4, aU, aU, aI 0, aT, aU], [], []⟩)
    (fun L3 => [])
    fol (by kernel_rfl) (fun _ => by kernel_rfl) (fun L3 => trivial) (fun L3 => ?_)
  refine aw_ret ?_
  refine ret_thn ?_
  exact fin_ret none [0] (aN 0) [] (.inr rfl) rfl (by kernel_rfl) trivial (fun w' hb => ⟨rfl, hb⟩)

-- couplant/base.NameError
set_option maxRecDepth 100000 in
set_option maxHeartbeats 400000 in
theorem UA.i_88 : CallOb Try.prog 116 #[.string (ByteArray.mk #[119, 101, 100, 103, 101])] [] (aN 0) := by
  intro w hw
  refine calls_aw [some (.string (ByteArray.mk #[119, 101, 100, 103, 101])), aU, aU, aU, aU, aU] [] Try.func116 rfl (by kernel_rfl) (fun e x h => by cases h) ?_
  refine aw_sr [⟨.pure, [], none, true⟩]
    (fun L1 => ⟨[some (.string (ByteArray.mk #[119, 101, 100, 103, 101])), aU, aI 0, aU, aU, aU], [], []⟩)
    (fun L1 => [])
    fol (by kernel_rfl) (fun _ => by kernel_rfl) (fun L1 => trivial) (fun L1 => ?_)
  refine aw_sr [⟨.pure, [], none, true⟩, ⟨(.call [] (.bool (true))), [0], none, true⟩, ⟨(.call [] (aN 0)), [0, 1], none, true⟩, ⟨.pure, [0, 1, 2], none, true⟩]
    (fun L2 => ⟨[some (.string (ByteArray.mk #[119, 101, 100, 103, 101])), aU, aI 0, some (.string (ByteArray.mk #[119, 101, 100, 103, 101])), aT, aI 0], [], []⟩)
    (fun L2 => [CallOb Try.prog 139 #[.string (ByteArray.mk #[119, 101, 100, 103, 101])] [] (.bool (true)), CallOb Try.prog 81 #[.bool (true), aN 4] [] (aN 0)])
    fol (by kernel_rfl) (fun _ => by kernel_rfl) (fun L2 => ⟨(callOb_frz (UA.i_86  )), (callOb_frz (UA.i_87  )), trivial⟩) (fun L2 => ?_)
  refine aw_ret ?_
  exact fin_ret none [0] (aN 0) [] (.inr rfl) rfl (by kernel_rfl) trivial (fun w' hb => ⟨rfl, hb⟩)

-- slices.IndexFunc[[]couplant/api.TuneStep,couplant/api.TuneStep]
set_option maxRecDepth 100000 in
set_option maxHeartbeats 400000 in
theorem UA.i_89 (b1 b2 b3 b4 b5 : Nat) : CallOb Try.prog 153 #[.slice (some ⟨b1, 0, none⟩) (0) (2), .func (.func 140) #[] #[.pointer (some ⟨b3, 0, none⟩), .pointer (some ⟨b4, 0, none⟩), .pointer (some ⟨b5, 0, none⟩)]] [.blk (b1) [.string (ByteArray.mk #[119, 101, 100, 103, 101]), aN 100, aN 50, .slice none 0 0, .string (ByteArray.mk #[103, 97, 105, 110]), aN 50, aN 50, .slice (some ⟨b2, 0, none⟩) (1) (1)] 105 false, .blk (b2) [aN 0] 3 false, .blk (b3) [.func (.func 118) #[] #[]] 154 false, .blk (b4) [.slice (some ⟨b1, 0, none⟩) (2) (2)] 87 false, .blk (b5) [aN 0] 3 false] (aN (-1)) := by
  intro w hw
  refine calls_aw [aS b1 0 0 2, some (.func (.func 140) #[] #[.pointer (some ⟨b3, 0, none⟩), .pointer (some ⟨b4, 0, none⟩), .pointer (some ⟨b5, 0, none⟩)]), aU, aU, aU, aU, aU, aU, aU, aU, aU, aU, aU, aU, aU, aU, aU, aU, aU] [.blk (b1) [.string (ByteArray.mk #[119, 101, 100, 103, 101]), aN 100, aN 50, .slice none 0 0, .string (ByteArray.mk #[103, 97, 105, 110]), aN 50, aN 50, .slice (some ⟨b2, 0, none⟩) (1) (1)] 105 false, .blk (b2) [aN 0] 3 false, .blk (b3) [.func (.func 118) #[] #[]] 154 false, .blk (b4) [.slice (some ⟨b1, 0, none⟩) (2) (2)] 87 false, .blk (b5) [aN 0] 3 false] Try.func153 rfl (by kernel_rfl) (esOk hw (by simp [Cel.mine])) ?_
  refine aw_sr [⟨.pure, [], none, true⟩]
    (fun L1 => ⟨[aS b1 0 0 2, some (.func (.func 140) #[] #[.pointer (some ⟨b3, 0, none⟩), .pointer (some ⟨b4, 0, none⟩), .pointer (some ⟨b5, 0, none⟩)]), aU, aU, aI 0, aU, aU, aU, aU, aU, aU, aU, aU, aU, aU, aU, aU, aU, aU], [.blk (b1) [.string (ByteArray.mk #[119, 101, 100, 103, 101]), aN 100, aN 50, .slice none 0 0, .string (ByteArray.mk #[103, 97, 105, 110]), aN 50, aN 50, .slice (some ⟨b2, 0, none⟩) (1) (1)] 105 false, .blk (b2) [aN 0] 3 false, .blk (b3) [.func (.func 118) #[] #[]] 154 false, .blk (b4) [.slice (some ⟨b1, 0, none⟩) (2) (2)] 87 false, .blk (b5) [aN 0] 3 false], []⟩)
    (fun L1 => [])
    fol (by kernel_rfl) (fun _ => by kernel_rfl) (fun L1 => trivial) (fun L1 => ?_)
  refine aw_seq ?_
  refine aw_sr [⟨.pure, [], none, true⟩, ⟨.pure, [0], none, true⟩, ⟨.pure, [], none, true⟩]
    (fun L2 => ⟨[aS b1 0 0 2, some (.func (.func 140) #[] #[.pointer (some ⟨b3, 0, none⟩), .pointer (some ⟨b4, 0, none⟩), .pointer (some ⟨b5, 0, none⟩)]), aU, aU, aI 0, aU, aS b1 0 0 2, aI 0, aI 0, aU, aU, aU, aU, aU, aU, aU, aU, aU, aU], [.blk (b1) [.string (ByteArray.mk #[119, 101, 100, 103, 101]), aN 100, aN 50, .slice none 0 0, .string (ByteArray.mk #[103, 97, 105, 110]), aN 50, aN 50, .slice (some ⟨b2, 0, none⟩) (1) (1)] 105 false, .blk (b2) [aN 0] 3 false, .blk (b3) [.func (.func 118) #[] #[]] 154 false, .blk (b4) [.slice (some ⟨b1, 0, none⟩) (2) (2)] 87 false, .blk (b5) [aN 0] 3 false], []⟩)
    (fun L2 => [])
    fol (by kernel_rfl) (fun _ => by kernel_rfl) (fun L2 => trivial) (fun L2 => ?_)
  refine aw_block ?_
  refine aw_rounds 1 ?_
  refine aw_round ?_
  refine aw_sr [⟨.pure, [], none, true⟩]
    (fun L3 => ⟨[aS b1 0 0 2, some (.func (.func 140) #[] #[.pointer (some ⟨b3, 0, none⟩), .pointer (some ⟨b4, 0, none⟩), .pointer (some ⟨b5, 0, none⟩)]), aU, aU, aI 0, aU, aS b1 0 0 2, aI 0, aI 0, aF, aU, aU, aU, aU, aU, aU, aU, aU, aU], [.blk (b1) [.string (ByteArray.mk #[119, 101, 100, 103, 101]), aN 100, aN 50, .slice none 0 0, .string (ByteArray.mk #[103, 97, 105, 110]), aN 50, aN 50, .slice (some ⟨b2, 0, none⟩) (1) (1)] 105 false, .blk (b2) [aN 0] 3 false, .blk (b3) [.func (.func 118) #[] #[]] 154 false, .blk (b4) [.slice (some ⟨b1, 0, none⟩) (2) (2)] 87 false, .blk (b5) [aN 0] 3 false], []⟩)
    (fun L3 => [])
    fol (by kernel_rfl) (fun _ => by kernel_rfl) (fun L3 => trivial) (fun L3 => ?_)
  refine aw_seq ?_
  refine aw_false (false) rfl rfl ?_
  refine aw_exit ?_
  refine ex_thn ?_
  refine ex_thn ?_
  refine ex_hit ?_
  refine nrm_thn ?_
  refine aw_sr [⟨.pure, [], none, true⟩]
    (fun L4 => ⟨[aS b1 0 0 2, some (.func (.func 140) #[] #[.pointer (some ⟨b3, 0, none⟩), .pointer (some ⟨b4, 0, none⟩), .pointer (some ⟨b5, 0, none⟩)]), aU, aU, aI (-1), aU, aS b1 0 0 2, aI 0, aI 0, aF, aU, aU, aU, aU, aU, aU, aU, aU, aU], [.blk (b1) [.string (ByteArray.mk #[119, 101, 100, 103, 101]), aN 100, aN 50, .slice none 0 0, .string (ByteArray.mk #[103, 97, 105, 110]), aN 50, aN 50, .slice (some ⟨b2, 0, none⟩) (1) (1)] 105 false, .blk (b2) [aN 0] 3 false, .blk (b3) [.func (.func 118) #[] #[]] 154 false, .blk (b4) [.slice (some ⟨b1, 0, none⟩) (2) (2)] 87 false, .blk (b5) [aN 0] 3 false], []⟩)
    (fun L4 => [])
    fol (by kernel_rfl) (fun _ => by kernel_rfl) (fun L4 => trivial) (fun L4 => ?_)
  refine aw_ret ?_
  exact fin_ret none [0] (aN (-1)) [] (.inr rfl) rfl (by kernel_rfl) trivial (fun w' hb => ⟨rfl, hb⟩)

-- slices.ContainsFunc[[]couplant/api.TuneStep,couplant/api.TuneStep]
set_option maxRecDepth 100000 in
set_option maxHeartbeats 400000 in
theorem UA.i_90 (b1 b2 b3 b4 b5 : Nat) : CallOb Try.prog 141 #[.slice (some ⟨b1, 0, none⟩) (0) (2), .func (.func 140) #[] #[.pointer (some ⟨b3, 0, none⟩), .pointer (some ⟨b4, 0, none⟩), .pointer (some ⟨b5, 0, none⟩)]] [.blk (b1) [.string (ByteArray.mk #[119, 101, 100, 103, 101]), aN 100, aN 50, .slice none 0 0, .string (ByteArray.mk #[103, 97, 105, 110]), aN 50, aN 50, .slice (some ⟨b2, 0, none⟩) (1) (1)] 105 false, .blk (b2) [aN 0] 3 false, .blk (b3) [.func (.func 118) #[] #[]] 154 false, .blk (b4) [.slice (some ⟨b1, 0, none⟩) (2) (2)] 87 false, .blk (b5) [aN 0] 3 false] (.bool (false)) := by
  intro w hw
  refine calls_aw [aS b1 0 0 2, some (.func (.func 140) #[] #[.pointer (some ⟨b3, 0, none⟩), .pointer (some ⟨b4, 0, none⟩), .pointer (some ⟨b5, 0, none⟩)]), aU, aU, aU, aU, aU, aU, aU] [.blk (b1) [.string (ByteArray.mk #[119, 101, 100, 103, 101]), aN 100, aN 50, .slice none 0 0, .string (ByteArray.mk #[103, 97, 105, 110]), aN 50, aN 50, .slice (some ⟨b2, 0, none⟩) (1) (1)] 105 false, .blk (b2) [aN 0] 3 false, .blk (b3) [.func (.func 118) #[] #[]] 154 false, .blk (b4) [.slice (some ⟨b1, 0, none⟩) (2) (2)] 87 false, .blk (b5) [aN 0] 3 false] Try.func141 rfl (by kernel_rfl) (esOk hw (by simp [Cel.mine])) ?_
  refine aw_sr [⟨.pure, [], none, true⟩]
    (fun L1 => ⟨[aS b1 0 0 2, some (.func (.func 140) #[] #[.pointer (some ⟨b3, 0, none⟩), .pointer (some ⟨b4, 0, none⟩), .pointer (some ⟨b5, 0, none⟩)]), aU, aU, aF, aU, aU, aU, aU], [.blk (b1) [.string (ByteArray.mk #[119, 101, 100, 103, 101]), aN 100, aN 50, .slice none 0 0, .string (ByteArray.mk #[103, 97, 105, 110]), aN 50, aN 50, .slice (some ⟨b2, 0, none⟩) (1) (1)] 105 false, .blk (b2) [aN 0] 3 false, .blk (b3) [.func (.func 118) #[] #[]] 154 false, .blk (b4) [.slice (some ⟨b1, 0, none⟩) (2) (2)] 87 false, .blk (b5) [aN 0] 3 false], []⟩)
    (fun L1 => [])
    fol (by kernel_rfl) (fun _ => by kernel_rfl) (fun L1 => trivial) (fun L1 => ?_)
  refine aw_sr [⟨.pure, [], none, true⟩, ⟨.pure, [], none, true⟩, ⟨(.call [0, 1, 2, 3, 4] (aN (-1))), [0, 1], none, true⟩, ⟨.pure, [0, 1, 2], none, true⟩, ⟨.pure, [0, 1, 2, 3], none, true⟩]
    (fun L2 => ⟨[aS b1 0 0 2, some (.func (.func 140) #[] #[.pointer (some ⟨b3, 0, none⟩), .pointer (some ⟨b4, 0, none⟩), .pointer (some ⟨b5, 0, none⟩)]), aU, aU, aF, aS b1 0 0 2, some (.func (.func 140) #[] #[.pointer (some ⟨b3, 0, none⟩), .pointer (some ⟨b4, 0, none⟩), .pointer (some ⟨b5, 0, none⟩)]), aI (-1), aF], [.blk (b1) [.string (ByteArray.mk #[119, 101, 100, 103, 101]), aN 100, aN 50, .slice none 0 0, .string (ByteArray.mk #[103, 97, 105, 110]), aN 50, aN 50, .slice (some ⟨b2, 0, none⟩) (1) (1)] 105 false, .blk (b2) [aN 0] 3 false, .blk (b3) [.func (.func 118) #[] #[]] 154 false, .blk (b4) [.slice (some ⟨b1, 0, none⟩) (2) (2)] 87 false, .blk (b5) [aN 0] 3 false], []⟩)
    (fun L2 => [CallOb Try.prog 153 #[.slice (some ⟨b1, 0, none⟩) (0) (2), .func (.func 140) #[] #[.pointer (some ⟨b3, 0, none⟩), .pointer (some ⟨b4, 0, none⟩), .pointer (some ⟨b5, 0, none⟩)]] [.blk (b1) [.string (ByteArray.mk #[119, 101, 100, 103, 101]), aN 100, aN 50, .slice none 0 0, .string (ByteArray.mk #[103, 97, 105, 110]), aN 50, aN 50, .slice (some ⟨b2, 0, none⟩) (1) (1)] 105 false, .blk (b2) [aN 0] 3 false, .blk (b3) [.func (.func 118) #[] #[]] 154 false, .blk (b4) [.slice (some ⟨b1, 0, none⟩) (2) (2)] 87 false, .blk (b5) [aN 0] 3 false] (aN (-1))])
    fol (by kernel_rfl) (fun _ => by kernel_rfl) (fun L2 => ⟨(callOb_frz (UA.i_89 (b1) (b2) (b3) (b4) (b5) )), trivial⟩) (fun L2 => ?_)
  refine aw_ret ?_
  exact fin_ret none [0] (.bool (false)) [] (.inr rfl) rfl (by kernel_rfl) trivial (fun w' hb => ⟨rfl, hb⟩)

-- couplant/base.Unless
set_option maxRecDepth 100000 in
set_option maxHeartbeats 400000 in
theorem UA.i_91 : CallOb Try.prog 81 #[.bool (true), aN 5] [] (aN 0) := by
  intro w hw
  refine calls_aw [aT, aI 5, aU, aU, aU, aU, aU] [] Try.func81 rfl (by kernel_rfl) (fun e x h => by cases h) ?_
  refine aw_sr [⟨.pure, [], none, true⟩]
    (fun L1 => ⟨[aT, aI 5, aU, aU, aI 0, aU, aU], [], []⟩)
    (fun L1 => [])
    fol (by kernel_rfl) (fun _ => by kernel_rfl) (fun L1 => trivial) (fun L1 => ?_)
  refine aw_seq ?_
  refine aw_sr [⟨.pure, [], none, true⟩]
    (fun L2 => ⟨[aT, aI 5, aU, aU, aI 0, aT, aU], [], []⟩)
    (fun L2 => [])
    fol (by kernel_rfl) (fun _ => by kernel_rfl) (fun L2 => trivial) (fun L2 => ?_)
  refine aw_true (true) rfl rfl ?_
  refine aw_sr [⟨.pure, [], none, true⟩]
    (fun L3 => ⟨[aT, aI 5, aU, aU, aI 0, aT, aU], [], []⟩)
    (fun L3 => [])
    fol (by kernel_rfl) (fun _ => by kernel_rfl) (fun L3 => trivial) (fun L3 => ?_)
  refine aw_ret ?_
  refine ret_thn ?_
  exact fin_ret none [0] (aN 0) [] (.inr rfl) rfl (by kernel_rfl) trivial (fun w' hb => ⟨rfl, hb⟩)

-- couplant/base.ExistsError[couplant/api.TuneStep]
set_option maxRecDepth 100000 in
set_option maxHeartbeats 400000 in
theorem UA.i_92 (b1 b2 : Nat) : CallOb Try.prog 117 #[.slice (some ⟨b1, 0, none⟩) (2) (2), aN 0, .func (.func 118) #[] #[]] [.blk (b1) [.string (ByteArray.mk #[119, 101, 100, 103, 101]), aN 100, aN 50, .slice none 0 0, .string (ByteArray.mk #[103, 97, 105, 110]), aN 50, aN 50, .slice (some ⟨b2, 0, none⟩) (1) (1)] 105 false, .blk (b2) [aN 0] 3 false] (aN 0) := by
  intro w hw
  refine calls_aw [aS b1 0 2 2, aI 0, some (.func (.func 118) #[] #[]), aU, aU, aU, aU, aU, aU, aU, aU, aU, aU, aU, aU, aU] [.blk (b1) [.string (ByteArray.mk #[119, 101, 100, 103, 101]), aN 100, aN 50, .slice none 0 0, .string (ByteArray.mk #[103, 97, 105, 110]), aN 50, aN 50, .slice (some ⟨b2, 0, none⟩) (1) (1)] 105 false, .blk (b2) [aN 0] 3 false] Try.func117 rfl (by kernel_rfl) (esOk hw (by simp [Cel.mine])) ?_
  refine aw_sr [⟨.new, [], none, true⟩, ⟨.new, [], none, true⟩, ⟨.new, [], none, true⟩, ⟨.pure, [], none, true⟩]
    (fun L1 => ⟨[aS b1 0 2 2, aI 0, some (.func (.func 118) #[] #[]), aP (L1 0).b 0, aP (L1 1).b 0, aP (L1 2).b 0, aI 0, aU, aU, aU, aU, aU, aU, aU, aU, aU], [.blk (b1) [.string (ByteArray.mk #[119, 101, 100, 103, 101]), aN 100, aN 50, .slice none 0 0, .string (ByteArray.mk #[103, 97, 105, 110]), aN 50, aN 50, .slice (some ⟨b2, 0, none⟩) (1) (1)] 105 false, .blk (b2) [aN 0] 3 false, .blk ((L1 0).b) [.slice (some ⟨b1, 0, none⟩) (2) (2)] 87 true, .blk ((L1 1).b) [aN 0] 3 true, .blk ((L1 2).b) [.func (.func 118) #[] #[]] 154 true], []⟩)
    (fun L1 => [])
    fol (by kernel_rfl) (fun _ => by kernel_rfl) (fun L1 => trivial) (fun L1 => ?_)
  refine aw_sr [⟨.pure, [], none, true⟩, ⟨.pure, [0], none, true⟩]
    (fun L2 => ⟨[aS b1 0 2 2, aI 0, some (.func (.func 118) #[] #[]), aP (L1 0).b 0, aP (L1 1).b 0, aP (L1 2).b 0, aI 0, some (.func (.func 140) #[] #[.pointer (some ⟨(L1 2).b, 0, none⟩), .pointer (some ⟨(L1 0).b, 0, none⟩), .pointer (some ⟨(L1 1).b, 0, none⟩)]), some (.func (.func 140) #[] #[.pointer (some ⟨(L1 2).b, 0, none⟩), .pointer (some ⟨(L1 0).b, 0, none⟩), .pointer (some ⟨(L1 1).b, 0, none⟩)]), aU, aU, aU, aU, aU, aU, aU], [.blk (b1) [.string (ByteArray.mk #[119, 101, 100, 103, 101]), aN 100, aN 50, .slice none 0 0, .string (ByteArray.mk #[103, 97, 105, 110]), aN 50, aN 50, .slice (some ⟨b2, 0, none⟩) (1) (1)] 105 false, .blk (b2) [aN 0] 3 false, .blk ((L1 0).b) [.slice (some ⟨b1, 0, none⟩) (2) (2)] 87 true, .blk ((L1 1).b) [aN 0] 3 true, .blk ((L1 2).b) [.func (.func 118) #[] #[]] 154 true], []⟩)
    (fun L2 => [])
    fol (by kernel_rfl) (fun _ => by kernel_rfl) (fun L2 => trivial) (fun L2 => ?_)
  refine aw_sr [⟨(.read 2), [], none, true⟩, ⟨(.read 3), [], none, true⟩, ⟨.pure, [0, 1], none, true⟩, ⟨.pure, [], none, true⟩, ⟨(.call [0, 1, 4, 2, 3] (.bool (false))), [0, 1, 2, 3], none, true⟩, ⟨.pure, [0, 1, 2, 3, 4], none, true⟩, ⟨(.call [] (aN 0)), [0, 1, 2, 3, 4, 5], none, true⟩, ⟨.pure, [0, 1, 2, 3, 4, 5, 6], none, true⟩]
    (fun L3 => ⟨[aS b1 0 2 2, aI 0, some (.func (.func 118) #[] #[]), aP (L1 0).b 0, aP (L1 1).b 0, aP (L1 2).b 0, aI 0, some (.func (.func 140) #[] #[.pointer (some ⟨(L1 2).b, 0, none⟩), .pointer (some ⟨(L1 0).b, 0, none⟩), .pointer (some ⟨(L1 1).b, 0, none⟩)]), some (.func (.func 140) #[] #[.pointer (some ⟨(L1 2).b, 0, none⟩), .pointer (some ⟨(L1 0).b, 0, none⟩), .pointer (some ⟨(L1 1).b, 0, none⟩)]), aS b1 0 2 2, aI 0, aS b1 0 0 2, some (.func (.func 140) #[] #[.pointer (some ⟨(L1 2).b, 0, none⟩), .pointer (some ⟨(L1 0).b, 0, none⟩), .pointer (some ⟨(L1 1).b, 0, none⟩)]), aF, aT, aI 0], [.blk (b1) [.string (ByteArray.mk #[119, 101, 100, 103, 101]), aN 100, aN 50, .slice none 0 0, .string (ByteArray.mk #[103, 97, 105, 110]), aN 50, aN 50, .slice (some ⟨b2, 0, none⟩) (1) (1)] 105 false, .blk (b2) [aN 0] 3 false, .blk ((L1 0).b) [.slice (some ⟨b1, 0, none⟩) (2) (2)] 87 true, .blk ((L1 1).b) [aN 0] 3 true, .blk ((L1 2).b) [.func (.func 118) #[] #[]] 154 true], []⟩)
    (fun L3 => [(L1 0).b = (L1 0).b, (L1 1).b = (L1 1).b, CallOb Try.prog 141 #[.slice (some ⟨b1, 0, none⟩) (0) (2), .func (.func 140) #[] #[.pointer (some ⟨(L1 2).b, 0, none⟩), .pointer (some ⟨(L1 0).b, 0, none⟩), .pointer (some ⟨(L1 1).b, 0, none⟩)]] [.blk (b1) [.string (ByteArray.mk #[119, 101, 100, 103, 101]), aN 100, aN 50, .slice none 0 0, .string (ByteArray.mk #[103, 97, 105, 110]), aN 50, aN 50, .slice (some ⟨b2, 0, none⟩) (1) (1)] 105 false, .blk (b2) [aN 0] 3 false, .blk ((L1 2).b) [.func (.func 118) #[] #[]] 154 true, .blk ((L1 0).b) [.slice (some ⟨b1, 0, none⟩) (2) (2)] 87 true, .blk ((L1 1).b) [aN 0] 3 true] (.bool (false)), CallOb Try.prog 81 #[.bool (true), aN 5] [] (aN 0)])
    fol (by kernel_rfl) (fun _ => by kernel_rfl) (fun L3 => ⟨rfl, rfl, (callOb_frz (UA.i_90 (b1) (b2) ((L1 2).b) ((L1 0).b) ((L1 1).b) )), (callOb_frz (UA.i_91  )), trivial⟩) (fun L3 => ?_)
  refine aw_ret ?_
  exact fin_ret none [0] (aN 0) [] (.inr rfl) rfl (by kernel_rfl) trivial (fun w' hb => ⟨rfl, hb⟩)

-- couplant/base.Within
set_option maxRecDepth 100000 in
set_option maxHeartbeats 400000 in
theorem UA.i_93 : CallOb Try.prog 127 #[aN 100, aN 1, aN 1000000] [] (.bool (true)) := by
  intro w hw
  refine calls_aw [aI 100, aI 1, aI 1000000, aU, aU, aU, aU, aU, aU, aU, aU, aU, aU, aU, aU] [] Try.func127 rfl (by kernel_rfl) (fun e x h => by cases h) ?_
  refine aw_sr [⟨.pure, [], none, true⟩]
    (fun L1 => ⟨[aI 100, aI 1, aI 1000000, aU, aU, aU, aF, aU, aU, aU, aU, aU, aU, aU, aU], [], []⟩)
    (fun L1 => [])
    fol (by kernel_rfl) (fun _ => by kernel_rfl) (fun L1 => trivial) (fun L1 => ?_)
  refine aw_sr [⟨.pure, [], none, true⟩, ⟨.pure, [], none, true⟩, ⟨.pure, [0, 1], none, true⟩, ⟨.pure, [0, 1, 2], none, true⟩, ⟨.pure, [0, 1, 2, 3], none, true⟩, ⟨.pure, [0, 1, 2, 3], none, true⟩, ⟨.pure, [0, 1, 2, 3, 4, 5], none, true⟩, ⟨.pure, [0, 1, 2, 3, 4, 5, 6], aT, true⟩, ⟨.pure, [0, 1, 2, 3, 4, 5, 6, 7], none, true⟩]
    (fun L2 => ⟨[aI 100, aI 1, aI 1000000, aU, aU, aU, aT, aI 1, aI 100, aT, aT, aI 100, aI 1000000, aT, aT], [], []⟩)
    (fun L2 => [(true) = true, (true) = true, (true) = true, (.bool (true) : Value) = .bool (true)])
    fol (by kernel_rfl) (fun _ => by kernel_rfl) (fun L2 => ⟨rfl, rfl, rfl, rfl, trivial⟩) (fun L2 => ?_)
  refine aw_ret ?_
  exact fin_ret none [0] (.bool (true)) [] (.inr rfl) rfl (by kernel_rfl) trivial (fun w' hb => ⟨rfl, hb⟩)

-- couplant/base.RangeError
set_option maxRecDepth 100000 in
set_option maxHeartbeats 400000 in
theorem UA.i_94 : CallOb Try.prog 79 #[aN 100, aN 1, aN 1000000] [] (aN 0) := by
  intro w hw
  refine calls_aw [aI 100, aI 1, aI 1000000, aU, aU, aU, aU, aU, aU, aU, aU, aU] [] Try.func79 rfl (by kernel_rfl) (fun e x h => by cases h) ?_
  refine aw_sr [⟨.pure, [], none, true⟩]
    (fun L1 => ⟨[aI 100, aI 1, aI 1000000, aU, aU, aU, aI 0, aU, aU, aU, aU, aU], [], []⟩)
    (fun L1 => [])
    fol (by kernel_rfl) (fun _ => by kernel_rfl) (fun L1 => trivial) (fun L1 => ?_)
  refine aw_sr [⟨.pure, [], none, true⟩, ⟨.pure, [], none, true⟩, ⟨.pure, [], none, true⟩, ⟨(.call [] (.bool (true))), [0, 1, 2], none, true⟩, ⟨(.call [] (aN 0)), [0, 1, 2, 3], none, true⟩, ⟨.pure, [0, 1, 2, 3, 4], none, true⟩]
    (fun L2 => ⟨[aI 100, aI 1, aI 1000000, aU, aU, aU, aI 0, aI 100, aI 1, aI 1000000, aT, aI 0], [], []⟩)
    (fun L2 => [CallOb Try.prog 127 #[aN 100, aN 1, aN 1000000] [] (.bool (true)), CallOb Try.prog 81 #[.bool (true), aN 2] [] (aN 0)])
    fol (by kernel_rfl) (fun _ => by kernel_rfl) (fun L2 => ⟨(callOb_frz (UA.i_93  )), (callOb_frz (UA.i_6  )), trivial⟩) (fun L2 => ?_)
  refine aw_ret ?_
  exact fin_ret none [0] (aN 0) [] (.inr rfl) rfl (by kernel_rfl) trivial (fun w' hb => ⟨rfl, hb⟩)

-- couplant/base.Within
set_option maxRecDepth 100000 in
set_option maxHeartbeats 400000 in
theorem UA.i_95 : CallOb Try.prog 127 #[aN 50, aN 0, aN 2000] [] (.bool (true)) := by
  intro w hw
  refine calls_aw [aI 50, aI 0, aI 2000, aU, aU, aU, aU, aU, aU, aU, aU, aU, aU, aU, aU] [] Try.func127 rfl (by kernel_rfl) (fun e x h => by cases h) ?_
  refine aw_sr [⟨.pure, [], none, true⟩]
    (fun L1 => ⟨[aI 50, aI 0, aI 2000, aU, aU, aU, aF, aU, aU, aU, aU, aU, aU, aU, aU], [], []⟩)
    (fun L1 => [])
    fol (by kernel_rfl) (fun _ => by kernel_rfl) (fun L1 => trivial) (fun L1 => ?_)
  refine aw_sr [⟨.pure, [], none, true⟩, ⟨.pure, [], none, true⟩, ⟨.pure, [0, 1], none, true⟩, ⟨.pure, [0, 1, 2], none, true⟩, ⟨.pure, [0, 1, 2, 3], none, true⟩, ⟨.pure, [0, 1, 2, 3], none, true⟩, ⟨.pure, [0, 1, 2, 3, 4, 5], none, true⟩, ⟨.pure, [0, 1, 2, 3, 4, 5, 6], aT, true⟩, ⟨.pure, [0, 1, 2, 3, 4, 5, 6, 7], none, true⟩]
    (fun L2 => ⟨[aI 50, aI 0, aI 2000, aU, aU, aU, aT, aI 0, aI 50, aT, aT, aI 50, aI 2000, aT, aT], [], []⟩)
    (fun L2 => [(true) = true, (true) = true, (true) = true, (.bool (true) : Value) = .bool (true)])
    fol (by kernel_rfl) (fun _ => by kernel_rfl) (fun L2 => ⟨rfl, rfl, rfl, rfl, trivial⟩) (fun L2 => ?_)
  refine aw_ret ?_
  exact fin_ret none [0] (.bool (true)) [] (.inr rfl) rfl (by kernel_rfl) trivial (fun w' hb => ⟨rfl, hb⟩)

-- couplant/base.RangeError
set_option maxRecDepth 100000 in
set_option maxHeartbeats 400000 in
theorem UA.i_96 : CallOb Try.prog 79 #[aN 50, aN 0, aN 2000] [] (aN 0) := by
  intro w hw
  refine calls_aw [aI 50, aI 0, aI 2000, aU, aU, aU, aU, aU, aU, aU, aU, aU] [] Try.func79 rfl (by kernel_rfl) (fun e x h => by cases h) ?_
  refine aw_sr [⟨.pure, [], none, true⟩]
    (fun L1 => ⟨[aI 50, aI 0, aI 2000, aU, aU, aU, aI 0, aU, aU, aU, aU, aU], [], []⟩)
    (fun L1 => [])
    fol (by kernel_rfl) (fun _ => by kernel_rfl) (fun L1 => trivial) (fun L1 => ?_)
  refine aw_sr [⟨.pure, [], none, true⟩, ⟨.pure, [], none, true⟩, ⟨.pure, [], none, true⟩, ⟨(.call [] (.bool (true))), [0, 1, 2], none, true⟩, ⟨(.call [] (aN 0)), [0, 1, 2, 3], none, true⟩, ⟨.pure, [0, 1, 2, 3, 4], none, true⟩]
    (fun L2 => ⟨[aI 50, aI 0, aI 2000, aU, aU, aU, aI 0, aI 50, aI 0, aI 2000, aT, aI 0], [], []⟩)
    (fun L2 => [CallOb Try.prog 127 #[aN 50, aN 0, aN 2000] [] (.bool (true)), CallOb Try.prog 81 #[.bool (true), aN 2] [] (aN 0)])
    fol (by kernel_rfl) (fun _ => by kernel_rfl) (fun L2 => ⟨(callOb_frz (UA.i_95  )), (callOb_frz (UA.i_6  )), trivial⟩) (fun L2 => ?_)
  refine aw_ret ?_
  exact fin_ret none [0] (aN 0) [] (.inr rfl) rfl (by kernel_rfl) trivial (fun w' hb => ⟨rfl, hb⟩)

-- couplant/base.FirstIn
set_option maxRecDepth 100000 in
set_option maxHeartbeats 400000 in
theorem UA.i_97 (b1 b2 : Nat) : CallOb Try.prog 76 #[aN 0, .func (.func 142) #[] #[.pointer (some ⟨b1, 0, none⟩), .pointer (some ⟨b2, 0, none⟩)]] [.blk (b1) [.slice none 0 0] 46 false, .blk (b2) [aN 0] 3 false] (.tuple #[aN 0, aN 0]) := by
  intro w hw
  refine calls_aw [aI 0, some (.func (.func 142) #[] #[.pointer (some ⟨b1, 0, none⟩), .pointer (some ⟨b2, 0, none⟩)]), aU, aU, aU, aU, aU, aU, aU, aU, aU, aU, aU, aU, aU, aU, aU, aU, aU, aU] [.blk (b1) [.slice none 0 0] 46 false, .blk (b2) [aN 0] 3 false] Try.func76 rfl (by kernel_rfl) (esOk hw (by simp [Cel.mine])) ?_
  refine aw_sr [⟨.pure, [], none, true⟩, ⟨.pure, [0], none, true⟩]
    (fun L1 => ⟨[aI 0, some (.func (.func 142) #[] #[.pointer (some ⟨b1, 0, none⟩), .pointer (some ⟨b2, 0, none⟩)]), aU, aU, aI 0, aI 0, aU, aU, aU, aU, aU, aU, aU, aU, aU, aU, aU, aU, aU, aU], [.blk (b1) [.slice none 0 0] 46 false, .blk (b2) [aN 0] 3 false], []⟩)
    (fun L1 => [])
    fol (by kernel_rfl) (fun _ => by kernel_rfl) (fun L1 => trivial) (fun L1 => ?_)
  refine aw_seq ?_
  refine aw_sr [⟨.pure, [], none, true⟩, ⟨.pure, [], none, true⟩]
    (fun L2 => ⟨[aI 0, some (.func (.func 142) #[] #[.pointer (some ⟨b1, 0, none⟩), .pointer (some ⟨b2, 0, none⟩)]), aU, aU, aI 0, aI 0, aU, aU, aI 0, aI 0, aU, aU, aU, aU, aU, aU, aU, aU, aU, aU], [.blk (b1) [.slice none 0 0] 46 false, .blk (b2) [aN 0] 3 false], []⟩)
    (fun L2 => [])
    fol (by kernel_rfl) (fun _ => by kernel_rfl) (fun L2 => trivial) (fun L2 => ?_)
  refine aw_block ?_
  refine aw_rounds 1 ?_
  refine aw_round ?_
  refine aw_sr [⟨.pure, [], none, true⟩]
    (fun L3 => ⟨[aI 0, some (.func (.func 142) #[] #[.pointer (some ⟨b1, 0, none⟩), .pointer (some ⟨b2, 0, none⟩)]), aU, aU, aI 0, aI 0, aU, aU, aI 0, aI 0, aF, aU, aU, aU, aU, aU, aU, aU, aU, aU], [.blk (b1) [.slice none 0 0] 46 false, .blk (b2) [aN 0] 3 false], []⟩)
    (fun L3 => [])
    fol (by kernel_rfl) (fun _ => by kernel_rfl) (fun L3 => trivial) (fun L3 => ?_)
  refine aw_seq ?_
  refine aw_false (false) rfl rfl ?_
  refine aw_exit ?_
  refine ex_thn ?_
  refine ex_thn ?_
  refine ex_hit ?_
  refine nrm_thn ?_
  refine aw_sr [⟨.pure, [], none, true⟩, ⟨.pure, [0], none, true⟩]
    (fun L4 => ⟨[aI 0, some (.func (.func 142) #[] #[.pointer (some ⟨b1, 0, none⟩), .pointer (some ⟨b2, 0, none⟩)]), aU, aU, aI 0, aI 0, aU, aU, aI 0, aI 0, aF, aU, aU, aU, aU, aU, aU, aU, aU, aU], [.blk (b1) [.slice none 0 0] 46 false, .blk (b2) [aN 0] 3 false], []⟩)
    (fun L4 => [])
    fol (by kernel_rfl) (fun _ => by kernel_rfl) (fun L4 => trivial) (fun L4 => ?_)
  refine aw_ret ?_
  exact fin_ret none [0, 0] (.tuple #[aN 0, aN 0]) [] (.inr rfl) rfl (by kernel_rfl) trivial (fun w' hb => ⟨rfl, hb⟩)

-- couplant/tune.needsError
set_option maxRecDepth 100000 in
set_option maxHeartbeats 400000 in
theorem UA.i_98 : CallOb Try.prog 119 #[.slice none 0 0, aN 0] [] (aN 0) := by
  intro w hw
  refine calls_aw [some (.slice none 0 0), aI 0, aU, aU, aU, aU, aU, aU, aU, aU, aU, aU, aU, aU, aU] [] Try.func119 rfl (by kernel_rfl) (fun e x h => by cases h) ?_
  refine aw_sr [⟨.new, [], none, true⟩, ⟨.new, [], none, true⟩, ⟨.pure, [], none, true⟩]
    (fun L1 => ⟨[some (.slice none 0 0), aI 0, aP (L1 0).b 0, aP (L1 1).b 0, aI 0, aU, aU, aU, aU, aU, aU, aU, aU, aU, aU], [.blk ((L1 0).b) [.slice none 0 0] 46 true, .blk ((L1 1).b) [aN 0] 3 true], []⟩)
    (fun L1 => [])
    fol (by kernel_rfl) (fun _ => by kernel_rfl) (fun L1 => trivial) (fun L1 => ?_)
  refine aw_sr [⟨(.read 0), [], none, true⟩, ⟨.pure, [0], none, true⟩, ⟨.pure, [], none, true⟩, ⟨(.call [0, 1] (.tuple #[aN 0, aN 0])), [0, 1, 2], none, true⟩, ⟨.pure, [0, 1, 2, 3], none, true⟩, ⟨.pure, [0, 1, 2, 3, 4], none, true⟩, ⟨.pure, [0, 1, 2, 3, 4], none, true⟩, ⟨.pure, [0, 1, 2, 3, 4, 5], none, true⟩, ⟨.pure, [0, 1, 2, 3, 4, 5, 6, 7], none, true⟩]
    (fun L2 => ⟨[some (.slice none 0 0), aI 0, aP (L1 0).b 0, aP (L1 1).b 0, aI 0, aI 0, aI 0, some (.tuple #[aN 0, aN 0]), some (.slice none 0 0), aI 0, some (.func (.func 142) #[] #[.pointer (some ⟨(L1 0).b, 0, none⟩), .pointer (some ⟨(L1 1).b, 0, none⟩)]), some (.tuple #[aN 0, aN 0]), aI 0, aI 0, aU], [.blk ((L1 0).b) [.slice none 0 0] 46 true, .blk ((L1 1).b) [aN 0] 3 true], []⟩)
    (fun L2 => [(L1 0).b = (L1 0).b, CallOb Try.prog 76 #[aN 0, .func (.func 142) #[] #[.pointer (some ⟨(L1 0).b, 0, none⟩), .pointer (some ⟨(L1 1).b, 0, none⟩)]] [.blk ((L1 0).b) [.slice none 0 0] 46 true, .blk ((L1 1).b) [aN 0] 3 true] (.tuple #[aN 0, aN 0])])
    fol (by kernel_rfl) (fun _ => by kernel_rfl) (fun L2 => ⟨rfl, (callOb_frz (UA.i_97 ((L1 0).b) ((L1 1).b) )), trivial⟩) (fun L2 => ?_)
  refine aw_sr [⟨.pure, [], none, true⟩, ⟨.pure, [0], none, true⟩]
    (fun L3 => ⟨[some (.slice none 0 0), aI 0, aP (L1 0).b 0, aP (L1 1).b 0, aI 0, aI 0, aI 0, some (.tuple #[aN 0, aN 0]), some (.slice none 0 0), aI 0, some (.func (.func 142) #[] #[.pointer (some ⟨(L1 0).b, 0, none⟩), .pointer (some ⟨(L1 1).b, 0, none⟩)]), some (.tuple #[aN 0, aN 0]), aI 0, aI 0, aI 0], [.blk ((L1 0).b) [.slice none 0 0] 46 true, .blk ((L1 1).b) [aN 0] 3 true], []⟩)
    (fun L3 => [])
    fol (by kernel_rfl) (fun _ => by kernel_rfl) (fun L3 => trivial) (fun L3 => ?_)
  refine aw_ret ?_
  exact fin_ret none [0] (aN 0) [] (.inr rfl) rfl (by kernel_rfl) trivial (fun w' hb => ⟨rfl, hb⟩)

-- couplant/base.FirstOf
set_option maxRecDepth 100000 in
set_option maxHeartbeats 400000 in
theorem UA.i_99 (b1 : Nat) : CallOb Try.prog 78 #[.slice (some ⟨b1, 0, none⟩) (5) (5)] [.blk (b1) [aN 0, aN 0, aN 0, aN 0, aN 0] 25 false] (aN 0) := by
  intro w hw
  refine calls_aw [aS b1 0 5 5, aU, aU, aU, aU, aU, aU, aU, aU, aU, aU, aU, aU, aU, aU] [.blk (b1) [aN 0, aN 0, aN 0, aN 0, aN 0] 25 false] Try.func78 rfl (by kernel_rfl) (esOk hw (by simp [Cel.mine])) ?_
  refine aw_sr [⟨.pure, [], none, true⟩]
    (fun L1 => ⟨[aS b1 0 5 5, aU, aI 0, aU, aU, aU, aU, aU, aU, aU, aU, aU, aU, aU, aU], [.blk (b1) [aN 0, aN 0, aN 0, aN 0, aN 0] 25 false], []⟩)
    (fun L1 => [])
    fol (by kernel_rfl) (fun _ => by kernel_rfl) (fun L1 => trivial) (fun L1 => ?_)
  refine aw_seq ?_
  refine aw_sr [⟨.pure, [], none, true⟩, ⟨.pure, [0], none, true⟩, ⟨.pure, [], none, true⟩]
    (fun L2 => ⟨[aS b1 0 5 5, aU, aI 0, aU, aU, aS b1 0 5 5, aI 5, aI 0, aU, aU, aU, aU, aU, aU, aU], [.blk (b1) [aN 0, aN 0, aN 0, aN 0, aN 0] 25 false], []⟩)
    (fun L2 => [])
    fol (by kernel_rfl) (fun _ => by kernel_rfl) (fun L2 => trivial) (fun L2 => ?_)
  refine aw_block ?_
  refine aw_rounds 6 ?_
  refine aw_round ?_
  refine aw_sr [⟨.pure, [], none, true⟩]
    (fun L3 => ⟨[aS b1 0 5 5, aU, aI 0, aU, aU, aS b1 0 5 5, aI 5, aI 0, aT, aU, aU, aU, aU, aU, aU], [.blk (b1) [aN 0, aN 0, aN 0, aN 0, aN 0] 25 false], []⟩)
    (fun L3 => [])
    fol (by kernel_rfl) (fun _ => by kernel_rfl) (fun L3 => trivial) (fun L3 => ?_)
  refine aw_seq ?_
  refine aw_true (true) rfl rfl ?_
  refine aw_skip ?_
  refine nrm_thn ?_
  refine aw_seq ?_
  refine aw_block ?_
  refine aw_sr [⟨.pure, [], none, true⟩, ⟨(.read 0), [0], none, true⟩, ⟨.pure, [0, 1], none, true⟩]
    (fun L4 => ⟨[aS b1 0 5 5, aU, aI 0, aU, aI 0, aS b1 0 5 5, aI 5, aI 0, aT, aP b1 0, aI 0, aU, aU, aU, aU], [.blk (b1) [aN 0, aN 0, aN 0, aN 0, aN 0] 25 false], []⟩)
    (fun L4 => [b1 = b1])
    fol (by kernel_rfl) (fun _ => by kernel_rfl) (fun L4 => ⟨rfl, trivial⟩) (fun L4 => ?_)
  refine aw_sr [⟨.pure, [], none, true⟩, ⟨.pure, [0], none, true⟩]
    (fun L5 => ⟨[aS b1 0 5 5, aU, aI 0, aU, aI 0, aS b1 0 5 5, aI 5, aI 0, aT, aP b1 0, aI 0, aI 0, aF, aU, aU], [.blk (b1) [aN 0, aN 0, aN 0, aN 0, aN 0] 25 false], []⟩)
    (fun L5 => [])
    fol (by kernel_rfl) (fun _ => by kernel_rfl) (fun L5 => trivial) (fun L5 => ?_)
  refine aw_false (false) rfl rfl ?_
  refine aw_skip ?_
  refine nrm_inB ?_
  refine nrm_thn ?_
  refine aw_region [⟨.pure, [], none, true⟩, ⟨.pure, [0], none, true⟩]
    (fun L6 => ⟨[aS b1 0 5 5, aU, aI 0, aU, aI 0, aS b1 0 5 5, aI 5, aI 1, aT, aP b1 0, aI 0, aI 0, aF, aU, aI 1], [.blk (b1) [aN 0, aN 0, aN 0, aN 0, aN 0] 25 false], []⟩)
    (fun L6 => [])
    fol (by kernel_rfl) (fun _ => by kernel_rfl) (fun L6 => trivial) (fun L6 => ?_)
  refine nrm_thn ?_
  refine aw_round ?_
  refine aw_sr [⟨.pure, [], none, true⟩]
    (fun L7 => ⟨[aS b1 0 5 5, aU, aI 0, aU, aI 0, aS b1 0 5 5, aI 5, aI 1, aT, aP b1 0, aI 0, aI 0, aF, aU, aI 1], [.blk (b1) [aN 0, aN 0, aN 0, aN 0, aN 0] 25 false], []⟩)
    (fun L7 => [])
    fol (by kernel_rfl) (fun _ => by kernel_rfl) (fun L7 => trivial) (fun L7 => ?_)
  refine aw_seq ?_
  refine aw_true (true) rfl rfl ?_
  refine aw_skip ?_
  refine nrm_thn ?_
  refine aw_seq ?_
  refine aw_block ?_
  refine aw_sr [⟨.pure, [], none, true⟩, ⟨(.read 0), [0], none, true⟩, ⟨.pure, [0, 1], none, true⟩]
    (fun L8 => ⟨[aS b1 0 5 5, aU, aI 0, aU, aI 0, aS b1 0 5 5, aI 5, aI 1, aT, aP b1 1, aI 0, aI 0, aF, aU, aI 1], [.blk (b1) [aN 0, aN 0, aN 0, aN 0, aN 0] 25 false], []⟩)
    (fun L8 => [b1 = b1])
    fol (by kernel_rfl) (fun _ => by kernel_rfl) (fun L8 => ⟨rfl, trivial⟩) (fun L8 => ?_)
  refine aw_sr [⟨.pure, [], none, true⟩, ⟨.pure, [0], none, true⟩]
    (fun L9 => ⟨[aS b1 0 5 5, aU, aI 0, aU, aI 0, aS b1 0 5 5, aI 5, aI 1, aT, aP b1 1, aI 0, aI 0, aF, aU, aI 1], [.blk (b1) [aN 0, aN 0, aN 0, aN 0, aN 0] 25 false], []⟩)
    (fun L9 => [])
    fol (by kernel_rfl) (fun _ => by kernel_rfl) (fun L9 => trivial) (fun L9 => ?_)
  refine aw_false (false) rfl rfl ?_
  refine aw_skip ?_
  refine nrm_inB ?_
  refine nrm_thn ?_
  refine aw_region [⟨.pure, [], none, true⟩, ⟨.pure, [0], none, true⟩]
    (fun L10 => ⟨[aS b1 0 5 5, aU, aI 0, aU, aI 0, aS b1 0 5 5, aI 5, aI 2, aT, aP b1 1, aI 0, aI 0, aF, aU, aI 2], [.blk (b1) [aN 0, aN 0, aN 0, aN 0, aN 0] 25 false], []⟩)
    (fun L10 => [])
    fol (by kernel_rfl) (fun _ => by kernel_rfl) (fun L10 => trivial) (fun L10 => ?_)
  refine nrm_thn ?_
  refine aw_round ?_
  refine aw_sr [⟨.pure, [], none, true⟩]
    (fun L11 => ⟨[aS b1 0 5 5, aU, aI 0, aU, aI 0, aS b1 0 5 5, aI 5, aI 2, aT, aP b1 1, aI 0, aI 0, aF, aU, aI 2], [.blk (b1) [aN 0, aN 0, aN 0, aN 0, aN 0] 25 false], []⟩)
    (fun L11 => [])
    fol (by kernel_rfl) (fun _ => by kernel_rfl) (fun L11 => trivial) (fun L11 => ?_)
  refine aw_seq ?_
  refine aw_true (true) rfl rfl ?_
  refine aw_skip ?_
  refine nrm_thn ?_
  refine aw_seq ?_
  refine aw_block ?_
  refine aw_sr [⟨.pure, [], none, true⟩, ⟨(.read 0), [0], none, true⟩, ⟨.pure, [0, 1], none, true⟩]
    (fun L12 => ⟨[aS b1 0 5 5, aU, aI 0, aU, aI 0, aS b1 0 5 5, aI 5, aI 2, aT, aP b1 2, aI 0, aI 0, aF, aU, aI 2], [.blk (b1) [aN 0, aN 0, aN 0, aN 0, aN 0] 25 false], []⟩)
    (fun L12 => [b1 = b1])
    fol (by kernel_rfl) (fun _ => by kernel_rfl) (fun L12 => ⟨rfl, trivial⟩) (fun L12 => ?_)
  refine aw_sr [⟨.pure, [], none, true⟩, ⟨.pure, [0], none, true⟩]
    (fun L13 => ⟨[aS b1 0 5 5, aU, aI 0, aU, aI 0, aS b1 0 5 5, aI 5, aI 2, aT, aP b1 2, aI 0, aI 0, aF, aU, aI 2], [.blk (b1) [aN 0, aN 0, aN 0, aN 0, aN 0] 25 false], []⟩)
    (fun L13 => [])
    fol (by kernel_rfl) (fun _ => by kernel_rfl) (fun L13 => trivial) (fun L13 => ?_)
  refine aw_false (false) rfl rfl ?_
  refine aw_skip ?_
  refine nrm_inB ?_
  refine nrm_thn ?_
  refine aw_region [⟨.pure, [], none, true⟩, ⟨.pure, [0], none, true⟩]
    (fun L14 => ⟨[aS b1 0 5 5, aU, aI 0, aU, aI 0, aS b1 0 5 5, aI 5, aI 3, aT, aP b1 2, aI 0, aI 0, aF, aU, aI 3], [.blk (b1) [aN 0, aN 0, aN 0, aN 0, aN 0] 25 false], []⟩)
    (fun L14 => [])
    fol (by kernel_rfl) (fun _ => by kernel_rfl) (fun L14 => trivial) (fun L14 => ?_)
  refine nrm_thn ?_
  refine aw_round ?_
  refine aw_sr [⟨.pure, [], none, true⟩]
    (fun L15 => ⟨[aS b1 0 5 5, aU, aI 0, aU, aI 0, aS b1 0 5 5, aI 5, aI 3, aT, aP b1 2, aI 0, aI 0, aF, aU, aI 3], [.blk (b1) [aN 0, aN 0, aN 0, aN 0, aN 0] 25 false], []⟩)
    (fun L15 => [])
    fol (by kernel_rfl) (fun _ => by kernel_rfl) (fun L15 => trivial) (fun L15 => ?_)
  refine aw_seq ?_
  refine aw_true (true) rfl rfl ?_
  refine aw_skip ?_
  refine nrm_thn ?_
  refine aw_seq ?_
  refine aw_block ?_
  refine aw_sr [⟨.pure, [], none, true⟩, ⟨(.read 0), [0], none, true⟩, ⟨.pure, [0, 1], none, true⟩]
    (fun L16 => ⟨[aS b1 0 5 5, aU, aI 0, aU, aI 0, aS b1 0 5 5, aI 5, aI 3, aT, aP b1 3, aI 0, aI 0, aF, aU, aI 3], [.blk (b1) [aN 0, aN 0, aN 0, aN 0, aN 0] 25 false], []⟩)
    (fun L16 => [b1 = b1])
    fol (by kernel_rfl) (fun _ => by kernel_rfl) (fun L16 => ⟨rfl, trivial⟩) (fun L16 => ?_)
  refine aw_sr [⟨.pure, [], none, true⟩, ⟨.pure, [0], none, true⟩]
    (fun L17 => ⟨[aS b1 0 5 5, aU, aI 0, aU, aI 0, aS b1 0 5 5, aI 5, aI 3, aT, aP b1 3, aI 0, aI 0, aF, aU, aI 3], [.blk (b1) [aN 0, aN 0, aN 0, aN 0, aN 0] 25 false], []⟩)
    (fun L17 => [])
    fol (by kernel_rfl) (fun _ => by kernel_rfl) (fun L17 => trivial) (fun L17 => ?_)
  refine aw_false (false) rfl rfl ?_
  refine aw_skip ?_
  refine nrm_inB ?_
  refine nrm_thn ?_
  refine aw_region [⟨.pure, [], none, true⟩, ⟨.pure, [0], none, true⟩]
    (fun L18 => ⟨[aS b1 0 5 5, aU, aI 0, aU, aI 0, aS b1 0 5 5, aI 5, aI 4, aT, aP b1 3, aI 0, aI 0, aF, aU, aI 4], [.blk (b1) [aN 0, aN 0, aN 0, aN 0, aN 0] 25 false], []⟩)
    (fun L18 => [])
    fol (by kernel_rfl) (fun _ => by kernel_rfl) (fun L18 => trivial) (fun L18 => ?_)
  refine nrm_thn ?_
  refine aw_round ?_
  refine aw_sr [⟨.pure, [], none, true⟩]
    (fun L19 => ⟨[aS b1 0 5 5, aU, aI 0, aU, aI 0, aS b1 0 5 5, aI 5, aI 4, aT, aP b1 3, aI 0, aI 0, aF, aU, aI 4], [.blk (b1) [aN 0, aN 0, aN 0, aN 0, aN 0] 25 false], []⟩)
    (fun L19 => [])
    fol (by kernel_rfl) (fun _ => by kernel_rfl) (fun L19 => trivial) (fun L19 => ?_)
  refine aw_seq ?_
  refine aw_true (true) rfl rfl ?_
  refine aw_skip ?_
  refine nrm_thn ?_
  refine aw_seq ?_
  refine aw_block ?_
  refine aw_sr [⟨.pure, [], none, true⟩, ⟨(.read 0), [0], none, true⟩, ⟨.pure, [0, 1], none, true⟩]
    (fun L20 => ⟨[aS b1 0 5 5, aU, aI 0, aU, aI 0, aS b1 0 5 5, aI 5, aI 4, aT, aP b1 4, aI 0, aI 0, aF, aU, aI 4], [.blk (b1) [aN 0, aN 0, aN 0, aN 0, aN 0] 25 false], []⟩)
    (fun L20 => [b1 = b1])
    fol (by kernel_rfl) (fun _ => by kernel_rfl) (fun L20 => ⟨rfl, trivial⟩) (fun L20 => ?_)
  refine aw_sr [⟨.pure, [], none, true⟩, ⟨.pure, [0], none, true⟩]
    (fun L21 => ⟨[aS b1 0 5 5, aU, aI 0, aU, aI 0, aS b1 0 5 5, aI 5, aI 4, aT, aP b1 4, aI 0, aI 0, aF, aU, aI 4], [.blk (b1) [aN 0, aN 0, aN 0, aN 0, aN 0] 25 false], []⟩)
    (fun L21 => [])
    fol (by kernel_rfl) (fun _ => by kernel_rfl) (fun L21 => trivial) (fun L21 => ?_)
  refine aw_false (false) rfl rfl ?_
  refine aw_skip ?_
  refine nrm_inB ?_
  refine nrm_thn ?_
  refine aw_region [⟨.pure, [], none, true⟩, ⟨.pure, [0], none, true⟩]
    (fun L22 => ⟨[aS b1 0 5 5, aU, aI 0, aU, aI 0, aS b1 0 5 5, aI 5, aI 5, aT, aP b1 4, aI 0, aI 0, aF, aU, aI 5], [.blk (b1) [aN 0, aN 0, aN 0, aN 0, aN 0] 25 false], []⟩)
    (fun L22 => [])
    fol (by kernel_rfl) (fun _ => by kernel_rfl) (fun L22 => trivial) (fun L22 => ?_)
  refine nrm_thn ?_
  refine aw_round ?_
  refine aw_sr [⟨.pure, [], none, true⟩]
    (fun L23 => ⟨[aS b1 0 5 5, aU, aI 0, aU, aI 0, aS b1 0 5 5, aI 5, aI 5, aF, aP b1 4, aI 0, aI 0, aF, aU, aI 5], [.blk (b1) [aN 0, aN 0, aN 0, aN 0, aN 0] 25 false], []⟩)
    (fun L23 => [])
    fol (by kernel_rfl) (fun _ => by kernel_rfl) (fun L23 => trivial) (fun L23 => ?_)
  refine aw_seq ?_
  refine aw_false (false) rfl rfl ?_
  refine aw_exit ?_
  refine ex_thn ?_
  refine ex_thn ?_
  refine ex_hit ?_
  refine nrm_thn ?_
  refine aw_sr [⟨.pure, [], none, true⟩]
    (fun L24 => ⟨[aS b1 0 5 5, aU, aI 0, aU, aI 0, aS b1 0 5 5, aI 5, aI 5, aF, aP b1 4, aI 0, aI 0, aF, aU, aI 5], [.blk (b1) [aN 0, aN 0, aN 0, aN 0, aN 0] 25 false], []⟩)
    (fun L24 => [])
    fol (by kernel_rfl) (fun _ => by kernel_rfl) (fun L24 => trivial) (fun L24 => ?_)
  refine aw_ret ?_
  exact fin_ret none [0] (aN 0) [] (.inr rfl) rfl (by kernel_rfl) trivial (fun w' hb => ⟨rfl, hb⟩)

-- couplant/tune.CheckSteps$1
set_option maxRecDepth 100000 in
set_option maxHeartbeats 400000 in
theorem UA.i_100 (b1 b2 b3 : Nat) : CallOb Try.prog 115 #[aN 0, .pointer (some ⟨b1, 0, none⟩)] [.blk (b1) [.slice (some ⟨b2, 0, none⟩) (2) (2)] 87 false, .blk (b2) [.string (ByteArray.mk #[119, 101, 100, 103, 101]), aN 100, aN 50, .slice none 0 0, .string (ByteArray.mk #[103, 97, 105, 110]), aN 50, aN 50, .slice (some ⟨b3, 0, none⟩) (1) (1)] 105 false, .blk (b3) [aN 0] 3 false] (aN 0) := by
  intro w hw
  refine calls_aw [aI 0, aP b1 0, aU, aU, aU, aU, aU, aU, aU, aU, aU, aU, aU, aU, aU, aU, aU, aU, aU, aU, aU, aU, aU, aU, aU, aU, aU, aU, aU, aU, aU, aU, aU, aU] [.blk (b1) [.slice (some ⟨b2, 0, none⟩) (2) (2)] 87 false, .blk (b2) [.string (ByteArray.mk #[119, 101, 100, 103, 101]), aN 100, aN 50, .slice none 0 0, .string (ByteArray.mk #[103, 97, 105, 110]), aN 50, aN 50, .slice (some ⟨b3, 0, none⟩) (1) (1)] 105 false, .blk (b3) [aN 0] 3 false] Try.func115 rfl (by kernel_rfl) (esOk hw (by simp [Cel.mine])) ?_
  refine aw_sr [⟨.pure, [], none, true⟩]
    (fun L1 => ⟨[aI 0, aP b1 0, aU, aI 0, aU, aU, aU, aU, aU, aU, aU, aU, aU, aU, aU, aU, aU, aU, aU, aU, aU, aU, aU, aU, aU, aU, aU, aU, aU, aU, aU, aU, aU, aU], [.blk (b1) [.slice (some ⟨b2, 0, none⟩) (2) (2)] 87 false, .blk (b2) [.string (ByteArray.mk #[119, 101, 100, 103, 101]), aN 100, aN 50, .slice none 0 0, .string (ByteArray.mk #[103, 97, 105, 110]), aN 50, aN 50, .slice (some ⟨b3, 0, none⟩) (1) (1)] 105 false, .blk (b3) [aN 0] 3 false], []⟩)
    (fun L1 => [])
    fol (by kernel_rfl) (fun _ => by kernel_rfl) (fun L1 => trivial) (fun L1 => ?_)
  refine aw_sr [⟨(.read 0), [], none, true⟩, ⟨.pure, [], none, true⟩, ⟨.pure, [0, 1], none, true⟩, ⟨.pure, [0, 1, 2], none, true⟩, ⟨(.read 1), [0, 1, 2, 3], none, true⟩, ⟨(.call [] (aN 0)), [0, 1, 2, 3, 4], none, true⟩, ⟨(.read 0), [], none, true⟩, ⟨.pure, [], none, true⟩, ⟨(.call [1, 2] (aN 0)), [0, 1, 2, 3, 4, 5, 6, 7], none, true⟩, ⟨(.read 0), [], none, true⟩, ⟨.pure, [], none, true⟩, ⟨.pure, [9, 10], none, true⟩, ⟨.pure, [9, 10, 11], none, true⟩, ⟨(.read 1), [9, 10, 11, 12], none, true⟩, ⟨(.call [] (aN 0)), [0, 1, 2, 3, 4, 5, 6, 7, 8, 9, 10, 11, 12, 13], none, true⟩, ⟨(.read 0), [], none, true⟩, ⟨.pure, [], none, true⟩, ⟨.pure, [15, 16], none, true⟩, ⟨.pure, [15, 16, 17], none, true⟩, ⟨(.read 1), [15, 16, 17, 18], none, true⟩, ⟨(.call [] (aN 0)), [0, 1, 2, 3, 4, 5, 6, 7, 8, 9, 10, 11, 12, 13, 14, 15, 16, 17, 18, 19], none, true⟩, ⟨(.read 0), [], none, true⟩, ⟨.pure, [], none, true⟩, ⟨.pure, [21, 22], none, true⟩, ⟨.pure, [21, 22, 23], none, true⟩, ⟨(.read 1), [21, 22, 23, 24], none, true⟩, ⟨.pure, [], none, true⟩, ⟨(.call [] (aN 0)), [0, 1, 2, 3, 4, 5, 6, 7, 8, 9, 10, 11, 12, 13, 14, 15, 16, 17, 18, 19, 20, 21, 22, 23, 24, 25, 26], none, true⟩, ⟨.new, [0, 1, 2, 3, 4, 5, 6, 7, 8, 9, 10, 11, 12, 13, 14, 15, 16, 17, 18, 19, 20, 21, 22, 23, 24, 25, 26, 27], none, true⟩, ⟨(.call [31] (aN 0)), [0, 1, 2, 3, 4, 5, 6, 7, 8, 9, 10, 11, 12, 13, 14, 15, 16, 17, 18, 19, 20, 21, 22, 23, 24, 25, 26, 27, 28], none, true⟩, ⟨.pure, [0, 1, 2, 3, 4, 5, 6, 7, 8, 9, 10, 11, 12, 13, 14, 15, 16, 17, 18, 19, 20, 21, 22, 23, 24, 25, 26, 27, 28, 29], none, true⟩]
    (fun L2 => ⟨[aI 0, aP b1 0, aU, aI 0, aS b2 0 2 2, aI 0, aP b2 0, aP b2 0, some (.string (ByteArray.mk #[119, 101, 100, 103, 101])), aI 0, aS b2 0 2 2, aI 0, aI 0, aS b2 0 2 2, aI 0, aP b2 0, aP b2 1, aI 100, aI 0, aS b2 0 2 2, aI 0, aP b2 0, aP b2 2, aI 50, aI 0, aS b2 0 2 2, aI 0, aP b2 0, aP b2 3, some (.slice none 0 0), aI 0, aI 0, aS (L2 28).b 0 5 5, aI 0], [.blk (b1) [.slice (some ⟨b2, 0, none⟩) (2) (2)] 87 false, .blk (b2) [.string (ByteArray.mk #[119, 101, 100, 103, 101]), aN 100, aN 50, .slice none 0 0, .string (ByteArray.mk #[103, 97, 105, 110]), aN 50, aN 50, .slice (some ⟨b3, 0, none⟩) (1) (1)] 105 false, .blk (b3) [aN 0] 3 false, .blk ((L2 28).b) [aN 0, aN 0, aN 0, aN 0, aN 0] 25 true], []⟩)
    (fun L2 => [b1 = b1, b2 = b2, CallOb Try.prog 116 #[.string (ByteArray.mk #[119, 101, 100, 103, 101])] [] (aN 0), b1 = b1, CallOb Try.prog 117 #[.slice (some ⟨b2, 0, none⟩) (2) (2), aN 0, .func (.func 118) #[] #[]] [.blk (b2) [.string (ByteArray.mk #[119, 101, 100, 103, 101]), aN 100, aN 50, .slice none 0 0, .string (ByteArray.mk #[103, 97, 105, 110]), aN 50, aN 50, .slice (some ⟨b3, 0, none⟩) (1) (1)] 105 false, .blk (b3) [aN 0] 3 false] (aN 0), b1 = b1, b2 = b2, CallOb Try.prog 79 #[aN 100, aN 1, aN 1000000] [] (aN 0), b1 = b1, b2 = b2, CallOb Try.prog 79 #[aN 50, aN 0, aN 2000] [] (aN 0), b1 = b1, b2 = b2, CallOb Try.prog 119 #[.slice none 0 0, aN 0] [] (aN 0), CallOb Try.prog 78 #[.slice (some ⟨(L2 28).b, 0, none⟩) (5) (5)] [.blk ((L2 28).b) [aN 0, aN 0, aN 0, aN 0, aN 0] 25 true] (aN 0)])
    fol (by kernel_rfl) (fun _ => by kernel_rfl) (fun L2 => ⟨rfl, rfl, (callOb_frz (UA.i_88  )), rfl, (callOb_frz (UA.i_92 (b2) (b3) )), rfl, rfl, (callOb_frz (UA.i_94  )), rfl, rfl, (callOb_frz (UA.i_96  )), rfl, rfl, (callOb_frz (UA.i_98  )), (callOb_frz (UA.i_99 ((L2 28).b) )), trivial⟩) (fun L2 => ?_)
  refine aw_ret ?_
  exact fin_ret none [0] (aN 0) [] (.inr rfl) rfl (by kernel_rfl) trivial (fun w' hb => ⟨rfl, hb⟩)

-- couplant/base.isLetter
set_option maxRecDepth 100000 in
set_option maxHeartbeats 400000 in
theorem UA.i_101 : CallOb Try.prog 151 #[.int .u8 (97)] [] (.bool (true)) := by
  intro w hw
  refine calls_aw [some (.int .u8 (97)), aU, aU, aU, aU, aU, aU, aU, aU, aU, aU, aU, aU, aU, aU, aU, aU] [] Try.func151 rfl (by kernel_rfl) (fun e x h => by cases h) ?_
  refine aw_sr [⟨.pure, [], none, true⟩]
    (fun L1 => ⟨[some (.int .u8 (97)), aU, aF, aU, aU, aU, aU, aU, aU, aU, aU, aU, aU, aU, aU, aU, aU], [], []⟩)
    (fun L1 => [])
    fol (by kernel_rfl) (fun _ => by kernel_rfl) (fun L1 => trivial) (fun L1 => ?_)
  refine aw_sr [⟨.pure, [], none, true⟩, ⟨.pure, [0], none, true⟩, ⟨.pure, [0, 1], none, true⟩, ⟨.pure, [0, 1, 2], none, true⟩, ⟨.pure, [0, 1, 2, 3], none, true⟩, ⟨.pure, [0, 1, 2, 3, 4], aF, true⟩, ⟨.pure, [0, 1, 2, 3, 4, 5], none, true⟩, ⟨.pure, [0, 1, 2, 3, 4, 5, 6], none, true⟩, ⟨.pure, [0, 1, 2, 3, 4, 5, 6, 7], none, true⟩, ⟨.pure, [0, 1, 2, 3, 4, 5, 6, 7, 8], none, true⟩, ⟨.pure, [0, 1, 2, 3, 4, 5, 6, 7, 8, 9], none, true⟩, ⟨.pure, [0, 1, 2, 3, 4, 5, 6, 7, 8, 9, 10], none, true⟩, ⟨.pure, [0, 1, 2, 3, 4, 5, 6, 7, 8, 9, 10, 11], aT, true⟩, ⟨.pure, [0, 1, 2, 3, 4, 5, 6, 7, 8, 9, 10, 11, 12], aT, true⟩, ⟨.pure, [0, 1, 2, 3, 4, 5, 6, 7, 8, 9, 10, 11, 12, 13], none, true⟩]
    (fun L2 => ⟨[some (.int .u8 (97)), aU, aT, some (.int .u8 (97)), aT, aT, some (.int .u8 (97)), aF, aF, aF, some (.int .u8 (97)), aT, aT, some (.int .u8 (97)), aT, aT, aT], [], []⟩)
    (fun L2 => [(true) = true, (true) = true, (.bool (false) : Value) = .bool (false), (false) = false, (false) = false, (false) = false, (true) = true, (true) = true, (false) = false, (.bool (true) : Value) = .bool (true), (.bool (true) : Value) = .bool (true)])
    fol (by kernel_rfl) (fun _ => by kernel_rfl) (fun L2 => ⟨rfl, rfl, rfl, rfl, rfl, rfl, rfl, rfl, rfl, rfl, rfl, trivial⟩) (fun L2 => ?_)
  refine aw_ret ?_
  exact fin_ret none [0] (.bool (true)) [] (.inr rfl) rfl (by kernel_rfl) trivial (fun w' hb => ⟨rfl, hb⟩)

-- couplant/base.isLetter
set_option maxRecDepth 100000 in
set_option maxHeartbeats 400000 in
theorem UA.i_102 : CallOb Try.prog 151 #[.int .u8 (105)] [] (.bool (true)) := by
  intro w hw
  refine calls_aw [some (.int .u8 (105)), aU, aU, aU, aU, aU, aU, aU, aU, aU, aU, aU, aU, aU, aU, aU, aU] [] Try.func151 rfl (by kernel_rfl) (fun e x h => by cases h) ?_
  refine aw_sr [⟨.pure, [], none, true⟩]
    (fun L1 => ⟨[some (.int .u8 (105)), aU, aF, aU, aU, aU, aU, aU, aU, aU, aU, aU, aU, aU, aU, aU, aU], [], []⟩)
    (fun L1 => [])
    fol (by kernel_rfl) (fun _ => by kernel_rfl) (fun L1 => trivial) (fun L1 => ?_)
  refine aw_sr [⟨.pure, [], none, true⟩, ⟨.pure, [0], none, true⟩, ⟨.pure, [0, 1], none, true⟩, ⟨.pure, [0, 1, 2], none, true⟩, ⟨.pure, [0, 1, 2, 3], none, true⟩, ⟨.pure, [0, 1, 2, 3, 4], aF, true⟩, ⟨.pure, [0, 1, 2, 3, 4, 5], none, true⟩, ⟨.pure, [0, 1, 2, 3, 4, 5, 6], none, true⟩, ⟨.pure, [0, 1, 2, 3, 4, 5, 6, 7], none, true⟩, ⟨.pure, [0, 1, 2, 3, 4, 5, 6, 7, 8], none, true⟩, ⟨.pure, [0, 1, 2, 3, 4, 5, 6, 7, 8, 9], none, true⟩, ⟨.pure, [0, 1, 2, 3, 4, 5, 6, 7, 8, 9, 10], none, true⟩, ⟨.pure, [0, 1, 2, 3, 4, 5, 6, 7, 8, 9, 10, 11], aT, true⟩, ⟨.pure, [0, 1, 2, 3, 4, 5, 6, 7, 8, 9, 10, 11, 12], aT, true⟩, ⟨.pure, [0, 1, 2, 3, 4, 5, 6, 7, 8, 9, 10, 11, 12, 13], none, true⟩]
    (fun L2 => ⟨[some (.int .u8 (105)), aU, aT, some (.int .u8 (105)), aT, aT, some (.int .u8 (105)), aF, aF, aF, some (.int .u8 (105)), aT, aT, some (.int .u8 (105)), aT, aT, aT], [], []⟩)
    (fun L2 => [(true) = true, (true) = true, (.bool (false) : Value) = .bool (false), (false) = false, (false) = false, (false) = false, (true) = true, (true) = true, (false) = false, (.bool (true) : Value) = .bool (true), (.bool (true) : Value) = .bool (true)])
    fol (by kernel_rfl) (fun _ => by kernel_rfl) (fun L2 => ⟨rfl, rfl, rfl, rfl, rfl, rfl, rfl, rfl, rfl, rfl, rfl, trivial⟩) (fun L2 => ?_)
  refine aw_ret ?_
  exact fin_ret none [0] (.bool (true)) [] (.inr rfl) rfl (by kernel_rfl) trivial (fun w' hb => ⟨rfl, hb⟩)

-- couplant/base.isLetter
set_option maxRecDepth 100000 in
set_option maxHeartbeats 400000 in
theorem UA.i_103 : CallOb Try.prog 151 #[.int .u8 (110)] [] (.bool (true)) := by
  intro w hw
  refine calls_aw [some (.int .u8 (110)), aU, aU, aU, aU, aU, aU, aU, aU, aU, aU, aU, aU, aU, aU, aU, aU] [] Try.func151 rfl (by kernel_rfl) (fun e x h => by cases h) ?_
  refine aw_sr [⟨.pure, [], none, true⟩]
    (fun L1 => ⟨[some (.int .u8 (110)), aU, aF, aU, aU, aU, aU, aU, aU, aU, aU, aU, aU, aU, aU, aU, aU], [], []⟩)
    (fun L1 => [])
    fol (by kernel_rfl) (fun _ => by kernel_rfl) (fun L1 => trivial) (fun L1 => ?_)
  refine aw_sr [⟨.pure, [], none, true⟩, ⟨.pure, [0], none, true⟩, ⟨.pure, [0, 1], none, true⟩, ⟨.pure, [0, 1, 2], none, true⟩, ⟨.pure, [0, 1, 2, 3], none, true⟩, ⟨.pure, [0, 1, 2, 3, 4], aF, true⟩, ⟨.pure, [0, 1, 2, 3, 4, 5], none, true⟩, ⟨.pure, [0, 1, 2, 3, 4, 5, 6], none, true⟩, ⟨.pure, [0, 1, 2, 3, 4, 5, 6, 7], none, true⟩, ⟨.pure, [0, 1, 2, 3, 4, 5, 6, 7, 8], none, true⟩, ⟨.pure, [0, 1, 2, 3, 4, 5, 6, 7, 8, 9], none, true⟩, ⟨.pure, [0, 1, 2, 3, 4, 5, 6, 7, 8, 9, 10], none, true⟩, ⟨.pure, [0, 1, 2, 3, 4, 5, 6, 7, 8, 9, 10, 11], aT, true⟩, ⟨.pure, [0, 1, 2, 3, 4, 5, 6, 7, 8, 9, 10, 11, 12], aT, true⟩, ⟨.pure, [0, 1, 2, 3, 4, 5, 6, 7, 8, 9, 10, 11, 12, 13], none, true⟩]
    (fun L2 => ⟨[some (.int .u8 (110)), aU, aT, some (.int .u8 (110)), aT, aT, some (.int .u8 (110)), aF, aF, aF, some (.int .u8 (110)), aT, aT, some (.int .u8 (110)), aT, aT, aT], [], []⟩)
    (fun L2 => [(true) = true, (true) = true, (.bool (false) : Value) = .bool (false), (false) = false, (false) = false, (false) = false, (true) = true, (true) = true, (false) = false, (.bool (true) : Value) = .bool (true), (.bool (true) : Value) = .bool (true)])
    fol (by kernel_rfl) (fun _ => by kernel_rfl) (fun L2 => ⟨rfl, rfl, rfl, rfl, rfl, rfl, rfl, rfl, rfl, rfl, rfl, trivial⟩) (fun L2 => ?_)
  refine aw_ret ?_
  exact fin_ret none [0] (.bool (true)) [] (.inr rfl) rfl (by kernel_rfl) trivial (fun w' hb => ⟨rfl, hb⟩)

-- couplant/base.Within
set_option maxRecDepth 100000 in
set_option maxHeartbeats 400000 in
theorem UA.i_104 : CallOb Try.prog 127 #[aN 4, aN 1, aN 12] [] (.bool (true)) := by
  intro w hw
  refine calls_aw [aI 4, aI 1, aI 12, aU, aU, aU, aU, aU, aU, aU, aU, aU, aU, aU, aU] [] Try.func127 rfl (by kernel_rfl) (fun e x h => by cases h) ?_
  refine aw_sr [⟨.pure, [], none, true⟩]
    (fun L1 => ⟨[aI 4, aI 1, aI 12, aU, aU, aU, aF, aU, aU, aU, aU, aU, aU, aU, aU], [], []⟩)
    (fun L1 => [])
    fol (by kernel_rfl) (fun _ => by kernel_rfl) (fun L1 => trivial) (fun L1 => ?_)
  refine aw_sr [⟨.pure, [], none, true⟩, ⟨.pure, [], none, true⟩, ⟨.pure, [0, 1], none, true⟩, ⟨.pure, [0, 1, 2], none, true⟩, ⟨.pure, [0, 1, 2, 3], none, true⟩, ⟨.pure, [0, 1, 2, 3], none, true⟩, ⟨.pure, [0, 1, 2, 3, 4, 5], none, true⟩, ⟨.pure, [0, 1, 2, 3, 4, 5, 6], aT, true⟩, ⟨.pure, [0, 1, 2, 3, 4, 5, 6, 7], none, true⟩]
    (fun L2 => ⟨[aI 4, aI 1, aI 12, aU, aU, aU, aT, aI 1, aI 4, aT, aT, aI 4, aI 12, aT, aT], [], []⟩)
    (fun L2 => [(true) = true, (true) = true, (true) = true, (.bool (true) : Value) = .bool (true)])
    fol (by kernel_rfl) (fun _ => by kernel_rfl) (fun L2 => ⟨rfl, rfl, rfl, rfl, trivial⟩) (fun L2 => ?_)
  refine aw_ret ?_
  exact fin_ret none [0] (.bool (true)) [] (.inr rfl) rfl (by kernel_rfl) trivial (fun w' hb => ⟨rfl, hb⟩)

-- couplant/base.isName
set_option maxRecDepth 100000 in
set_option maxHeartbeats 400000 in
theorem UA.i_105 : CallOb Try.prog 139 #[.string (ByteArray.mk #[103, 97, 105, 110])] [] (.bool (true)) := by
  intro w hw
  refine calls_aw [some (.string (ByteArray.mk #[103, 97, 105, 110])), aU, aU, aU, aU, aU, aU, aU, aU, aU, aU, aU, aU, aU, aU, aU, aU, aU, aU, aU, aU, aU, aU, aU, aU, aU, aU, aU, aU, aU, aU, aU, aU] [] Try.func139 rfl (by kernel_rfl) (fun e x h => by cases h) ?_
  refine aw_sr [⟨.pure, [], none, true⟩]
    (fun L1 => ⟨[some (.string (ByteArray.mk #[103, 97, 105, 110])), aU, aF, aU, aU, aU, aU, aU, aU, aU, aU, aU, aU, aU, aU, aU, aU, aU, aU, aU, aU, aU, aU, aU, aU, aU, aU, aU, aU, aU, aU, aU, aU], [], []⟩)
    (fun L1 => [])
    fol (by kernel_rfl) (fun _ => by kernel_rfl) (fun L1 => trivial) (fun L1 => ?_)
  refine aw_seq ?_
  refine aw_sr [⟨.pure, [], none, true⟩, ⟨.pure, [0], none, true⟩, ⟨.pure, [], none, true⟩]
    (fun L2 => ⟨[some (.string (ByteArray.mk #[103, 97, 105, 110])), aU, aF, aU, aU, some (.string (ByteArray.mk #[103, 97, 105, 110])), aI 4, aI 0, aU, aU, aU, aU, aU, aU, aU, aU, aU, aU, aU, aU, aU, aU, aU, aU, aU, aU, aU, aU, aU, aU, aU, aU, aU], [], []⟩)
    (fun L2 => [])
    fol (by kernel_rfl) (fun _ => by kernel_rfl) (fun L2 => trivial) (fun L2 => ?_)
  refine aw_block ?_
  refine aw_rounds 5 ?_
  refine aw_round ?_
  refine aw_sr [⟨.pure, [], none, true⟩]
    (fun L3 => ⟨[some (.string (ByteArray.mk #[103, 97, 105, 110])), aU, aF, aU, aU, some (.string (ByteArray.mk #[103, 97, 105, 110])), aI 4, aI 0, aT, aU, aU, aU, aU, aU, aU, aU, aU, aU, aU, aU, aU, aU, aU, aU, aU, aU, aU, aU, aU, aU, aU, aU, aU], [], []⟩)
    (fun L3 => [])
    fol (by kernel_rfl) (fun _ => by kernel_rfl) (fun L3 => trivial) (fun L3 => ?_)
  refine aw_seq ?_
  refine aw_true (true) rfl rfl ?_
  refine aw_skip ?_
  refine nrm_thn ?_
  refine aw_seq ?_
  refine aw_block ?_
  refine aw_sr [⟨.pure, [], none, true⟩, ⟨.pure, [0], none, true⟩]
    (fun L4 => ⟨[some (.string (ByteArray.mk #[103, 97, 105, 110])), aU, aF, aI 0, aU, some (.string (ByteArray.mk #[103, 97, 105, 110])), aI 4, aI 0, aT, aI 0, aU, aU, aU, aU, aU, aU, aU, aU, aU, aU, aU, aU, aU, aU, aU, aU, aU, aU, aU, aU, aU, aU, aU], [], []⟩)
    (fun L4 => [])
    fol (by kernel_rfl) (fun _ => by kernel_rfl) (fun L4 => trivial) (fun L4 => ?_)
  refine aw_sr [⟨.pure, [], none, true⟩, ⟨.pure, [], none, true⟩, ⟨.pure, [0, 1], none, true⟩, ⟨.pure, [0, 1, 2], none, true⟩]
    (fun L5 => ⟨[some (.string (ByteArray.mk #[103, 97, 105, 110])), aU, aF, aI 0, some (.int .u8 (103)), some (.string (ByteArray.mk #[103, 97, 105, 110])), aI 4, aI 0, aT, aI 0, some (.string (ByteArray.mk #[103, 97, 105, 110])), aI 0, some (.int .u8 (103)), aU, aU, aU, aU, aU, aU, aU, aU, aU, aU, aU, aU, aU, aU, aU, aU, aU, aU, aU, aU], [], []⟩)
    (fun L5 => [])
    fol (by kernel_rfl) (fun _ => by kernel_rfl) (fun L5 => trivial) (fun L5 => ?_)
  refine aw_sr [⟨.pure, [], none, true⟩, ⟨(.call [] (.bool (true))), [0], none, true⟩, ⟨.pure, [0, 1], none, true⟩, ⟨.pure, [0, 1, 2], none, true⟩, ⟨.pure, [0, 1, 2, 3], none, false⟩, ⟨.pure, [0, 1, 2, 3, 4], none, false⟩, ⟨.pure, [0, 1, 2, 3, 4, 5], none, false⟩, ⟨.pure, [0, 1, 2, 3, 4, 5, 6], none, false⟩, ⟨.pure, [0, 1, 2, 3, 4, 5, 6, 7], none, false⟩, ⟨.pure, [0, 1, 2, 3, 4, 5, 6, 7, 8], none, false⟩, ⟨.pure, [0, 1, 2, 3, 4, 5, 6, 7, 8, 9], none, false⟩, ⟨.pure, [0, 1, 2, 3, 4, 5, 6, 7, 8, 9, 10], none, false⟩, ⟨.pure, [0, 1, 2, 3, 4, 5, 6, 7, 8, 9, 10, 11], none, false⟩, ⟨.pure, [0, 1, 2, 3, 4, 5, 6, 7, 8, 9, 10, 11, 12], none, false⟩, ⟨.pure, [0, 1, 2, 3, 4, 5, 6, 7, 8, 9, 10, 11, 12, 13], none, false⟩, ⟨.pure, [0, 1, 2, 3, 4, 5, 6, 7, 8, 9, 10, 11, 12, 13, 14], aF, true⟩]
    (fun L6 => ⟨[some (.string (ByteArray.mk #[103, 97, 105, 110])), aU, aF, aI 0, some (.int .u8 (103)), some (.string (ByteArray.mk #[103, 97, 105, 110])), aI 4, aI 0, aT, aI 0, some (.string (ByteArray.mk #[103, 97, 105, 110])), aI 0, some (.int .u8 (103)), some (.int .u8 (103)), aT, aF, aF, aU, aU, aU, aU, aU, aU, aU, aU, aU, aU, aU, aF, aU, aU, aU, aU], [], []⟩)
    (fun L6 => [CallOb Try.prog 151 #[.int .u8 (103)] [] (.bool (true)), (false) = false, (false) = false, (false) = false, (false) = false, (.bool (false) : Value) = .bool (false)])
    fol (by kernel_rfl) (fun _ => by kernel_rfl) (fun L6 => ⟨(callOb_frz (UA.i_84  )), rfl, rfl, rfl, rfl, rfl, trivial⟩) (fun L6 => ?_)
  refine aw_false (false) rfl rfl ?_
  refine aw_skip ?_
  refine nrm_inB ?_
  refine nrm_thn ?_
  refine aw_region [⟨.pure, [], none, true⟩, ⟨.pure, [0], none, true⟩]
    (fun L7 => ⟨[some (.string (ByteArray.mk #[103, 97, 105, 110])), aU, aF, aI 0, some (.int .u8 (103)), some (.string (ByteArray.mk #[103, 97, 105, 110])), aI 4, aI 1, aT, aI 0, some (.string (ByteArray.mk #[103, 97, 105, 110])), aI 0, some (.int .u8 (103)), some (.int .u8 (103)), aT, aF, aF, aU, aU, aU, aU, aU, aU, aU, aU, aU, aU, aU, aF, aI 1, aU, aU, aU], [], []⟩)
    (fun L7 => [])
    fol (by kernel_rfl) (fun _ => by kernel_rfl) (fun L7 => trivial) (fun L7 => ?_)
  refine nrm_thn ?_
  refine aw_round ?_
  refine aw_sr [⟨.pure, [], none, true⟩]
    (fun L8 => ⟨[some (.string (ByteArray.mk #[103, 97, 105, 110])), aU, aF, aI 0, some (.int .u8 (103)), some (.string (ByteArray.mk #[103, 97, 105, 110])), aI 4, aI 1, aT, aI 0, some (.string (ByteArray.mk #[103, 97, 105, 110])), aI 0, some (.int .u8 (103)), some (.int .u8 (103)), aT, aF, aF, aU, aU, aU, aU, aU, aU, aU, aU, aU, aU, aU, aF, aI 1, aU, aU, aU], [], []⟩)
    (fun L8 => [])
    fol (by kernel_rfl) (fun _ => by kernel_rfl) (fun L8 => trivial) (fun L8 => ?_)
  refine aw_seq ?_
  refine aw_true (true) rfl rfl ?_
  refine aw_skip ?_
  refine nrm_thn ?_
  refine aw_seq ?_
  refine aw_block ?_
  refine aw_sr [⟨.pure, [], none, true⟩, ⟨.pure, [0], none, true⟩]
    (fun L9 => ⟨[some (.string (ByteArray.mk #[103, 97, 105, 110])), aU, aF, aI 1, some (.int .u8 (103)), some (.string (ByteArray.mk #[103, 97, 105, 110])), aI 4, aI 1, aT, aI 1, some (.string (ByteArray.mk #[103, 97, 105, 110])), aI 0, some (.int .u8 (103)), some (.int .u8 (103)), aT, aF, aF, aU, aU, aU, aU, aU, aU, aU, aU, aU, aU, aU, aF, aI 1, aU, aU, aU], [], []⟩)
    (fun L9 => [])
    fol (by kernel_rfl) (fun _ => by kernel_rfl) (fun L9 => trivial) (fun L9 => ?_)
  refine aw_sr [⟨.pure, [], none, true⟩, ⟨.pure, [], none, true⟩, ⟨.pure, [0, 1], none, true⟩, ⟨.pure, [0, 1, 2], none, true⟩]
    (fun L10 => ⟨[some (.string (ByteArray.mk #[103, 97, 105, 110])), aU, aF, aI 1, some (.int .u8 (97)), some (.string (ByteArray.mk #[103, 97, 105, 110])), aI 4, aI 1, aT, aI 1, some (.string (ByteArray.mk #[103, 97, 105, 110])), aI 1, some (.int .u8 (97)), some (.int .u8 (103)), aT, aF, aF, aU, aU, aU, aU, aU, aU, aU, aU, aU, aU, aU, aF, aI 1, aU, aU, aU], [], []⟩)
    (fun L10 => [])
    fol (by kernel_rfl) (fun _ => by kernel_rfl) (fun L10 => trivial) (fun L10 => ?_)
  refine aw_sr [⟨.pure, [], none, true⟩, ⟨(.call [] (.bool (true))), [0], none, true⟩, ⟨.pure, [0, 1], none, true⟩, ⟨.pure, [0, 1, 2], none, true⟩, ⟨.pure, [0, 1, 2, 3], none, false⟩, ⟨.pure, [0, 1, 2, 3, 4], none, false⟩, ⟨.pure, [0, 1, 2, 3, 4, 5], none, false⟩, ⟨.pure, [0, 1, 2, 3, 4, 5, 6], none, false⟩, ⟨.pure, [0, 1, 2, 3, 4, 5, 6, 7], none, false⟩, ⟨.pure, [0, 1, 2, 3, 4, 5, 6, 7, 8], none, false⟩, ⟨.pure, [0, 1, 2, 3, 4, 5, 6, 7, 8, 9], none, false⟩, ⟨.pure, [0, 1, 2, 3, 4, 5, 6, 7, 8, 9, 10], none, false⟩, ⟨.pure, [0, 1, 2, 3, 4, 5, 6, 7, 8, 9, 10, 11], none, false⟩, ⟨.pure, [0, 1, 2, 3, 4, 5, 6, 7, 8, 9, 10, 11, 12], none, false⟩, ⟨.pure, [0, 1, 2, 3, 4, 5, 6, 7, 8, 9, 10, 11, 12, 13], none, false⟩, ⟨.pure, [0, 1, 2, 3, 4, 5, 6, 7, 8, 9, 10, 11, 12, 13, 14], aF, true⟩]
    (fun L11 => ⟨[some (.string (ByteArray.mk #[103, 97, 105, 110])), aU, aF, aI 1, some (.int .u8 (97)), some (.string (ByteArray.mk #[103, 97, 105, 110])), aI 4, aI 1, aT, aI 1, some (.string (ByteArray.mk #[103, 97, 105, 110])), aI 1, some (.int .u8 (97)), some (.int .u8 (97)), aT, aF, aF, aU, aU, aU, aU, aU, aU, aU, aU, aU, aU, aU, aF, aI 1, aU, aU, aU], [], []⟩)
    (fun L11 => [CallOb Try.prog 151 #[.int .u8 (97)] [] (.bool (true)), (false) = false, (false) = false, (false) = false, (false) = false, (.bool (false) : Value) = .bool (false)])
    fol (by kernel_rfl) (fun _ => by kernel_rfl) (fun L11 => ⟨(callOb_frz (UA.i_101  )), rfl, rfl, rfl, rfl, rfl, trivial⟩) (fun L11 => ?_)
  refine aw_false (false) rfl rfl ?_
  refine aw_skip ?_
  refine nrm_inB ?_
  refine nrm_thn ?_
  refine aw_region [⟨.pure, [], none, true⟩, ⟨.pure, [0], none, true⟩]
    (fun L12 => ⟨[some (.string (ByteArray.mk #[103, 97, 105, 110])), aU, aF, aI 1, some (.int .u8 (97)), some (.string (ByteArray.mk #[103, 97, 105, 110])), aI 4, aI 2, aT, aI 1, some (.string (ByteArray.mk #[103, 97, 105, 110])), aI 1, some (.int .u8 (97)), some (.int .u8 (97)), aT, aF, aF, aU, aU, aU, aU, aU, aU, aU, aU, aU, aU, aU, aF, aI 2, aU, aU, aU], [], []⟩)
    (fun L12 => [])
    fol (by kernel_rfl) (fun _ => by kernel_rfl) (fun L12 => trivial) (fun L12 => ?_)
  refine nrm_thn ?_
  refine aw_round ?_
  refine aw_sr [⟨.pure, [], none, true⟩]
    (fun L13 => ⟨[some (.string (ByteArray.mk #[103, 97, 105, 110])), aU, aF, aI 1, some (.int .u8 (97)), some (.string (ByteArray.mk #[103, 97, 105, 110])), aI 4, aI 2, aT, aI 1, some (.string (ByteArray.mk #[103, 97, 105, 110])), aI 1, some (.int .u8 (97)), some (.int .u8 (97)), aT, aF, aF, aU, aU, aU, aU, aU, aU, aU, aU, aU, aU, aU, aF, aI 2, aU, aU, aU], [], []⟩)
    (fun L13 => [])
    fol (by kernel_rfl) (fun _ => by kernel_rfl) (fun L13 => trivial) (fun L13 => ?_)
  refine aw_seq ?_
  refine aw_true (true) rfl rfl ?_
  refine aw_skip ?_
  refine nrm_thn ?_
  refine aw_seq ?_
  refine aw_block ?_
  refine aw_sr [⟨.pure, [], none, true⟩, ⟨.pure, [0], none, true⟩]
    (fun L14 => ⟨[some (.string (ByteArray.mk #[103, 97, 105, 110])), aU, aF, aI 2, some (.int .u8 (97)), some (.string (ByteArray.mk #[103, 97, 105, 110])), aI 4, aI 2, aT, aI 2, some (.string (ByteArray.mk #[103, 97, 105, 110])), aI 1, some (.int .u8 (97)), some (.int .u8 (97)), aT, aF, aF, aU, aU, aU, aU, aU, aU, aU, aU, aU, aU, aU, aF, aI 2, aU, aU, aU], [], []⟩)
    (fun L14 => [])
    fol (by kernel_rfl) (fun _ => by kernel_rfl) (fun L14 => trivial) (fun L14 => ?_)
  refine aw_sr [⟨.pure, [], none, true⟩, ⟨.pure, [], none, true⟩, ⟨.pure, [0, 1], none, true⟩, ⟨.pure, [0, 1, 2], none, true⟩]
    (fun L15 => ⟨[some (.string (ByteArray.mk #[103, 97, 105, 110])), aU, aF, aI 2, some (.int .u8 (105)), some (.string (ByteArray.mk #[103, 97, 105, 110])), aI 4, aI 2, aT, aI 2, some (.string (ByteArray.mk #[103, 97, 105, 110])), aI 2, some (.int .u8 (105)), some (.int .u8 (97)), aT, aF, aF, aU, aU, aU, aU, aU, aU, aU, aU, aU, aU, aU, aF, aI 2, aU, aU, aU], [], []⟩)
    (fun L15 => [])
    fol (by kernel_rfl) (fun _ => by kernel_rfl) (fun L15 => trivial) (fun L15 => ?_)
  refine aw_sr [⟨.pure, [], none, true⟩, ⟨(.call [] (.bool (true))), [0], none, true⟩, ⟨.pure, [0, 1], none, true⟩, ⟨.pure, [0, 1, 2], none, true⟩, ⟨.pure, [0, 1, 2, 3], none, false⟩, ⟨.pure, [0, 1, 2, 3, 4], none, false⟩, ⟨.pure, [0, 1, 2, 3, 4, 5], none, false⟩, ⟨.pure, [0, 1, 2, 3, 4, 5, 6], none, false⟩, ⟨.pure, [0, 1, 2, 3, 4, 5, 6, 7], none, false⟩, ⟨.pure, [0, 1, 2, 3, 4, 5, 6, 7, 8], none, false⟩, ⟨.pure, [0, 1, 2, 3, 4, 5, 6, 7, 8, 9], none, false⟩, ⟨.pure, [0, 1, 2, 3, 4, 5, 6, 7, 8, 9, 10], none, false⟩, ⟨.pure, [0, 1, 2, 3, 4, 5, 6, 7, 8, 9, 10, 11], none, false⟩, ⟨.pure, [0, 1, 2, 3, 4, 5, 6, 7, 8, 9, 10, 11, 12], none, false⟩, ⟨.pure, [0, 1, 2, 3, 4, 5, 6, 7, 8, 9, 10, 11, 12, 13], none, false⟩, ⟨.pure, [0, 1, 2, 3, 4, 5, 6, 7, 8, 9, 10, 11, 12, 13, 14], aF, true⟩]
    (fun L16 => ⟨[some (.string (ByteArray.mk #[103, 97, 105, 110])), aU, aF, aI 2, some (.int .u8 (105)), some (.string (ByteArray.mk #[103, 97, 105, 110])), aI 4, aI 2, aT, aI 2, some (.string (ByteArray.mk #[103, 97, 105, 110])), aI 2, some (.int .u8 (105)), some (.int .u8 (105)), aT, aF, aF, aU, aU, aU, aU, aU, aU, aU, aU, aU, aU, aU, aF, aI 2, aU, aU, aU], [], []⟩)
    (fun L16 => [CallOb Try.prog 151 #[.int .u8 (105)] [] (.bool (true)), (false) = false, (false) = false, (false) = false, (false) = false, (.bool (false) : Value) = .bool (false)])
    fol (by kernel_rfl) (fun _ => by kernel_rfl) (fun L16 => ⟨(callOb_frz (UA.i_102  )), rfl, rfl, rfl, rfl, rfl, trivial⟩) (fun L16 => ?_)
  refine aw_false (false) rfl rfl ?_
  refine aw_skip ?_
  refine nrm_inB ?_
  refine nrm_thn ?_
  refine aw_region [⟨.pure, [], none, true⟩, ⟨.pure, [0], none, true⟩]
    (fun L17 => ⟨[some (.string (ByteArray.mk #[103, 97, 105, 110])), aU, aF, aI 2, some (.int .u8 (105)), some (.string (ByteArray.mk #[103, 97, 105, 110])), aI 4, aI 3, aT, aI 2, some (.string (ByteArray.mk #[103, 97, 105, 110])), aI 2, some (.int .u8 (105)), some (.int .u8 (105)), aT, aF, aF, aU, aU, aU, aU, aU, aU, aU, aU, aU, aU, aU, aF, aI 3, aU, aU, aU], [], []⟩)
    (fun L17 => [])
    fol (by kernel_rfl) (fun _ => by kernel_rfl) (fun L17 => trivial) (fun L17 => ?_)
  refine nrm_thn ?_
  refine aw_round ?_
  refine aw_sr [⟨.pure, [], none, true⟩]
    (fun L18 => ⟨[some (.string (ByteArray.mk #[103, 97, 105, 110])), aU, aF, aI 2, some (.int .u8 (105)), some (.string (ByteArray.mk #[103, 97, 105, 110])), aI 4, aI 3, aT, aI 2, some (.string (ByteArray.mk #[103, 97, 105, 110])), aI 2, some (.int .u8 (105)), some (.int .u8 (105)), aT, aF, aF, aU, aU, aU, aU, aU, aU, aU, aU, aU, aU, aU, aF, aI 3, aU, aU, aU], [], []⟩)
    (fun L18 => [])
    fol (by kernel_rfl) (fun _ => by kernel_rfl) (fun L18 => trivial) (fun L18 => ?_)
  refine aw_seq ?_
  refine aw_true (true) rfl rfl ?_
  refine aw_skip ?_
  refine nrm_thn ?_
  refine aw_seq ?_
  refine aw_block ?_
  refine aw_sr [⟨.pure, [], none, true⟩, ⟨.pure, [0], none, true⟩]
    (fun L19 => ⟨[some (.string (ByteArray.mk #[103, 97, 105, 110])), aU, aF, aI 3, some (.int .u8 (105)), some (.string (ByteArray.mk #[103, 97, 105, 110])), aI 4, aI 3, aT, aI 3, some (.string (ByteArray.mk #[103, 97, 105, 110])), aI 2, some (.int .u8 (105)), some (.int .u8 (105)), aT, aF, aF, aU, aU, aU, aU, aU, aU, aU, aU, aU, aU, aU, aF, aI 3, aU, aU, aU], [], []⟩)
    (fun L19 => [])
    fol (by kernel_rfl) (fun _ => by kernel_rfl) (fun L19 => trivial) (fun L19 => ?_)
  refine aw_sr [⟨.pure, [], none, true⟩, ⟨.pure, [], none, true⟩, ⟨.pure, [0, 1], none, true⟩, ⟨.pure, [0, 1, 2], none, true⟩]
    (fun L20 => ⟨[some (.string (ByteArray.mk #[103, 97, 105, 110])), aU, aF, aI 3, some (.int .u8 (110)), some (.string (ByteArray.mk #[103, 97, 105, 110])), aI 4, aI 3, aT, aI 3, some (.string (ByteArray.mk #[103, 97, 105, 110])), aI 3, some (.int .u8 (110)), some (.int .u8 (105)), aT, aF, aF, aU, aU, aU, aU, aU, aU, aU, aU, aU, aU, aU, aF, aI 3, aU, aU, aU], [], []⟩)
    (fun L20 => [])
    fol (by kernel_rfl) (fun _ => by kernel_rfl) (fun L20 => trivial) (fun L20 => ?_)
  refine aw_sr [⟨.pure, [], none, true⟩, ⟨(.call [] (.bool (true))), [0], none, true⟩, ⟨.pure, [0, 1], none, true⟩, ⟨.pure, [0, 1, 2], none, true⟩, ⟨.pure, [0, 1, 2, 3], none, false⟩, ⟨.pure, [0, 1, 2, 3, 4], none, false⟩, ⟨.pure, [0, 1, 2, 3, 4, 5], none, false⟩, ⟨.pure, [0, 1, 2, 3, 4, 5, 6], none, false⟩, ⟨.pure, [0, 1, 2, 3, 4, 5, 6, 7], none, false⟩, ⟨.pure, [0, 1, 2, 3, 4, 5, 6, 7, 8], none, false⟩, ⟨.pure, [0, 1, 2, 3, 4, 5, 6, 7, 8, 9], none, false⟩, ⟨.pure, [0, 1, 2, 3, 4, 5, 6, 7, 8, 9, 10], none, false⟩, ⟨.pure, [0, 1, 2, 3, 4, 5, 6, 7, 8, 9, 10, 11], none, false⟩, ⟨.pure, [0, 1, 2, 3, 4, 5, 6, 7, 8, 9, 10, 11, 12], none, false⟩, ⟨.pure, [0, 1, 2, 3, 4, 5, 6, 7, 8, 9, 10, 11, 12, 13], none, false⟩, ⟨.pure, [0, 1, 2, 3, 4, 5, 6, 7, 8, 9, 10, 11, 12, 13, 14], aF, true⟩]
    (fun L21 => ⟨[some (.string (ByteArray.mk #[103, 97, 105, 110])), aU, aF, aI 3, some (.int .u8 (110)), some (.string (ByteArray.mk #[103, 97, 105, 110])), aI 4, aI 3, aT, aI 3, some (.string (ByteArray.mk #[103, 97, 105, 110])), aI 3, some (.int .u8 (110)), some (.int .u8 (110)), aT, aF, aF, aU, aU, aU, aU, aU, aU, aU, aU, aU, aU, aU, aF, aI 3, aU, aU, aU], [], []⟩)
    (fun L21 => [CallOb Try.prog 151 #[.int .u8 (110)] [] (.bool (true)), (false) = false, (false) = false, (false) = false, (false) = false, (.bool (false) : Value) = .bool (false)])
    fol (by kernel_rfl) (fun _ => by kernel_rfl) (fun L21 => ⟨(callOb_frz (UA.i_103  )), rfl, rfl, rfl, rfl, rfl, trivial⟩) (fun L21 => ?_)
  refine aw_false (false) rfl rfl ?_
  refine aw_skip ?_
  refine nrm_inB ?_
  refine nrm_thn ?_
  refine aw_region [⟨.pure, [], none, true⟩, ⟨.pure, [0], none, true⟩]
    (fun L22 => ⟨[some (.string (ByteArray.mk #[103, 97, 105, 110])), aU, aF, aI 3, some (.int .u8 (110)), some (.string (ByteArray.mk #[103, 97, 105, 110])), aI 4, aI 4, aT, aI 3, some (.string (ByteArray.mk #[103, 97, 105, 110])), aI 3, some (.int .u8 (110)), some (.int .u8 (110)), aT, aF, aF, aU, aU, aU, aU, aU, aU, aU, aU, aU, aU, aU, aF, aI 4, aU, aU, aU], [], []⟩)
    (fun L22 => [])
    fol (by kernel_rfl) (fun _ => by kernel_rfl) (fun L22 => trivial) (fun L22 => ?_)
  refine nrm_thn ?_
  refine aw_round ?_
  refine aw_sr [⟨.pure, [], none, true⟩]
    (fun L23 => ⟨[some (.string (ByteArray.mk #[103, 97, 105, 110])), aU, aF, aI 3, some (.int .u8 (110)), some (.string (ByteArray.mk #[103, 97, 105, 110])), aI 4, aI 4, aF, aI 3, some (.string (ByteArray.mk #[103, 97, 105, 110])), aI 3, some (.int .u8 (110)), some (.int .u8 (110)), aT, aF, aF, aU, aU, aU, aU, aU, aU, aU, aU, aU, aU, aU, aF, aI 4, aU, aU, aU], [], []⟩)
    (fun L23 => [])
    fol (by kernel_rfl) (fun _ => by kernel_rfl) (fun L23 => trivial) (fun L23 => ?_)
  refine aw_seq ?_
  refine aw_false (false) rfl rfl ?_
  refine aw_exit ?_
  refine ex_thn ?_
  refine ex_thn ?_
  refine ex_hit ?_
  refine nrm_thn ?_
  refine aw_sr [⟨.pure, [], none, true⟩, ⟨.pure, [0], none, true⟩, ⟨(.call [] (.bool (true))), [0, 1], none, true⟩, ⟨.pure, [0, 1, 2], none, true⟩]
    (fun L24 => ⟨[some (.string (ByteArray.mk #[103, 97, 105, 110])), aU, aT, aI 3, some (.int .u8 (110)), some (.string (ByteArray.mk #[103, 97, 105, 110])), aI 4, aI 4, aF, aI 3, some (.string (ByteArray.mk #[103, 97, 105, 110])), aI 3, some (.int .u8 (110)), some (.int .u8 (110)), aT, aF, aF, aU, aU, aU, aU, aU, aU, aU, aU, aU, aU, aU, aF, aI 4, some (.string (ByteArray.mk #[103, 97, 105, 110])), aI 4, aT], [], []⟩)
    (fun L24 => [CallOb Try.prog 127 #[aN 4, aN 1, aN 12] [] (.bool (true))])
    fol (by kernel_rfl) (fun _ => by kernel_rfl) (fun L24 => ⟨(callOb_frz (UA.i_104  )), trivial⟩) (fun L24 => ?_)
  refine aw_ret ?_
  exact fin_ret none [0] (.bool (true)) [] (.inr rfl) rfl (by kernel_rfl) trivial (fun w' hb => ⟨rfl, hb⟩)

-- couplant/base.NameError
set_option maxRecDepth 100000 in
set_option maxHeartbeats 400000 in
theorem UA.i_106 : CallOb Try.prog 116 #[.string (ByteArray.mk #[103, 97, 105, 110])] [] (aN 0) := by
  intro w hw
  refine calls_aw [some (.string (ByteArray.mk #[103, 97, 105, 110])), aU, aU, aU, aU, aU] [] Try.func116 rfl (by kernel_rfl) (fun e x h => by cases h) ?_
  refine aw_sr [⟨.pure, [], none, true⟩]
    (fun L1 => ⟨[some (.string (ByteArray.mk #[103, 97, 105, 110])), aU, aI 0, aU, aU, aU], [], []⟩)
    (fun L1 => [])
    fol (by kernel_rfl) (fun _ => by kernel_rfl) (fun L1 => trivial) (fun L1 => ?_)
  refine aw_sr [⟨.pure, [], none, true⟩, ⟨(.call [] (.bool (true))), [0], none, true⟩, ⟨(.call [] (aN 0)), [0, 1], none, true⟩, ⟨.pure, [0, 1, 2], none, true⟩]
    (fun L2 => ⟨[some (.string (ByteArray.mk #[103, 97, 105, 110])), aU, aI 0, some (.string (ByteArray.mk #[103, 97, 105, 110])), aT, aI 0], [], []⟩)
    (fun L2 => [CallOb Try.prog 139 #[.string (ByteArray.mk #[103, 97, 105, 110])] [] (.bool (true)), CallOb Try.prog 81 #[.bool (true), aN 4] [] (aN 0)])
    fol (by kernel_rfl) (fun _ => by kernel_rfl) (fun L2 => ⟨(callOb_frz (UA.i_105  )), (callOb_frz (UA.i_87  )), trivial⟩) (fun L2 => ?_)
  refine aw_ret ?_
  exact fin_ret none [0] (aN 0) [] (.inr rfl) rfl (by kernel_rfl) trivial (fun w' hb => ⟨rfl, hb⟩)

-- couplant/tune.nameOf
set_option maxRecDepth 100000 in
set_option maxHeartbeats 400000 in
theorem UA.i_107 : CallOb Try.prog 118 #[.agg #[.string (ByteArray.mk #[119, 101, 100, 103, 101]), aN 100, aN 50, .slice none 0 0]] [] (.string (ByteArray.mk #[119, 101, 100, 103, 101])) := by
  intro w hw
  refine calls_aw [some (.agg #[.string (ByteArray.mk #[119, 101, 100, 103, 101]), aN 100, aN 50, .slice none 0 0]), aU, aU, aU, aU] [] Try.func118 rfl (by kernel_rfl) (fun e x h => by cases h) ?_
  refine aw_sr [⟨.new, [], none, true⟩, ⟨.pure, [], none, true⟩]
    (fun L1 => ⟨[some (.agg #[.string (ByteArray.mk #[119, 101, 100, 103, 101]), aN 100, aN 50, .slice none 0 0]), aP (L1 0).b 0, some (.string (ByteArray.empty)), aU, aU], [.blk ((L1 0).b) [.string (ByteArray.mk #[119, 101, 100, 103, 101]), aN 100, aN 50, .slice none 0 0] 105 true], []⟩)
    (fun L1 => [])
    fol (by kernel_rfl) (fun _ => by kernel_rfl) (fun L1 => trivial) (fun L1 => ?_)
  refine aw_sr [⟨.pure, [], none, true⟩, ⟨(.read 0), [0], none, true⟩, ⟨.pure, [0, 1], none, true⟩]
    (fun L2 => ⟨[some (.agg #[.string (ByteArray.mk #[119, 101, 100, 103, 101]), aN 100, aN 50, .slice none 0 0]), aP (L1 0).b 0, some (.string (ByteArray.mk #[119, 101, 100, 103, 101])), aP (L1 0).b 0, some (.string (ByteArray.mk #[119, 101, 100, 103, 101]))], [.blk ((L1 0).b) [.string (ByteArray.mk #[119, 101, 100, 103, 101]), aN 100, aN 50, .slice none 0 0] 105 true], []⟩)
    (fun L2 => [(L1 0).b = (L1 0).b])
    fol (by kernel_rfl) (fun _ => by kernel_rfl) (fun L2 => ⟨rfl, trivial⟩) (fun L2 => ?_)
  refine aw_ret ?_
  exact fin_ret none [0] (.string (ByteArray.mk #[119, 101, 100, 103, 101])) [] (.inr rfl) rfl (by kernel_rfl) trivial (fun w' hb => ⟨rfl, hb⟩)

-- couplant/tune.nameOf
set_option maxRecDepth 100000 in
set_option maxHeartbeats 400000 in
theorem UA.i_108 (b1 : Nat) : CallOb Try.prog 118 #[.agg #[.string (ByteArray.mk #[103, 97, 105, 110]), aN 50, aN 50, .slice (some ⟨b1, 0, none⟩) (1) (1)]] [.blk (b1) [aN 0] 3 false] (.string (ByteArray.mk #[103, 97, 105, 110])) := by
  intro w hw
  refine calls_aw [some (.agg #[.string (ByteArray.mk #[103, 97, 105, 110]), aN 50, aN 50, .slice (some ⟨b1, 0, none⟩) (1) (1)]), aU, aU, aU, aU] [.blk (b1) [aN 0] 3 false] Try.func118 rfl (by kernel_rfl) (esOk hw (by simp [Cel.mine])) ?_
  refine aw_sr [⟨.new, [], none, true⟩, ⟨.pure, [], none, true⟩]
    (fun L1 => ⟨[some (.agg #[.string (ByteArray.mk #[103, 97, 105, 110]), aN 50, aN 50, .slice (some ⟨b1, 0, none⟩) (1) (1)]), aP (L1 0).b 0, some (.string (ByteArray.empty)), aU, aU], [.blk (b1) [aN 0] 3 false, .blk ((L1 0).b) [.string (ByteArray.mk #[103, 97, 105, 110]), aN 50, aN 50, .slice (some ⟨b1, 0, none⟩) (1) (1)] 105 true], []⟩)
    (fun L1 => [])
    fol (by kernel_rfl) (fun _ => by kernel_rfl) (fun L1 => trivial) (fun L1 => ?_)
  refine aw_sr [⟨.pure, [], none, true⟩, ⟨(.read 1), [0], none, true⟩, ⟨.pure, [0, 1], none, true⟩]
    (fun L2 => ⟨[some (.agg #[.string (ByteArray.mk #[103, 97, 105, 110]), aN 50, aN 50, .slice (some ⟨b1, 0, none⟩) (1) (1)]), aP (L1 0).b 0, some (.string (ByteArray.mk #[103, 97, 105, 110])), aP (L1 0).b 0, some (.string (ByteArray.mk #[103, 97, 105, 110]))], [.blk (b1) [aN 0] 3 false, .blk ((L1 0).b) [.string (ByteArray.mk #[103, 97, 105, 110]), aN 50, aN 50, .slice (some ⟨b1, 0, none⟩) (1) (1)] 105 true], []⟩)
    (fun L2 => [(L1 0).b = (L1 0).b])
    fol (by kernel_rfl) (fun _ => by kernel_rfl) (fun L2 => ⟨rfl, trivial⟩) (fun L2 => ?_)
  refine aw_ret ?_
  exact fin_ret none [0] (.string (ByteArray.mk #[103, 97, 105, 110])) [] (.inr rfl) rfl (by kernel_rfl) trivial (fun w' hb => ⟨rfl, hb⟩)

-- couplant/base.ExistsError[couplant/api.TuneStep]$1
set_option maxRecDepth 100000 in
set_option maxHeartbeats 400000 in
theorem UA.i_109 (b1 b2 b3 b4 b5 : Nat) : CallOb Try.prog 140 #[.agg #[.string (ByteArray.mk #[119, 101, 100, 103, 101]), aN 100, aN 50, .slice none 0 0], .pointer (some ⟨b1, 0, none⟩), .pointer (some ⟨b2, 0, none⟩), .pointer (some ⟨b5, 0, none⟩)] [.blk (b1) [.func (.func 118) #[] #[]] 154 false, .blk (b2) [.slice (some ⟨b3, 0, none⟩) (2) (2)] 87 false, .blk (b3) [.string (ByteArray.mk #[119, 101, 100, 103, 101]), aN 100, aN 50, .slice none 0 0, .string (ByteArray.mk #[103, 97, 105, 110]), aN 50, aN 50, .slice (some ⟨b4, 0, none⟩) (1) (1)] 105 false, .blk (b4) [aN 0] 3 false, .blk (b5) [aN 1] 3 false] (.bool (false)) := by
  intro w hw
  refine calls_aw [some (.agg #[.string (ByteArray.mk #[119, 101, 100, 103, 101]), aN 100, aN 50, .slice none 0 0]), aP b1 0, aP b2 0, aP b5 0, aU, aU, aU, aU, aU, aU, aU, aU, aU, aU, aU, aU] [.blk (b1) [.func (.func 118) #[] #[]] 154 false, .blk (b2) [.slice (some ⟨b3, 0, none⟩) (2) (2)] 87 false, .blk (b3) [.string (ByteArray.mk #[119, 101, 100, 103, 101]), aN 100, aN 50, .slice none 0 0, .string (ByteArray.mk #[103, 97, 105, 110]), aN 50, aN 50, .slice (some ⟨b4, 0, none⟩) (1) (1)] 105 false, .blk (b4) [aN 0] 3 false, .blk (b5) [aN 1] 3 false] Try.func140 rfl (by kernel_rfl) (esOk hw (by simp [Cel.mine])) ?_
  refine aw_sr [⟨.new, [], none, true⟩, ⟨.pure, [], none, true⟩]
    (fun L1 => ⟨[some (.agg #[.string (ByteArray.mk #[119, 101, 100, 103, 101]), aN 100, aN 50, .slice none 0 0]), aP b1 0, aP b2 0, aP b5 0, aP (L1 0).b 0, aF, aU, aU, aU, aU, aU, aU, aU, aU, aU, aU], [.blk (b1) [.func (.func 118) #[] #[]] 154 false, .blk (b2) [.slice (some ⟨b3, 0, none⟩) (2) (2)] 87 false, .blk (b3) [.string (ByteArray.mk #[119, 101, 100, 103, 101]), aN 100, aN 50, .slice none 0 0, .string (ByteArray.mk #[103, 97, 105, 110]), aN 50, aN 50, .slice (some ⟨b4, 0, none⟩) (1) (1)] 105 false, .blk (b4) [aN 0] 3 false, .blk (b5) [aN 1] 3 false, .blk ((L1 0).b) [.string (ByteArray.mk #[119, 101, 100, 103, 101]), aN 100, aN 50, .slice none 0 0] 105 true], []⟩)
    (fun L1 => [])
    fol (by kernel_rfl) (fun _ => by kernel_rfl) (fun L1 => trivial) (fun L1 => ?_)
  refine aw_sr [⟨(.read 0), [], none, true⟩, ⟨(.read 5), [], none, true⟩, ⟨(.call [] (.string (ByteArray.mk #[119, 101, 100, 103, 101]))), [0, 1], none, true⟩, ⟨(.read 0), [], none, true⟩, ⟨(.read 1), [], none, true⟩, ⟨(.read 4), [], none, true⟩, ⟨.pure, [4, 5], none, true⟩, ⟨(.read 2), [4, 5, 6], none, true⟩, ⟨(.call [3] (.string (ByteArray.mk #[103, 97, 105, 110]))), [0, 1, 2, 3, 4, 5, 6, 7], none, true⟩, ⟨.pure, [0, 1, 2, 3, 4, 5, 6, 7, 8], none, true⟩, ⟨.pure, [0, 1, 2, 3, 4, 5, 6, 7, 8, 9], none, true⟩]
    (fun L2 => ⟨[some (.agg #[.string (ByteArray.mk #[119, 101, 100, 103, 101]), aN 100, aN 50, .slice none 0 0]), aP b1 0, aP b2 0, aP b5 0, aP (L1 0).b 0, aF, some (.func (.func 118) #[] #[]), some (.agg #[.string (ByteArray.mk #[119, 101, 100, 103, 101]), aN 100, aN 50, .slice none 0 0]), some (.string (ByteArray.mk #[119, 101, 100, 103, 101])), some (.func (.func 118) #[] #[]), aS b3 0 2 2, aI 1, aP b3 4, some (.agg #[.string (ByteArray.mk #[103, 97, 105, 110]), aN 50, aN 50, .slice (some ⟨b4, 0, none⟩) (1) (1)]), some (.string (ByteArray.mk #[103, 97, 105, 110])), aF], [.blk (b1) [.func (.func 118) #[] #[]] 154 false, .blk (b2) [.slice (some ⟨b3, 0, none⟩) (2) (2)] 87 false, .blk (b3) [.string (ByteArray.mk #[119, 101, 100, 103, 101]), aN 100, aN 50, .slice none 0 0, .string (ByteArray.mk #[103, 97, 105, 110]), aN 50, aN 50, .slice (some ⟨b4, 0, none⟩) (1) (1)] 105 false, .blk (b4) [aN 0] 3 false, .blk (b5) [aN 1] 3 false, .blk ((L1 0).b) [.string (ByteArray.mk #[119, 101, 100, 103, 101]), aN 100, aN 50, .slice none 0 0] 105 true], []⟩)
    (fun L2 => [b1 = b1, (L1 0).b = (L1 0).b, 0 + 4 ≤ 4, CallOb Try.prog 118 #[.agg #[.string (ByteArray.mk #[119, 101, 100, 103, 101]), aN 100, aN 50, .slice none 0 0]] [] (.string (ByteArray.mk #[119, 101, 100, 103, 101])), b1 = b1, b2 = b2, b5 = b5, b3 = b3, 4 + 4 ≤ 8, CallOb Try.prog 118 #[.agg #[.string (ByteArray.mk #[103, 97, 105, 110]), aN 50, aN 50, .slice (some ⟨b4, 0, none⟩) (1) (1)]] [.blk (b4) [aN 0] 3 false] (.string (ByteArray.mk #[103, 97, 105, 110]))])
    fol (by kernel_rfl) (fun _ => by kernel_rfl) (fun L2 => ⟨rfl, rfl, (by decide), (callOb_frz (UA.i_107  )), rfl, rfl, rfl, rfl, (by decide), (callOb_frz (UA.i_108 (b4) )), trivial⟩) (fun L2 => ?_)
  refine aw_ret ?_
  exact fin_ret none [0] (.bool (false)) [] (.inr rfl) rfl (by kernel_rfl) trivial (fun w' hb => ⟨rfl, hb⟩)

-- slices.IndexFunc[[]couplant/api.TuneStep,couplant/api.TuneStep]
set_option maxRecDepth 100000 in
set_option maxHeartbeats 400000 in
theorem UA.i_110 (b1 b2 b3 b4 b5 : Nat) : CallOb Try.prog 153 #[.slice (some ⟨b1, 0, none⟩) (1) (2), .func (.func 140) #[] #[.pointer (some ⟨b3, 0, none⟩), .pointer (some ⟨b4, 0, none⟩), .pointer (some ⟨b5, 0, none⟩)]] [.blk (b1) [.string (ByteArray.mk #[119, 101, 100, 103, 101]), aN 100, aN 50, .slice none 0 0, .string (ByteArray.mk #[103, 97, 105, 110]), aN 50, aN 50, .slice (some ⟨b2, 0, none⟩) (1) (1)] 105 false, .blk (b2) [aN 0] 3 false, .blk (b3) [.func (.func 118) #[] #[]] 154 false, .blk (b4) [.slice (some ⟨b1, 0, none⟩) (2) (2)] 87 false, .blk (b5) [aN 1] 3 false] (aN (-1)) := by
  intro w hw
  refine calls_aw [aS b1 0 1 2, some (.func (.func 140) #[] #[.pointer (some ⟨b3, 0, none⟩), .pointer (some ⟨b4, 0, none⟩), .pointer (some ⟨b5, 0, none⟩)]), aU, aU, aU, aU, aU, aU, aU, aU, aU, aU, aU, aU, aU, aU, aU, aU, aU] [.blk (b1) [.string (ByteArray.mk #[119, 101, 100, 103, 101]), aN 100, aN 50, .slice none 0 0, .string (ByteArray.mk #[103, 97, 105, 110]), aN 50, aN 50, .slice (some ⟨b2, 0, none⟩) (1) (1)] 105 false, .blk (b2) [aN 0] 3 false, .blk (b3) [.func (.func 118) #[] #[]] 154 false, .blk (b4) [.slice (some ⟨b1, 0, none⟩) (2) (2)] 87 false, .blk (b5) [aN 1] 3 false] Try.func153 rfl (by kernel_rfl) (esOk hw (by simp [Cel.mine])) ?_
  refine aw_sr [⟨.pure, [], none, true⟩]
    (fun L1 => ⟨[aS b1 0 1 2, some (.func (.func 140) #[] #[.pointer (some ⟨b3, 0, none⟩), .pointer (some ⟨b4, 0, none⟩), .pointer (some ⟨b5, 0, none⟩)]), aU, aU, aI 0, aU, aU, aU, aU, aU, aU, aU, aU, aU, aU, aU, aU, aU, aU], [.blk (b1) [.string (ByteArray.mk #[119, 101, 100, 103, 101]), aN 100, aN 50, .slice none 0 0, .string (ByteArray.mk #[103, 97, 105, 110]), aN 50, aN 50, .slice (some ⟨b2, 0, none⟩) (1) (1)] 105 false, .blk (b2) [aN 0] 3 false, .blk (b3) [.func (.func 118) #[] #[]] 154 false, .blk (b4) [.slice (some ⟨b1, 0, none⟩) (2) (2)] 87 false, .blk (b5) [aN 1] 3 false], []⟩)
    (fun L1 => [])
    fol (by kernel_rfl) (fun _ => by kernel_rfl) (fun L1 => trivial) (fun L1 => ?_)
  refine aw_seq ?_
  refine aw_sr [⟨.pure, [], none, true⟩, ⟨.pure, [0], none, true⟩, ⟨.pure, [], none, true⟩]
    (fun L2 => ⟨[aS b1 0 1 2, some (.func (.func 140) #[] #[.pointer (some ⟨b3, 0, none⟩), .pointer (some ⟨b4, 0, none⟩), .pointer (some ⟨b5, 0, none⟩)]), aU, aU, aI 0, aU, aS b1 0 1 2, aI 1, aI 0, aU, aU, aU, aU, aU, aU, aU, aU, aU, aU], [.blk (b1) [.string (ByteArray.mk #[119, 101, 100, 103, 101]), aN 100, aN 50, .slice none 0 0, .string (ByteArray.mk #[103, 97, 105, 110]), aN 50, aN 50, .slice (some ⟨b2, 0, none⟩) (1) (1)] 105 false, .blk (b2) [aN 0] 3 false, .blk (b3) [.func (.func 118) #[] #[]] 154 false, .blk (b4) [.slice (some ⟨b1, 0, none⟩) (2) (2)] 87 false, .blk (b5) [aN 1] 3 false], []⟩)
    (fun L2 => [])
    fol (by kernel_rfl) (fun _ => by kernel_rfl) (fun L2 => trivial) (fun L2 => ?_)
  refine aw_block ?_
  refine aw_rounds 2 ?_
  refine aw_round ?_
  refine aw_sr [⟨.pure, [], none, true⟩]
    (fun L3 => ⟨[aS b1 0 1 2, some (.func (.func 140) #[] #[.pointer (some ⟨b3, 0, none⟩), .pointer (some ⟨b4, 0, none⟩), .pointer (some ⟨b5, 0, none⟩)]), aU, aU, aI 0, aU, aS b1 0 1 2, aI 1, aI 0, aT, aU, aU, aU, aU, aU, aU, aU, aU, aU], [.blk (b1) [.string (ByteArray.mk #[119, 101, 100, 103, 101]), aN 100, aN 50, .slice none 0 0, .string (ByteArray.mk #[103, 97, 105, 110]), aN 50, aN 50, .slice (some ⟨b2, 0, none⟩) (1) (1)] 105 false, .blk (b2) [aN 0] 3 false, .blk (b3) [.func (.func 118) #[] #[]] 154 false, .blk (b4) [.slice (some ⟨b1, 0, none⟩) (2) (2)] 87 false, .blk (b5) [aN 1] 3 false], []⟩)
    (fun L3 => [])
    fol (by kernel_rfl) (fun _ => by kernel_rfl) (fun L3 => trivial) (fun L3 => ?_)
  refine aw_seq ?_
  refine aw_true (true) rfl rfl ?_
  refine aw_skip ?_
  refine nrm_thn ?_
  refine aw_seq ?_
  refine aw_block ?_
  refine aw_sr [⟨.pure, [], none, true⟩, ⟨.pure, [0], none, true⟩]
    (fun L4 => ⟨[aS b1 0 1 2, some (.func (.func 140) #[] #[.pointer (some ⟨b3, 0, none⟩), .pointer (some ⟨b4, 0, none⟩), .pointer (some ⟨b5, 0, none⟩)]), aU, aU, aI 0, aI 0, aS b1 0 1 2, aI 1, aI 0, aT, aI 0, aU, aU, aU, aU, aU, aU, aU, aU], [.blk (b1) [.string (ByteArray.mk #[119, 101, 100, 103, 101]), aN 100, aN 50, .slice none 0 0, .string (ByteArray.mk #[103, 97, 105, 110]), aN 50, aN 50, .slice (some ⟨b2, 0, none⟩) (1) (1)] 105 false, .blk (b2) [aN 0] 3 false, .blk (b3) [.func (.func 118) #[] #[]] 154 false, .blk (b4) [.slice (some ⟨b1, 0, none⟩) (2) (2)] 87 false, .blk (b5) [aN 1] 3 false], []⟩)
    (fun L4 => [])
    fol (by kernel_rfl) (fun _ => by kernel_rfl) (fun L4 => trivial) (fun L4 => ?_)
  refine aw_sr [⟨.pure, [], none, true⟩, ⟨.pure, [], none, true⟩, ⟨.pure, [], none, true⟩, ⟨.pure, [1, 2], none, true⟩, ⟨(.read 0), [1, 2, 3], none, true⟩, ⟨(.call [2, 3, 0, 1, 4] (.bool (false))), [0, 1, 2, 3, 4], none, true⟩]
    (fun L5 => ⟨[aS b1 0 1 2, some (.func (.func 140) #[] #[.pointer (some ⟨b3, 0, none⟩), .pointer (some ⟨b4, 0, none⟩), .pointer (some ⟨b5, 0, none⟩)]), aU, aU, aI 0, aI 0, aS b1 0 1 2, aI 1, aI 0, aT, aI 0, some (.func (.func 140) #[] #[.pointer (some ⟨b3, 0, none⟩), .pointer (some ⟨b4, 0, none⟩), .pointer (some ⟨b5, 0, none⟩)]), aS b1 0 1 2, aI 0, aP b1 0, some (.agg #[.string (ByteArray.mk #[119, 101, 100, 103, 101]), aN 100, aN 50, .slice none 0 0]), aF, aU, aU], [.blk (b1) [.string (ByteArray.mk #[119, 101, 100, 103, 101]), aN 100, aN 50, .slice none 0 0, .string (ByteArray.mk #[103, 97, 105, 110]), aN 50, aN 50, .slice (some ⟨b2, 0, none⟩) (1) (1)] 105 false, .blk (b2) [aN 0] 3 false, .blk (b3) [.func (.func 118) #[] #[]] 154 false, .blk (b4) [.slice (some ⟨b1, 0, none⟩) (2) (2)] 87 false, .blk (b5) [aN 1] 3 false], []⟩)
    (fun L5 => [b1 = b1, 0 + 4 ≤ 8, CallOb Try.prog 140 #[.agg #[.string (ByteArray.mk #[119, 101, 100, 103, 101]), aN 100, aN 50, .slice none 0 0], .pointer (some ⟨b3, 0, none⟩), .pointer (some ⟨b4, 0, none⟩), .pointer (some ⟨b5, 0, none⟩)] [.blk (b3) [.func (.func 118) #[] #[]] 154 false, .blk (b4) [.slice (some ⟨b1, 0, none⟩) (2) (2)] 87 false, .blk (b1) [.string (ByteArray.mk #[119, 101, 100, 103, 101]), aN 100, aN 50, .slice none 0 0, .string (ByteArray.mk #[103, 97, 105, 110]), aN 50, aN 50, .slice (some ⟨b2, 0, none⟩) (1) (1)] 105 false, .blk (b2) [aN 0] 3 false, .blk (b5) [aN 1] 3 false] (.bool (false))])
    fol (by kernel_rfl) (fun _ => by kernel_rfl) (fun L5 => ⟨rfl, (by decide), (callOb_frz (UA.i_109 (b3) (b4) (b1) (b2) (b5) )), trivial⟩) (fun L5 => ?_)
  refine aw_false (false) rfl rfl ?_
  refine aw_skip ?_
  refine nrm_inB ?_
  refine nrm_thn ?_
  refine aw_region [⟨.pure, [], none, true⟩, ⟨.pure, [0], none, true⟩]
    (fun L6 => ⟨[aS b1 0 1 2, some (.func (.func 140) #[] #[.pointer (some ⟨b3, 0, none⟩), .pointer (some ⟨b4, 0, none⟩), .pointer (some ⟨b5, 0, none⟩)]), aU, aU, aI 0, aI 0, aS b1 0 1 2, aI 1, aI 1, aT, aI 0, some (.func (.func 140) #[] #[.pointer (some ⟨b3, 0, none⟩), .pointer (some ⟨b4, 0, none⟩), .pointer (some ⟨b5, 0, none⟩)]), aS b1 0 1 2, aI 0, aP b1 0, some (.agg #[.string (ByteArray.mk #[119, 101, 100, 103, 101]), aN 100, aN 50, .slice none 0 0]), aF, aU, aI 1], [.blk (b1) [.string (ByteArray.mk #[119, 101, 100, 103, 101]), aN 100, aN 50, .slice none 0 0, .string (ByteArray.mk #[103, 97, 105, 110]), aN 50, aN 50, .slice (some ⟨b2, 0, none⟩) (1) (1)] 105 false, .blk (b2) [aN 0] 3 false, .blk (b3) [.func (.func 118) #[] #[]] 154 false, .blk (b4) [.slice (some ⟨b1, 0, none⟩) (2) (2)] 87 false, .blk (b5) [aN 1] 3 false], []⟩)
    (fun L6 => [])
    fol (by kernel_rfl) (fun _ => by kernel_rfl) (fun L6 => trivial) (fun L6 => ?_)
  refine nrm_thn ?_
  refine aw_round ?_
  refine aw_sr [⟨.pure, [], none, true⟩]
    (fun L7 => ⟨[aS b1 0 1 2, some (.func (.func 140) #[] #[.pointer (some ⟨b3, 0, none⟩), .pointer (some ⟨b4, 0, none⟩), .pointer (some ⟨b5, 0, none⟩)]), aU, aU, aI 0, aI 0, aS b1 0 1 2, aI 1, aI 1, aF, aI 0, some (.func (.func 140) #[] #[.pointer (some ⟨b3, 0, none⟩), .pointer (some ⟨b4, 0, none⟩), .pointer (some ⟨b5, 0, none⟩)]), aS b1 0 1 2, aI 0, aP b1 0, some (.agg #[.string (ByteArray.mk #[119, 101, 100, 103, 101]), aN 100, aN 50, .slice none 0 0]), aF, aU, aI 1], [.blk (b1) [.string (ByteArray.mk #[119, 101, 100, 103, 101]), aN 100, aN 50, .slice none 0 0, .string (ByteArray.mk #[103, 97, 105, 110]), aN 50, aN 50, .slice (some ⟨b2, 0, none⟩) (1) (1)] 105 false, .blk (b2) [aN 0] 3 false, .blk (b3) [.func (.func 118) #[] #[]] 154 false, .blk (b4) [.slice (some ⟨b1, 0, none⟩) (2) (2)] 87 false, .blk (b5) [aN 1] 3 false], []⟩)
    (fun L7 => [])
    fol (by kernel_rfl) (fun _ => by kernel_rfl) (fun L7 => trivial) (fun L7 => ?_)
  refine aw_seq ?_
  refine aw_false (false) rfl rfl ?_
  refine aw_exit ?_
  refine ex_thn ?_
  refine ex_thn ?_
  refine ex_hit ?_
  refine nrm_thn ?_
  refine aw_sr [⟨.pure, [], none, true⟩]
    (fun L8 => ⟨[aS b1 0 1 2, some (.func (.func 140) #[] #[.pointer (some ⟨b3, 0, none⟩), .pointer (some ⟨b4, 0, none⟩), .pointer (some ⟨b5, 0, none⟩)]), aU, aU, aI (-1), aI 0, aS b1 0 1 2, aI 1, aI 1, aF, aI 0, some (.func (.func 140) #[] #[.pointer (some ⟨b3, 0, none⟩), .pointer (some ⟨b4, 0, none⟩), .pointer (some ⟨b5, 0, none⟩)]), aS b1 0 1 2, aI 0, aP b1 0, some (.agg #[.string (ByteArray.mk #[119, 101, 100, 103, 101]), aN 100, aN 50, .slice none 0 0]), aF, aU, aI 1], [.blk (b1) [.string (ByteArray.mk #[119, 101, 100, 103, 101]), aN 100, aN 50, .slice none 0 0, .string (ByteArray.mk #[103, 97, 105, 110]), aN 50, aN 50, .slice (some ⟨b2, 0, none⟩) (1) (1)] 105 false, .blk (b2) [aN 0] 3 false, .blk (b3) [.func (.func 118) #[] #[]] 154 false, .blk (b4) [.slice (some ⟨b1, 0, none⟩) (2) (2)] 87 false, .blk (b5) [aN 1] 3 false], []⟩)
    (fun L8 => [])
    fol (by kernel_rfl) (fun _ => by kernel_rfl) (fun L8 => trivial) (fun L8 => ?_)
  refine aw_ret ?_
  exact fin_ret none [0] (aN (-1)) [] (.inr rfl) rfl (by kernel_rfl) trivial (fun w' hb => ⟨rfl, hb⟩)

-- slices.ContainsFunc[[]couplant/api.TuneStep,couplant/api.TuneStep]
set_option maxRecDepth 100000 in
set_option maxHeartbeats 400000 in
theorem UA.i_111 (b1 b2 b3 b4 b5 : Nat) : CallOb Try.prog 141 #[.slice (some ⟨b1, 0, none⟩) (1) (2), .func (.func 140) #[] #[.pointer (some ⟨b3, 0, none⟩), .pointer (some ⟨b4, 0, none⟩), .pointer (some ⟨b5, 0, none⟩)]] [.blk (b1) [.string (ByteArray.mk #[119, 101, 100, 103, 101]), aN 100, aN 50, .slice none 0 0, .string (ByteArray.mk #[103, 97, 105, 110]), aN 50, aN 50, .slice (some ⟨b2, 0, none⟩) (1) (1)] 105 false, .blk (b2) [aN 0] 3 false, .blk (b3) [.func (.func 118) #[] #[]] 154 false, .blk (b4) [.slice (some ⟨b1, 0, none⟩) (2) (2)] 87 false, .blk (b5) [aN 1] 3 false] (.bool (false)) := by
  intro w hw
  refine calls_aw [aS b1 0 1 2, some (.func (.func 140) #[] #[.pointer (some ⟨b3, 0, none⟩), .pointer (some ⟨b4, 0, none⟩), .pointer (some ⟨b5, 0, none⟩)]), aU, aU, aU, aU, aU, aU, aU] [.blk (b1) [.string (ByteArray.mk #[119, 101, 100, 103, 101]), aN 100, aN 50, .slice none 0 0, .string (ByteArray.mk #[103, 97, 105, 110]), aN 50, aN 50, .slice (some ⟨b2, 0, none⟩) (1) (1)] 105 false, .blk (b2) [aN 0] 3 false, .blk (b3) [.func (.func 118) #[] #[]] 154 false, .blk (b4) [.slice (some ⟨b1, 0, none⟩) (2) (2)] 87 false, .blk (b5) [aN 1] 3 false] Try.func141 rfl (by kernel_rfl) (esOk hw (by simp [Cel.mine])) ?_
  refine aw_sr [⟨.pure, [], none, true⟩]
    (fun L1 => ⟨[aS b1 0 1 2, some (.func (.func 140) #[] #[.pointer (some ⟨b3, 0, none⟩), .pointer (some ⟨b4, 0, none⟩), .pointer (some ⟨b5, 0, none⟩)]), aU, aU, aF, aU, aU, aU, aU], [.blk (b1) [.string (ByteArray.mk #[119, 101, 100, 103, 101]), aN 100, aN 50, .slice none 0 0, .string (ByteArray.mk #[103, 97, 105, 110]), aN 50, aN 50, .slice (some ⟨b2, 0, none⟩) (1) (1)] 105 false, .blk (b2) [aN 0] 3 false, .blk (b3) [.func (.func 118) #[] #[]] 154 false, .blk (b4) [.slice (some ⟨b1, 0, none⟩) (2) (2)] 87 false, .blk (b5) [aN 1] 3 false], []⟩)
    (fun L1 => [])
    fol (by kernel_rfl) (fun _ => by kernel_rfl) (fun L1 => trivial) (fun L1 => ?_)
  refine aw_sr [⟨.pure, [], none, true⟩, ⟨.pure, [], none, true⟩, ⟨(.call [0, 1, 2, 3, 4] (aN (-1))), [0, 1], none, true⟩, ⟨.pure, [0, 1, 2], none, true⟩, ⟨.pure, [0, 1, 2, 3], none, true⟩]
    (fun L2 => ⟨[aS b1 0 1 2, some (.func (.func 140) #[] #[.pointer (some ⟨b3, 0, none⟩), .pointer (some ⟨b4, 0, none⟩), .pointer (some ⟨b5, 0, none⟩)]), aU, aU, aF, aS b1 0 1 2, some (.func (.func 140) #[] #[.pointer (some ⟨b3, 0, none⟩), .pointer (some ⟨b4, 0, none⟩), .pointer (some ⟨b5, 0, none⟩)]), aI (-1), aF], [.blk (b1) [.string (ByteArray.mk #[119, 101, 100, 103, 101]), aN 100, aN 50, .slice none 0 0, .string (ByteArray.mk #[103, 97, 105, 110]), aN 50, aN 50, .slice (some ⟨b2, 0, none⟩) (1) (1)] 105 false, .blk (b2) [aN 0] 3 false, .blk (b3) [.func (.func 118) #[] #[]] 154 false, .blk (b4) [.slice (some ⟨b1, 0, none⟩) (2) (2)] 87 false, .blk (b5) [aN 1] 3 false], []⟩)
    (fun L2 => [CallOb Try.prog 153 #[.slice (some ⟨b1, 0, none⟩) (1) (2), .func (.func 140) #[] #[.pointer (some ⟨b3, 0, none⟩), .pointer (some ⟨b4, 0, none⟩), .pointer (some ⟨b5, 0, none⟩)]] [.blk (b1) [.string (ByteArray.mk #[119, 101, 100, 103, 101]), aN 100, aN 50, .slice none 0 0, .string (ByteArray.mk #[103, 97, 105, 110]), aN 50, aN 50, .slice (some ⟨b2, 0, none⟩) (1) (1)] 105 false, .blk (b2) [aN 0] 3 false, .blk (b3) [.func (.func 118) #[] #[]] 154 false, .blk (b4) [.slice (some ⟨b1, 0, none⟩) (2) (2)] 87 false, .blk (b5) [aN 1] 3 false] (aN (-1))])
    fol (by kernel_rfl) (fun _ => by kernel_rfl) (fun L2 => ⟨(callOb_frz (UA.i_110 (b1) (b2) (b3) (b4) (b5) )), trivial⟩) (fun L2 => ?_)
  refine aw_ret ?_
  exact fin_ret none [0] (.bool (false)) [] (.inr rfl) rfl (by kernel_rfl) trivial (fun w' hb => ⟨rfl, hb⟩)

-- couplant/base.ExistsError[couplant/api.TuneStep]
set_option maxRecDepth 100000 in
set_option maxHeartbeats 400000 in
theorem UA.i_112 (b1 b2 : Nat) : CallOb Try.prog 117 #[.slice (some ⟨b1, 0, none⟩) (2) (2), aN 1, .func (.func 118) #[] #[]] [.blk (b1) [.string (ByteArray.mk #[119, 101, 100, 103, 101]), aN 100, aN 50, .slice none 0 0, .string (ByteArray.mk #[103, 97, 105, 110]), aN 50, aN 50, .slice (some ⟨b2, 0, none⟩) (1) (1)] 105 false, .blk (b2) [aN 0] 3 false] (aN 0) := by
  intro w hw
  refine calls_aw [aS b1 0 2 2, aI 1, some (.func (.func 118) #[] #[]), aU, aU, aU, aU, aU, aU, aU, aU, aU, aU, aU, aU, aU] [.blk (b1) [.string (ByteArray.mk #[119, 101, 100, 103, 101]), aN 100, aN 50, .slice none 0 0, .string (ByteArray.mk #[103, 97, 105, 110]), aN 50, aN 50, .slice (some ⟨b2, 0, none⟩) (1) (1)] 105 false, .blk (b2) [aN 0] 3 false] Try.func117 rfl (by kernel_rfl) (esOk hw (by simp [Cel.mine])) ?_
  refine aw_sr [⟨.new, [], none, true⟩, ⟨.new, [], none, true⟩, ⟨.new, [], none, true⟩, ⟨.pure, [], none, true⟩]
    (fun L1 => ⟨[aS b1 0 2 2, aI 1, some (.func (.func 118) #[] #[]), aP (L1 0).b 0, aP (L1 1).b 0, aP (L1 2).b 0, aI 0, aU, aU, aU, aU, aU, aU, aU, aU, aU], [.blk (b1) [.string (ByteArray.mk #[119, 101, 100, 103, 101]), aN 100, aN 50, .slice none 0 0, .string (ByteArray.mk #[103, 97, 105, 110]), aN 50, aN 50, .slice (some ⟨b2, 0, none⟩) (1) (1)] 105 false, .blk (b2) [aN 0] 3 false, .blk ((L1 0).b) [.slice (some ⟨b1, 0, none⟩) (2) (2)] 87 true, .blk ((L1 1).b) [aN 1] 3 true, .blk ((L1 2).b) [.func (.func 118) #[] #[]] 154 true], []⟩)
    (fun L1 => [])
    fol (by kernel_rfl) (fun _ => by kernel_rfl) (fun L1 => trivial) (fun L1 => ?_)
  refine aw_sr [⟨.pure, [], none, true⟩, ⟨.pure, [0], none, true⟩]
    (fun L2 => ⟨[aS b1 0 2 2, aI 1, some (.func (.func 118) #[] #[]), aP (L1 0).b 0, aP (L1 1).b 0, aP (L1 2).b 0, aI 0, some (.func (.func 140) #[] #[.pointer (some ⟨(L1 2).b, 0, none⟩), .pointer (some ⟨(L1 0).b, 0, none⟩), .pointer (some ⟨(L1 1).b, 0, none⟩)]), some (.func (.func 140) #[] #[.pointer (some ⟨(L1 2).b, 0, none⟩), .pointer (some ⟨(L1 0).b, 0, none⟩), .pointer (some ⟨(L1 1).b, 0, none⟩)]), aU, aU, aU, aU, aU, aU, aU], [.blk (b1) [.string (ByteArray.mk #[119, 101, 100, 103, 101]), aN 100, aN 50, .slice none 0 0, .string (ByteArray.mk #[103, 97, 105, 110]), aN 50, aN 50, .slice (some ⟨b2, 0, none⟩) (1) (1)] 105 false, .blk (b2) [aN 0] 3 false, .blk ((L1 0).b) [.slice (some ⟨b1, 0, none⟩) (2) (2)] 87 true, .blk ((L1 1).b) [aN 1] 3 true, .blk ((L1 2).b) [.func (.func 118) #[] #[]] 154 true], []⟩)
    (fun L2 => [])
    fol (by kernel_rfl) (fun _ => by kernel_rfl) (fun L2 => trivial) (fun L2 => ?_)
  refine aw_sr [⟨(.read 2), [], none, true⟩, ⟨(.read 3), [], none, true⟩, ⟨.pure, [0, 1], none, true⟩, ⟨.pure, [], none, true⟩, ⟨(.call [0, 1, 4, 2, 3] (.bool (false))), [0, 1, 2, 3], none, true⟩, ⟨.pure, [0, 1, 2, 3, 4], none, true⟩, ⟨(.call [] (aN 0)), [0, 1, 2, 3, 4, 5], none, true⟩, ⟨.pure, [0, 1, 2, 3, 4, 5, 6], none, true⟩]
    (fun L3 => ⟨[aS b1 0 2 2, aI 1, some (.func (.func 118) #[] #[]), aP (L1 0).b 0, aP (L1 1).b 0, aP (L1 2).b 0, aI 0, some (.func (.func 140) #[] #[.pointer (some ⟨(L1 2).b, 0, none⟩), .pointer (some ⟨(L1 0).b, 0, none⟩), .pointer (some ⟨(L1 1).b, 0, none⟩)]), some (.func (.func 140) #[] #[.pointer (some ⟨(L1 2).b, 0, none⟩), .pointer (some ⟨(L1 0).b, 0, none⟩), .pointer (some ⟨(L1 1).b, 0, none⟩)]), aS b1 0 2 2, aI 1, aS b1 0 1 2, some (.func (.func 140) #[] #[.pointer (some ⟨(L1 2).b, 0, none⟩), .pointer (some ⟨(L1 0).b, 0, none⟩), .pointer (some ⟨(L1 1).b, 0, none⟩)]), aF, aT, aI 0], [.blk (b1) [.string (ByteArray.mk #[119, 101, 100, 103, 101]), aN 100, aN 50, .slice none 0 0, .string (ByteArray.mk #[103, 97, 105, 110]), aN 50, aN 50, .slice (some ⟨b2, 0, none⟩) (1) (1)] 105 false, .blk (b2) [aN 0] 3 false, .blk ((L1 0).b) [.slice (some ⟨b1, 0, none⟩) (2) (2)] 87 true, .blk ((L1 1).b) [aN 1] 3 true, .blk ((L1 2).b) [.func (.func 118) #[] #[]] 154 true], []⟩)
    (fun L3 => [(L1 0).b = (L1 0).b, (L1 1).b = (L1 1).b, CallOb Try.prog 141 #[.slice (some ⟨b1, 0, none⟩) (1) (2), .func (.func 140) #[] #[.pointer (some ⟨(L1 2).b, 0, none⟩), .pointer (some ⟨(L1 0).b, 0, none⟩), .pointer (some ⟨(L1 1).b, 0, none⟩)]] [.blk (b1) [.string (ByteArray.mk #[119, 101, 100, 103, 101]), aN 100, aN 50, .slice none 0 0, .string (ByteArray.mk #[103, 97, 105, 110]), aN 50, aN 50, .slice (some ⟨b2, 0, none⟩) (1) (1)] 105 false, .blk (b2) [aN 0] 3 false, .blk ((L1 2).b) [.func (.func 118) #[] #[]] 154 true, .blk ((L1 0).b) [.slice (some ⟨b1, 0, none⟩) (2) (2)] 87 true, .blk ((L1 1).b) [aN 1] 3 true] (.bool (false)), CallOb Try.prog 81 #[.bool (true), aN 5] [] (aN 0)])
    fol (by kernel_rfl) (fun _ => by kernel_rfl) (fun L3 => ⟨rfl, rfl, (callOb_frz (UA.i_111 (b1) (b2) ((L1 2).b) ((L1 0).b) ((L1 1).b) )), (callOb_frz (UA.i_91  )), trivial⟩) (fun L3 => ?_)
  refine aw_ret ?_
  exact fin_ret none [0] (aN 0) [] (.inr rfl) rfl (by kernel_rfl) trivial (fun w' hb => ⟨rfl, hb⟩)

-- couplant/base.Within
set_option maxRecDepth 100000 in
set_option maxHeartbeats 400000 in
theorem UA.i_113 : CallOb Try.prog 127 #[aN 50, aN 1, aN 1000000] [] (.bool (true)) := by
  intro w hw
  refine calls_aw [aI 50, aI 1, aI 1000000, aU, aU, aU, aU, aU, aU, aU, aU, aU, aU, aU, aU] [] Try.func127 rfl (by kernel_rfl) (fun e x h => by cases h) ?_
  refine aw_sr [⟨.pure, [], none, true⟩]
    (fun L1 => ⟨[aI 50, aI 1, aI 1000000, aU, aU, aU, aF, aU, aU, aU, aU, aU, aU, aU, aU], [], []⟩)
    (fun L1 => [])
    fol (by kernel_rfl) (fun _ => by kernel_rfl) (fun L1 => trivial) (fun L1 => ?_)
  refine aw_sr [⟨.pure, [], none, true⟩, ⟨.pure, [], none, true⟩, ⟨.pure, [0, 1], none, true⟩, ⟨.pure, [0, 1, 2], none, true⟩, ⟨.pure, [0, 1, 2, 3], none, true⟩, ⟨.pure, [0, 1, 2, 3], none, true⟩, ⟨.pure, [0, 1, 2, 3, 4, 5], none, true⟩, ⟨.pure, [0, 1, 2, 3, 4, 5, 6], aT, true⟩, ⟨.pure, [0, 1, 2, 3, 4, 5, 6, 7], none, true⟩]
    (fun L2 => ⟨[aI 50, aI 1, aI 1000000, aU, aU, aU, aT, aI 1, aI 50, aT, aT, aI 50, aI 1000000, aT, aT], [], []⟩)
    (fun L2 => [(true) = true, (true) = true, (true) = true, (.bool (true) : Value) = .bool (true)])
    fol (by kernel_rfl) (fun _ => by kernel_rfl) (fun L2 => ⟨rfl, rfl, rfl, rfl, trivial⟩) (fun L2 => ?_)
  refine aw_ret ?_
  exact fin_ret none [0] (.bool (true)) [] (.inr rfl) rfl (by kernel_rfl) trivial (fun w' hb => ⟨rfl, hb⟩)

-- couplant/base.RangeError
set_option maxRecDepth 100000 in
set_option maxHeartbeats 400000 in
theorem UA.i_114 : CallOb Try.prog 79 #[aN 50, aN 1, aN 1000000] [] (aN 0) := by
  intro w hw
  refine calls_aw [aI 50, aI 1, aI 1000000, aU, aU, aU, aU, aU, aU, aU, aU, aU] [] Try.func79 rfl (by kernel_rfl) (fun e x h => by cases h) ?_
  refine aw_sr [⟨.pure, [], none, true⟩]
    (fun L1 => ⟨[aI 50, aI 1, aI 1000000, aU, aU, aU, aI 0, aU, aU, aU, aU, aU], [], []⟩)
    (fun L1 => [])
    fol (by kernel_rfl) (fun _ => by kernel_rfl) (fun L1 => trivial) (fun L1 => ?_)
  refine aw_sr [⟨.pure, [], none, true⟩, ⟨.pure, [], none, true⟩, ⟨.pure, [], none, true⟩, ⟨(.call [] (.bool (true))), [0, 1, 2], none, true⟩, ⟨(.call [] (aN 0)), [0, 1, 2, 3], none, true⟩, ⟨.pure, [0, 1, 2, 3, 4], none, true⟩]
    (fun L2 => ⟨[aI 50, aI 1, aI 1000000, aU, aU, aU, aI 0, aI 50, aI 1, aI 1000000, aT, aI 0], [], []⟩)
    (fun L2 => [CallOb Try.prog 127 #[aN 50, aN 1, aN 1000000] [] (.bool (true)), CallOb Try.prog 81 #[.bool (true), aN 2] [] (aN 0)])
    fol (by kernel_rfl) (fun _ => by kernel_rfl) (fun L2 => ⟨(callOb_frz (UA.i_113  )), (callOb_frz (UA.i_6  )), trivial⟩) (fun L2 => ?_)
  refine aw_ret ?_
  exact fin_ret none [0] (aN 0) [] (.inr rfl) rfl (by kernel_rfl) trivial (fun w' hb => ⟨rfl, hb⟩)

-- couplant/base.Within
set_option maxRecDepth 100000 in
set_option maxHeartbeats 400000 in
theorem UA.i_115 : CallOb Try.prog 127 #[aN 0, aN 0, aN 0] [] (.bool (true)) := by
  intro w hw
  refine calls_aw [aI 0, aI 0, aI 0, aU, aU, aU, aU, aU, aU, aU, aU, aU, aU, aU, aU] [] Try.func127 rfl (by kernel_rfl) (fun e x h => by cases h) ?_
  refine aw_sr [⟨.pure, [], none, true⟩]
    (fun L1 => ⟨[aI 0, aI 0, aI 0, aU, aU, aU, aF, aU, aU, aU, aU, aU, aU, aU, aU], [], []⟩)
    (fun L1 => [])
    fol (by kernel_rfl) (fun _ => by kernel_rfl) (fun L1 => trivial) (fun L1 => ?_)
  refine aw_sr [⟨.pure, [], none, true⟩, ⟨.pure, [], none, true⟩, ⟨.pure, [0, 1], none, true⟩, ⟨.pure, [0, 1, 2], none, true⟩, ⟨.pure, [0, 1, 2, 3], none, true⟩, ⟨.pure, [0, 1, 2, 3], none, true⟩, ⟨.pure, [0, 1, 2, 3, 4, 5], none, true⟩, ⟨.pure, [0, 1, 2, 3, 4, 5, 6], aT, true⟩, ⟨.pure, [0, 1, 2, 3, 4, 5, 6, 7], none, true⟩]
    (fun L2 => ⟨[aI 0, aI 0, aI 0, aU, aU, aU, aT, aI 0, aI 0, aT, aT, aI 0, aI 0, aT, aT], [], []⟩)
    (fun L2 => [(true) = true, (true) = true, (true) = true, (.bool (true) : Value) = .bool (true)])
    fol (by kernel_rfl) (fun _ => by kernel_rfl) (fun L2 => ⟨rfl, rfl, rfl, rfl, trivial⟩) (fun L2 => ?_)
  refine aw_ret ?_
  exact fin_ret none [0] (.bool (true)) [] (.inr rfl) rfl (by kernel_rfl) trivial (fun w' hb => ⟨rfl, hb⟩)

-- couplant/base.Unless
set_option maxRecDepth 100000 in
set_option maxHeartbeats 400000 in
theorem UA.i_116 : CallOb Try.prog 81 #[.bool (true), aN 6] [] (aN 0) := by
  intro w hw
  refine calls_aw [aT, aI 6, aU, aU, aU, aU, aU] [] Try.func81 rfl (by kernel_rfl) (fun e x h => by cases h) ?_
  refine aw_sr [⟨.pure, [], none, true⟩]
    (fun L1 => ⟨[aT, aI 6, aU, aU, aI 0, aU, aU], [], []⟩)
    (fun L1 => [])
    fol (by kernel_rfl) (fun _ => by kernel_rfl) (fun L1 => trivial) (fun L1 => ?_)
  refine aw_seq ?_
  refine aw_sr [⟨.pure, [], none, true⟩]
    (fun L2 => ⟨[aT, aI 6, aU, aU, aI 0, aT, aU], [], []⟩)
    (fun L2 => [])
    fol (by kernel_rfl) (fun _ => by kernel_rfl) (fun L2 => trivial) (fun L2 => ?_)
  refine aw_true (true) rfl rfl ?_
  refine aw_sr [⟨.pure, [], none, true⟩]
    (fun L3 => ⟨[aT, aI 6, aU, aU, aI 0, aT, aU], [], []⟩)
    (fun L3 => [])
    fol (by kernel_rfl) (fun _ => by kernel_rfl) (fun L3 => trivial) (fun L3 => ?_)
  refine aw_ret ?_
  refine ret_thn ?_
  exact fin_ret none [0] (aN 0) [] (.inr rfl) rfl (by kernel_rfl) trivial (fun w' hb => ⟨rfl, hb⟩)

-- couplant/base.RiseError
set_option maxRecDepth 100000 in
set_option maxHeartbeats 400000 in
theorem UA.i_117 (b1 : Nat) : CallOb Try.prog 143 #[.slice (some ⟨b1, 0, none⟩) (1) (1), aN 0] [.blk (b1) [aN 0] 3 false] (aN 0) := by
  intro w hw
  refine calls_aw [aS b1 0 1 1, aI 0, aU, aU, aU, aU, aU, aU, aU, aU, aU, aU, aU, aU, aU, aU, aU, aU, aU, aU] [.blk (b1) [aN 0] 3 false] Try.func143 rfl (by kernel_rfl) (esOk hw (by simp [Cel.mine])) ?_
  refine aw_sr [⟨.pure, [], none, true⟩]
    (fun L1 => ⟨[aS b1 0 1 1, aI 0, aU, aU, aI 0, aU, aU, aU, aU, aU, aU, aU, aU, aU, aU, aU, aU, aU, aU, aU], [.blk (b1) [aN 0] 3 false], []⟩)
    (fun L1 => [])
    fol (by kernel_rfl) (fun _ => by kernel_rfl) (fun L1 => trivial) (fun L1 => ?_)
  refine aw_sr [⟨.pure, [], none, true⟩, ⟨.pure, [0], none, true⟩, ⟨.pure, [0, 1], none, true⟩, ⟨.pure, [0, 1, 2], none, false⟩, ⟨.pure, [0, 1, 2], none, false⟩, ⟨.pure, [0, 1, 2, 3, 4], none, false⟩, ⟨.pure, [0, 1, 2, 3, 4, 5], none, false⟩, ⟨.pure, [0, 1, 2], none, false⟩, ⟨.pure, [0, 1, 2], none, false⟩, ⟨.pure, [0, 1, 2, 8], none, false⟩, ⟨.pure, [0, 1, 2, 7, 8, 9], none, false⟩, ⟨.pure, [0, 1, 2, 7, 8, 9, 10], none, false⟩, ⟨.pure, [0, 1, 2, 3, 4, 5, 6, 7, 8, 9, 10, 11], none, false⟩, ⟨.pure, [0, 1, 2, 3, 4, 5, 6, 7, 8, 9, 10, 11, 12], aT, true⟩, ⟨(.call [] (aN 0)), [0, 1, 2, 3, 4, 5, 6, 7, 8, 9, 10, 11, 12, 13], none, true⟩, ⟨.pure, [0, 1, 2, 3, 4, 5, 6, 7, 8, 9, 10, 11, 12, 13, 14], none, true⟩]
    (fun L2 => ⟨[aS b1 0 1 1, aI 0, aU, aU, aI 0, aI 0, aT, aT, aU, aU, aU, aU, aU, aU, aU, aU, aU, aU, aT, aI 0], [.blk (b1) [aN 0] 3 false], []⟩)
    (fun L2 => [(true) = true, (true) = true, (true) = true, (true) = true, (true) = true, (true) = true, (true) = true, (true) = true, (true) = true, (true) = true, (.bool (true) : Value) = .bool (true), CallOb Try.prog 81 #[.bool (true), aN 9] [] (aN 0)])
    fol (by kernel_rfl) (fun _ => by kernel_rfl) (fun L2 => ⟨rfl, rfl, rfl, rfl, rfl, rfl, rfl, rfl, rfl, rfl, rfl, (callOb_frz (UA.i_11  )), trivial⟩) (fun L2 => ?_)
  refine aw_ret ?_
  exact fin_ret none [0] (aN 0) [] (.inr rfl) rfl (by kernel_rfl) trivial (fun w' hb => ⟨rfl, hb⟩)

-- couplant/tune.needsError$1
set_option maxRecDepth 100000 in
set_option maxHeartbeats 400000 in
theorem UA.i_118 (b1 b2 b3 : Nat) : CallOb Try.prog 142 #[aN 0, .pointer (some ⟨b1, 0, none⟩), .pointer (some ⟨b3, 0, none⟩)] [.blk (b1) [.slice (some ⟨b2, 0, none⟩) (1) (1)] 46 false, .blk (b2) [aN 0] 3 false, .blk (b3) [aN 1] 3 false] (aN 0) := by
  intro w hw
  refine calls_aw [aI 0, aP b1 0, aP b3 0, aU, aU, aU, aU, aU, aU, aU, aU, aU, aU, aU, aU, aU, aU, aU] [.blk (b1) [.slice (some ⟨b2, 0, none⟩) (1) (1)] 46 false, .blk (b2) [aN 0] 3 false, .blk (b3) [aN 1] 3 false] Try.func142 rfl (by kernel_rfl) (esOk hw (by simp [Cel.mine])) ?_
  refine aw_sr [⟨.pure, [], none, true⟩]
    (fun L1 => ⟨[aI 0, aP b1 0, aP b3 0, aU, aI 0, aU, aU, aU, aU, aU, aU, aU, aU, aU, aU, aU, aU, aU], [.blk (b1) [.slice (some ⟨b2, 0, none⟩) (1) (1)] 46 false, .blk (b2) [aN 0] 3 false, .blk (b3) [aN 1] 3 false], []⟩)
    (fun L1 => [])
    fol (by kernel_rfl) (fun _ => by kernel_rfl) (fun L1 => trivial) (fun L1 => ?_)
  refine aw_sr [⟨(.read 0), [], none, true⟩, ⟨.pure, [], none, true⟩, ⟨.pure, [0, 1], none, true⟩, ⟨(.read 1), [0, 1, 2], none, true⟩, ⟨(.read 2), [], none, true⟩, ⟨.pure, [4], none, true⟩, ⟨(.call [] (.bool (true))), [0, 1, 2, 3, 4, 5], none, true⟩, ⟨(.call [] (aN 0)), [0, 1, 2, 3, 4, 5, 6], none, true⟩, ⟨(.read 0), [], none, true⟩, ⟨.pure, [], none, true⟩, ⟨(.call [1] (aN 0)), [0, 1, 2, 3, 4, 5, 6, 7, 8, 9], none, true⟩, ⟨.new, [0, 1, 2, 3, 4, 5, 6, 7, 8, 9, 10], none, true⟩, ⟨(.call [14] (aN 0)), [0, 1, 2, 3, 4, 5, 6, 7, 8, 9, 10, 11], none, true⟩, ⟨.pure, [0, 1, 2, 3, 4, 5, 6, 7, 8, 9, 10, 11, 12], none, true⟩]
    (fun L2 => ⟨[aI 0, aP b1 0, aP b3 0, aU, aI 0, aS b2 0 1 1, aI 0, aP b2 0, aI 0, aI 1, aI 0, aT, aI 0, aS b2 0 1 1, aI 0, aI 0, aS (L2 11).b 0 2 2, aI 0], [.blk (b1) [.slice (some ⟨b2, 0, none⟩) (1) (1)] 46 false, .blk (b2) [aN 0] 3 false, .blk (b3) [aN 1] 3 false, .blk ((L2 11).b) [aN 0, aN 0] 25 true], []⟩)
    (fun L2 => [b1 = b1, b2 = b2, b3 = b3, CallOb Try.prog 127 #[aN 0, aN 0, aN 0] [] (.bool (true)), CallOb Try.prog 81 #[.bool (true), aN 6] [] (aN 0), b1 = b1, CallOb Try.prog 143 #[.slice (some ⟨b2, 0, none⟩) (1) (1), aN 0] [.blk (b2) [aN 0] 3 false] (aN 0), CallOb Try.prog 78 #[.slice (some ⟨(L2 11).b, 0, none⟩) (2) (2)] [.blk ((L2 11).b) [aN 0, aN 0] 25 true] (aN 0)])
    fol (by kernel_rfl) (fun _ => by kernel_rfl) (fun L2 => ⟨rfl, rfl, rfl, (callOb_frz (UA.i_115  )), (callOb_frz (UA.i_116  )), rfl, (callOb_frz (UA.i_117 (b2) )), (callOb_frz (UA.i_3 ((L2 11).b) )), trivial⟩) (fun L2 => ?_)
  refine aw_ret ?_
  exact fin_ret none [0] (aN 0) [] (.inr rfl) rfl (by kernel_rfl) trivial (fun w' hb => ⟨rfl, hb⟩)

-- couplant/base.FirstIn
set_option maxRecDepth 100000 in
set_option maxHeartbeats 400000 in
theorem UA.i_119 (b1 b2 b3 : Nat) : CallOb Try.prog 76 #[aN 1, .func (.func 142) #[] #[.pointer (some ⟨b1, 0, none⟩), .pointer (some ⟨b3, 0, none⟩)]] [.blk (b1) [.slice (some ⟨b2, 0, none⟩) (1) (1)] 46 false, .blk (b2) [aN 0] 3 false, .blk (b3) [aN 1] 3 false] (.tuple #[aN 0, aN 0]) := by
  intro w hw
  refine calls_aw [aI 1, some (.func (.func 142) #[] #[.pointer (some ⟨b1, 0, none⟩), .pointer (some ⟨b3, 0, none⟩)]), aU, aU, aU, aU, aU, aU, aU, aU, aU, aU, aU, aU, aU, aU, aU, aU, aU, aU] [.blk (b1) [.slice (some ⟨b2, 0, none⟩) (1) (1)] 46 false, .blk (b2) [aN 0] 3 false, .blk (b3) [aN 1] 3 false] Try.func76 rfl (by kernel_rfl) (esOk hw (by simp [Cel.mine])) ?_
  refine aw_sr [⟨.pure, [], none, true⟩, ⟨.pure, [0], none, true⟩]
    (fun L1 => ⟨[aI 1, some (.func (.func 142) #[] #[.pointer (some ⟨b1, 0, none⟩), .pointer (some ⟨b3, 0, none⟩)]), aU, aU, aI 0, aI 0, aU, aU, aU, aU, aU, aU, aU, aU, aU, aU, aU, aU, aU, aU], [.blk (b1) [.slice (some ⟨b2, 0, none⟩) (1) (1)] 46 false, .blk (b2) [aN 0] 3 false, .blk (b3) [aN 1] 3 false], []⟩)
    (fun L1 => [])
    fol (by kernel_rfl) (fun _ => by kernel_rfl) (fun L1 => trivial) (fun L1 => ?_)
  refine aw_seq ?_
  refine aw_sr [⟨.pure, [], none, true⟩, ⟨.pure, [], none, true⟩]
    (fun L2 => ⟨[aI 1, some (.func (.func 142) #[] #[.pointer (some ⟨b1, 0, none⟩), .pointer (some ⟨b3, 0, none⟩)]), aU, aU, aI 0, aI 0, aU, aU, aI 1, aI 0, aU, aU, aU, aU, aU, aU, aU, aU, aU, aU], [.blk (b1) [.slice (some ⟨b2, 0, none⟩) (1) (1)] 46 false, .blk (b2) [aN 0] 3 false, .blk (b3) [aN 1] 3 false], []⟩)
    (fun L2 => [])
    fol (by kernel_rfl) (fun _ => by kernel_rfl) (fun L2 => trivial) (fun L2 => ?_)
  refine aw_block ?_
  refine aw_rounds 2 ?_
  refine aw_round ?_
  refine aw_sr [⟨.pure, [], none, true⟩]
    (fun L3 => ⟨[aI 1, some (.func (.func 142) #[] #[.pointer (some ⟨b1, 0, none⟩), .pointer (some ⟨b3, 0, none⟩)]), aU, aU, aI 0, aI 0, aU, aU, aI 1, aI 0, aT, aU, aU, aU, aU, aU, aU, aU, aU, aU], [.blk (b1) [.slice (some ⟨b2, 0, none⟩) (1) (1)] 46 false, .blk (b2) [aN 0] 3 false, .blk (b3) [aN 1] 3 false], []⟩)
    (fun L3 => [])
    fol (by kernel_rfl) (fun _ => by kernel_rfl) (fun L3 => trivial) (fun L3 => ?_)
  refine aw_seq ?_
  refine aw_true (true) rfl rfl ?_
  refine aw_skip ?_
  refine nrm_thn ?_
  refine aw_seq ?_
  refine aw_block ?_
  refine aw_sr [⟨.pure, [], none, true⟩, ⟨.pure, [0], none, true⟩]
    (fun L4 => ⟨[aI 1, some (.func (.func 142) #[] #[.pointer (some ⟨b1, 0, none⟩), .pointer (some ⟨b3, 0, none⟩)]), aU, aU, aI 0, aI 0, aI 0, aU, aI 1, aI 0, aT, aI 0, aU, aU, aU, aU, aU, aU, aU, aU], [.blk (b1) [.slice (some ⟨b2, 0, none⟩) (1) (1)] 46 false, .blk (b2) [aN 0] 3 false, .blk (b3) [aN 1] 3 false], []⟩)
    (fun L4 => [])
    fol (by kernel_rfl) (fun _ => by kernel_rfl) (fun L4 => trivial) (fun L4 => ?_)
  refine aw_sr [⟨.pure, [], none, true⟩, ⟨.pure, [], none, true⟩, ⟨(.call [0, 1, 2] (aN 0)), [0, 1], none, true⟩, ⟨.pure, [0, 1, 2], none, true⟩]
    (fun L5 => ⟨[aI 1, some (.func (.func 142) #[] #[.pointer (some ⟨b1, 0, none⟩), .pointer (some ⟨b3, 0, none⟩)]), aU, aU, aI 0, aI 0, aI 0, aI 0, aI 1, aI 0, aT, aI 0, some (.func (.func 142) #[] #[.pointer (some ⟨b1, 0, none⟩), .pointer (some ⟨b3, 0, none⟩)]), aI 0, aI 0, aU, aU, aU, aU, aU], [.blk (b1) [.slice (some ⟨b2, 0, none⟩) (1) (1)] 46 false, .blk (b2) [aN 0] 3 false, .blk (b3) [aN 1] 3 false], []⟩)
    (fun L5 => [CallOb Try.prog 142 #[aN 0, .pointer (some ⟨b1, 0, none⟩), .pointer (some ⟨b3, 0, none⟩)] [.blk (b1) [.slice (some ⟨b2, 0, none⟩) (1) (1)] 46 false, .blk (b2) [aN 0] 3 false, .blk (b3) [aN 1] 3 false] (aN 0)])
    fol (by kernel_rfl) (fun _ => by kernel_rfl) (fun L5 => ⟨(callOb_frz (UA.i_118 (b1) (b2) (b3) )), trivial⟩) (fun L5 => ?_)
  refine aw_sr [⟨.pure, [], none, true⟩, ⟨.pure, [0], none, true⟩]
    (fun L6 => ⟨[aI 1, some (.func (.func 142) #[] #[.pointer (some ⟨b1, 0, none⟩), .pointer (some ⟨b3, 0, none⟩)]), aU, aU, aI 0, aI 0, aI 0, aI 0, aI 1, aI 0, aT, aI 0, some (.func (.func 142) #[] #[.pointer (some ⟨b1, 0, none⟩), .pointer (some ⟨b3, 0, none⟩)]), aI 0, aI 0, aI 0, aF, aU, aU, aU], [.blk (b1) [.slice (some ⟨b2, 0, none⟩) (1) (1)] 46 false, .blk (b2) [aN 0] 3 false, .blk (b3) [aN 1] 3 false], []⟩)
    (fun L6 => [])
    fol (by kernel_rfl) (fun _ => by kernel_rfl) (fun L6 => trivial) (fun L6 => ?_)
  refine aw_false (false) rfl rfl ?_
  refine aw_skip ?_
  refine nrm_inB ?_
  refine nrm_thn ?_
  refine aw_region [⟨.pure, [], none, true⟩, ⟨.pure, [0], none, true⟩]
    (fun L7 => ⟨[aI 1, some (.func (.func 142) #[] #[.pointer (some ⟨b1, 0, none⟩), .pointer (some ⟨b3, 0, none⟩)]), aU, aU, aI 0, aI 0, aI 0, aI 0, aI 1, aI 1, aT, aI 0, some (.func (.func 142) #[] #[.pointer (some ⟨b1, 0, none⟩), .pointer (some ⟨b3, 0, none⟩)]), aI 0, aI 0, aI 0, aF, aU, aU, aI 1], [.blk (b1) [.slice (some ⟨b2, 0, none⟩) (1) (1)] 46 false, .blk (b2) [aN 0] 3 false, .blk (b3) [aN 1] 3 false], []⟩)
    (fun L7 => [])
    fol (by kernel_rfl) (fun _ => by kernel_rfl) (fun L7 => trivial) (fun L7 => ?_)
  refine nrm_thn ?_
  refine aw_round ?_
  refine aw_sr [⟨.pure, [], none, true⟩]
    (fun L8 => ⟨[aI 1, some (.func (.func 142) #[] #[.pointer (some ⟨b1, 0, none⟩), .pointer (some ⟨b3, 0, none⟩)]), aU, aU, aI 0, aI 0, aI 0, aI 0, aI 1, aI 1, aF, aI 0, some (.func (.func 142) #[] #[.pointer (some ⟨b1, 0, none⟩), .pointer (some ⟨b3, 0, none⟩)]), aI 0, aI 0, aI 0, aF, aU, aU, aI 1], [.blk (b1) [.slice (some ⟨b2, 0, none⟩) (1) (1)] 46 false, .blk (b2) [aN 0] 3 false, .blk (b3) [aN 1] 3 false], []⟩)
    (fun L8 => [])
    fol (by kernel_rfl) (fun _ => by kernel_rfl) (fun L8 => trivial) (fun L8 => ?_)
  refine aw_seq ?_
  refine aw_false (false) rfl rfl ?_
  refine aw_exit ?_
  refine ex_thn ?_
  refine ex_thn ?_
  refine ex_hit ?_
  refine nrm_thn ?_
  refine aw_sr [⟨.pure, [], none, true⟩, ⟨.pure, [0], none, true⟩]
    (fun L9 => ⟨[aI 1, some (.func (.func 142) #[] #[.pointer (some ⟨b1, 0, none⟩), .pointer (some ⟨b3, 0, none⟩)]), aU, aU, aI 0, aI 0, aI 0, aI 0, aI 1, aI 1, aF, aI 0, some (.func (.func 142) #[] #[.pointer (some ⟨b1, 0, none⟩), .pointer (some ⟨b3, 0, none⟩)]), aI 0, aI 0, aI 0, aF, aU, aU, aI 1], [.blk (b1) [.slice (some ⟨b2, 0, none⟩) (1) (1)] 46 false, .blk (b2) [aN 0] 3 false, .blk (b3) [aN 1] 3 false], []⟩)
    (fun L9 => [])
    fol (by kernel_rfl) (fun _ => by kernel_rfl) (fun L9 => trivial) (fun L9 => ?_)
  refine aw_ret ?_
  exact fin_ret none [0, 0] (.tuple #[aN 0, aN 0]) [] (.inr rfl) rfl (by kernel_rfl) trivial (fun w' hb => ⟨rfl, hb⟩)

-- couplant/tune.needsError
set_option maxRecDepth 100000 in
set_option maxHeartbeats 400000 in
theorem UA.i_120 (b1 : Nat) : CallOb Try.prog 119 #[.slice (some ⟨b1, 0, none⟩) (1) (1), aN 1] [.blk (b1) [aN 0] 3 false] (aN 0) := by
  intro w hw
  refine calls_aw [aS b1 0 1 1, aI 1, aU, aU, aU, aU, aU, aU, aU, aU, aU, aU, aU, aU, aU] [.blk (b1) [aN 0] 3 false] Try.func119 rfl (by kernel_rfl) (esOk hw (by simp [Cel.mine])) ?_
  refine aw_sr [⟨.new, [], none, true⟩, ⟨.new, [], none, true⟩, ⟨.pure, [], none, true⟩]
    (fun L1 => ⟨[aS b1 0 1 1, aI 1, aP (L1 0).b 0, aP (L1 1).b 0, aI 0, aU, aU, aU, aU, aU, aU, aU, aU, aU, aU], [.blk (b1) [aN 0] 3 false, .blk ((L1 0).b) [.slice (some ⟨b1, 0, none⟩) (1) (1)] 46 true, .blk ((L1 1).b) [aN 1] 3 true], []⟩)
    (fun L1 => [])
    fol (by kernel_rfl) (fun _ => by kernel_rfl) (fun L1 => trivial) (fun L1 => ?_)
  refine aw_sr [⟨(.read 1), [], none, true⟩, ⟨.pure, [0], none, true⟩, ⟨.pure, [], none, true⟩, ⟨(.call [1, 0, 2] (.tuple #[aN 0, aN 0])), [0, 1, 2], none, true⟩, ⟨.pure, [0, 1, 2, 3], none, true⟩, ⟨.pure, [0, 1, 2, 3, 4], none, true⟩, ⟨.pure, [0, 1, 2, 3, 4], none, true⟩, ⟨.pure, [0, 1, 2, 3, 4, 5], none, true⟩, ⟨.pure, [0, 1, 2, 3, 4, 5, 6, 7], none, true⟩]
    (fun L2 => ⟨[aS b1 0 1 1, aI 1, aP (L1 0).b 0, aP (L1 1).b 0, aI 0, aI 0, aI 0, some (.tuple #[aN 0, aN 0]), aS b1 0 1 1, aI 1, some (.func (.func 142) #[] #[.pointer (some ⟨(L1 0).b, 0, none⟩), .pointer (some ⟨(L1 1).b, 0, none⟩)]), some (.tuple #[aN 0, aN 0]), aI 0, aI 0, aU], [.blk (b1) [aN 0] 3 false, .blk ((L1 0).b) [.slice (some ⟨b1, 0, none⟩) (1) (1)] 46 true, .blk ((L1 1).b) [aN 1] 3 true], []⟩)
    (fun L2 => [(L1 0).b = (L1 0).b, CallOb Try.prog 76 #[aN 1, .func (.func 142) #[] #[.pointer (some ⟨(L1 0).b, 0, none⟩), .pointer (some ⟨(L1 1).b, 0, none⟩)]] [.blk ((L1 0).b) [.slice (some ⟨b1, 0, none⟩) (1) (1)] 46 true, .blk (b1) [aN 0] 3 false, .blk ((L1 1).b) [aN 1] 3 true] (.tuple #[aN 0, aN 0])])
    fol (by kernel_rfl) (fun _ => by kernel_rfl) (fun L2 => ⟨rfl, (callOb_frz (UA.i_119 ((L1 0).b) (b1) ((L1 1).b) )), trivial⟩) (fun L2 => ?_)
  refine aw_sr [⟨.pure, [], none, true⟩, ⟨.pure, [0], none, true⟩]
    (fun L3 => ⟨[aS b1 0 1 1, aI 1, aP (L1 0).b 0, aP (L1 1).b 0, aI 0, aI 0, aI 0, some (.tuple #[aN 0, aN 0]), aS b1 0 1 1, aI 1, some (.func (.func 142) #[] #[.pointer (some ⟨(L1 0).b, 0, none⟩), .pointer (some ⟨(L1 1).b, 0, none⟩)]), some (.tuple #[aN 0, aN 0]), aI 0, aI 0, aI 0], [.blk (b1) [aN 0] 3 false, .blk ((L1 0).b) [.slice (some ⟨b1, 0, none⟩) (1) (1)] 46 true, .blk ((L1 1).b) [aN 1] 3 true], []⟩)
    (fun L3 => [])
    fol (by kernel_rfl) (fun _ => by kernel_rfl) (fun L3 => trivial) (fun L3 => ?_)
  refine aw_ret ?_
  exact fin_ret none [0] (aN 0) [] (.inr rfl) rfl (by kernel_rfl) trivial (fun w' hb => ⟨rfl, hb⟩)

-- couplant/tune.CheckSteps$1
set_option maxRecDepth 100000 in
set_option maxHeartbeats 400000 in
theorem UA.i_121 (b1 b2 b3 : Nat) : CallOb Try.prog 115 #[aN 1, .pointer (some ⟨b1, 0, none⟩)] [.blk (b1) [.slice (some ⟨b2, 0, none⟩) (2) (2)] 87 false, .blk (b2) [.string (ByteArray.mk #[119, 101, 100, 103, 101]), aN 100, aN 50, .slice none 0 0, .string (ByteArray.mk #[103, 97, 105, 110]), aN 50, aN 50, .slice (some ⟨b3, 0, none⟩) (1) (1)] 105 false, .blk (b3) [aN 0] 3 false] (aN 0) := by
  intro w hw
  refine calls_aw [aI 1, aP b1 0, aU, aU, aU, aU, aU, aU, aU, aU, aU, aU, aU, aU, aU, aU, aU, aU, aU, aU, aU, aU, aU, aU, aU, aU, aU, aU, aU, aU, aU, aU, aU, aU] [.blk (b1) [.slice (some ⟨b2, 0, none⟩) (2) (2)] 87 false, .blk (b2) [.string (ByteArray.mk #[119, 101, 100, 103, 101]), aN 100, aN 50, .slice none 0 0, .string (ByteArray.mk #[103, 97, 105, 110]), aN 50, aN 50, .slice (some ⟨b3, 0, none⟩) (1) (1)] 105 false, .blk (b3) [aN 0] 3 false] Try.func115 rfl (by kernel_rfl) (esOk hw (by simp [Cel.mine])) ?_
  refine aw_sr [⟨.pure, [], none, true⟩]
    (fun L1 => ⟨[aI 1, aP b1 0, aU, aI 0, aU, aU, aU, aU, aU, aU, aU, aU, aU, aU, aU, aU, aU, aU, aU, aU, aU, aU, aU, aU, aU, aU, aU, aU, aU, aU, aU, aU, aU, aU], [.blk (b1) [.slice (some ⟨b2, 0, none⟩) (2) (2)] 87 false, .blk (b2) [.string (ByteArray.mk #[119, 101, 100, 103, 101]), aN 100, aN 50, .slice none 0 0, .string (ByteArray.mk #[103, 97, 105, 110]), aN 50, aN 50, .slice (some ⟨b3, 0, none⟩) (1) (1)] 105 false, .blk (b3) [aN 0] 3 false], []⟩)
    (fun L1 => [])
    fol (by kernel_rfl) (fun _ => by kernel_rfl) (fun L1 => trivial) (fun L1 => ?_)
  refine aw_sr [⟨(.read 0), [], none, true⟩, ⟨.pure, [], none, true⟩, ⟨.pure, [0, 1], none, true⟩, ⟨.pure, [0, 1, 2], none, true⟩, ⟨(.read 1), [0, 1, 2, 3], none, true⟩, ⟨(.call [] (aN 0)), [0, 1, 2, 3, 4], none, true⟩, ⟨(.read 0), [], none, true⟩, ⟨.pure, [], none, true⟩, ⟨(.call [1, 2] (aN 0)), [0, 1, 2, 3, 4, 5, 6, 7], none, true⟩, ⟨(.read 0), [], none, true⟩, ⟨.pure, [], none, true⟩, ⟨.pure, [9, 10], none, true⟩, ⟨.pure, [9, 10, 11], none, true⟩, ⟨(.read 1), [9, 10, 11, 12], none, true⟩, ⟨(.call [] (aN 0)), [0, 1, 2, 3, 4, 5, 6, 7, 8, 9, 10, 11, 12, 13], none, true⟩, ⟨(.read 0), [], none, true⟩, ⟨.pure, [], none, true⟩, ⟨.pure, [15, 16], none, true⟩, ⟨.pure, [15, 16, 17], none, true⟩, ⟨(.read 1), [15, 16, 17, 18], none, true⟩, ⟨(.call [] (aN 0)), [0, 1, 2, 3, 4, 5, 6, 7, 8, 9, 10, 11, 12, 13, 14, 15, 16, 17, 18, 19], none, true⟩, ⟨(.read 0), [], none, true⟩, ⟨.pure, [], none, true⟩, ⟨.pure, [21, 22], none, true⟩, ⟨.pure, [21, 22, 23], none, true⟩, ⟨(.read 1), [21, 22, 23, 24], none, true⟩, ⟨.pure, [], none, true⟩, ⟨(.call [2] (aN 0)), [0, 1, 2, 3, 4, 5, 6, 7, 8, 9, 10, 11, 12, 13, 14, 15, 16, 17, 18, 19, 20, 21, 22, 23, 24, 25, 26], none, true⟩, ⟨.new, [0, 1, 2, 3, 4, 5, 6, 7, 8, 9, 10, 11, 12, 13, 14, 15, 16, 17, 18, 19, 20, 21, 22, 23, 24, 25, 26, 27], none, true⟩, ⟨(.call [31] (aN 0)), [0, 1, 2, 3, 4, 5, 6, 7, 8, 9, 10, 11, 12, 13, 14, 15, 16, 17, 18, 19, 20, 21, 22, 23, 24, 25, 26, 27, 28], none, true⟩, ⟨.pure, [0, 1, 2, 3, 4, 5, 6, 7, 8, 9, 10, 11, 12, 13, 14, 15, 16, 17, 18, 19, 20, 21, 22, 23, 24, 25, 26, 27, 28, 29], none, true⟩]
    (fun L2 => ⟨[aI 1, aP b1 0, aU, aI 0, aS b2 0 2 2, aI 1, aP b2 4, aP b2 4, some (.string (ByteArray.mk #[103, 97, 105, 110])), aI 0, aS b2 0 2 2, aI 1, aI 0, aS b2 0 2 2, aI 1, aP b2 4, aP b2 5, aI 50, aI 0, aS b2 0 2 2, aI 1, aP b2 4, aP b2 6, aI 50, aI 0, aS b2 0 2 2, aI 1, aP b2 4, aP b2 7, aS b3 0 1 1, aI 1, aI 0, aS (L2 28).b 0 5 5, aI 0], [.blk (b1) [.slice (some ⟨b2, 0, none⟩) (2) (2)] 87 false, .blk (b2) [.string (ByteArray.mk #[119, 101, 100, 103, 101]), aN 100, aN 50, .slice none 0 0, .string (ByteArray.mk #[103, 97, 105, 110]), aN 50, aN 50, .slice (some ⟨b3, 0, none⟩) (1) (1)] 105 false, .blk (b3) [aN 0] 3 false, .blk ((L2 28).b) [aN 0, aN 0, aN 0, aN 0, aN 0] 25 true], []⟩)
    (fun L2 => [b1 = b1, b2 = b2, CallOb Try.prog 116 #[.string (ByteArray.mk #[103, 97, 105, 110])] [] (aN 0), b1 = b1, CallOb Try.prog 117 #[.slice (some ⟨b2, 0, none⟩) (2) (2), aN 1, .func (.func 118) #[] #[]] [.blk (b2) [.string (ByteArray.mk #[119, 101, 100, 103, 101]), aN 100, aN 50, .slice none 0 0, .string (ByteArray.mk #[103, 97, 105, 110]), aN 50, aN 50, .slice (some ⟨b3, 0, none⟩) (1) (1)] 105 false, .blk (b3) [aN 0] 3 false] (aN 0), b1 = b1, b2 = b2, CallOb Try.prog 79 #[aN 50, aN 1, aN 1000000] [] (aN 0), b1 = b1, b2 = b2, CallOb Try.prog 79 #[aN 50, aN 0, aN 2000] [] (aN 0), b1 = b1, b2 = b2, CallOb Try.prog 119 #[.slice (some ⟨b3, 0, none⟩) (1) (1), aN 1] [.blk (b3) [aN 0] 3 false] (aN 0), CallOb Try.prog 78 #[.slice (some ⟨(L2 28).b, 0, none⟩) (5) (5)] [.blk ((L2 28).b) [aN 0, aN 0, aN 0, aN 0, aN 0] 25 true] (aN 0)])
    fol (by kernel_rfl) (fun _ => by kernel_rfl) (fun L2 => ⟨rfl, rfl, (callOb_frz (UA.i_106  )), rfl, (callOb_frz (UA.i_112 (b2) (b3) )), rfl, rfl, (callOb_frz (UA.i_114  )), rfl, rfl, (callOb_frz (UA.i_96  )), rfl, rfl, (callOb_frz (UA.i_120 (b3) )), (callOb_frz (UA.i_99 ((L2 28).b) )), trivial⟩) (fun L2 => ?_)
  refine aw_ret ?_
  exact fin_ret none [0] (aN 0) [] (.inr rfl) rfl (by kernel_rfl) trivial (fun w' hb => ⟨rfl, hb⟩)

-- couplant/base.FirstIn
set_option maxRecDepth 100000 in
set_option maxHeartbeats 400000 in
theorem UA.i_122 (b1 b2 b3 : Nat) : CallOb Try.prog 76 #[aN 2, .func (.func 115) #[] #[.pointer (some ⟨b1, 0, none⟩)]] [.blk (b1) [.slice (some ⟨b2, 0, none⟩) (2) (2)] 87 false, .blk (b2) [.string (ByteArray.mk #[119, 101, 100, 103, 101]), aN 100, aN 50, .slice none 0 0, .string (ByteArray.mk #[103, 97, 105, 110]), aN 50, aN 50, .slice (some ⟨b3, 0, none⟩) (1) (1)] 105 false, .blk (b3) [aN 0] 3 false] (.tuple #[aN 0, aN 0]) := by
  intro w hw
  refine calls_aw [aI 2, some (.func (.func 115) #[] #[.pointer (some ⟨b1, 0, none⟩)]), aU, aU, aU, aU, aU, aU, aU, aU, aU, aU, aU, aU, aU, aU, aU, aU, aU, aU] [.blk (b1) [.slice (some ⟨b2, 0, none⟩) (2) (2)] 87 false, .blk (b2) [.string (ByteArray.mk #[119, 101, 100, 103, 101]), aN 100, aN 50, .slice none 0 0, .string (ByteArray.mk #[103, 97, 105, 110]), aN 50, aN 50, .slice (some ⟨b3, 0, none⟩) (1) (1)] 105 false, .blk (b3) [aN 0] 3 false] Try.func76 rfl (by kernel_rfl) (esOk hw (by simp [Cel.mine])) ?_
  refine aw_sr [⟨.pure, [], none, true⟩, ⟨.pure, [0], none, true⟩]
    (fun L1 => ⟨[aI 2, some (.func (.func 115) #[] #[.pointer (some ⟨b1, 0, none⟩)]), aU, aU, aI 0, aI 0, aU, aU, aU, aU, aU, aU, aU, aU, aU, aU, aU, aU, aU, aU], [.blk (b1) [.slice (some ⟨b2, 0, none⟩) (2) (2)] 87 false, .blk (b2) [.string (ByteArray.mk #[119, 101, 100, 103, 101]), aN 100, aN 50, .slice none 0 0, .string (ByteArray.mk #[103, 97, 105, 110]), aN 50, aN 50, .slice (some ⟨b3, 0, none⟩) (1) (1)] 105 false, .blk (b3) [aN 0] 3 false], []⟩)
    (fun L1 => [])
    fol (by kernel_rfl) (fun _ => by kernel_rfl) (fun L1 => trivial) (fun L1 => ?_)
  refine aw_seq ?_
  refine aw_sr [⟨.pure, [], none, true⟩, ⟨.pure, [], none, true⟩]
    (fun L2 => ⟨[aI 2, some (.func (.func 115) #[] #[.pointer (some ⟨b1, 0, none⟩)]), aU, aU, aI 0, aI 0, aU, aU, aI 2, aI 0, aU, aU, aU, aU, aU, aU, aU, aU, aU, aU], [.blk (b1) [.slice (some ⟨b2, 0, none⟩) (2) (2)] 87 false, .blk (b2) [.string (ByteArray.mk #[119, 101, 100, 103, 101]), aN 100, aN 50, .slice none 0 0, .string (ByteArray.mk #[103, 97, 105, 110]), aN 50, aN 50, .slice (some ⟨b3, 0, none⟩) (1) (1)] 105 false, .blk (b3) [aN 0] 3 false], []⟩)
    (fun L2 => [])
    fol (by kernel_rfl) (fun _ => by kernel_rfl) (fun L2 => trivial) (fun L2 => ?_)
  refine aw_block ?_
  refine aw_rounds 3 ?_
  refine aw_round ?_
  refine aw_sr [⟨.pure, [], none, true⟩]
    (fun L3 => ⟨[aI 2, some (.func (.func 115) #[] #[.pointer (some ⟨b1, 0, none⟩)]), aU, aU, aI 0, aI 0, aU, aU, aI 2, aI 0, aT, aU, aU, aU, aU, aU, aU, aU, aU, aU], [.blk (b1) [.slice (some ⟨b2, 0, none⟩) (2) (2)] 87 false, .blk (b2) [.string (ByteArray.mk #[119, 101, 100, 103, 101]), aN 100, aN 50, .slice none 0 0, .string (ByteArray.mk #[103, 97, 105, 110]), aN 50, aN 50, .slice (some ⟨b3, 0, none⟩) (1) (1)] 105 false, .blk (b3) [aN 0] 3 false], []⟩)
    (fun L3 => [])
    fol (by kernel_rfl) (fun _ => by kernel_rfl) (fun L3 => trivial) (fun L3 => ?_)
  refine aw_seq ?_
  refine aw_true (true) rfl rfl ?_
  refine aw_skip ?_
  refine nrm_thn ?_
  refine aw_seq ?_
  refine aw_block ?_
  refine aw_sr [⟨.pure, [], none, true⟩, ⟨.pure, [0], none, true⟩]
    (fun L4 => ⟨[aI 2, some (.func (.func 115) #[] #[.pointer (some ⟨b1, 0, none⟩)]), aU, aU, aI 0, aI 0, aI 0, aU, aI 2, aI 0, aT, aI 0, aU, aU, aU, aU, aU, aU, aU, aU], [.blk (b1) [.slice (some ⟨b2, 0, none⟩) (2) (2)] 87 false, .blk (b2) [.string (ByteArray.mk #[119, 101, 100, 103, 101]), aN 100, aN 50, .slice none 0 0, .string (ByteArray.mk #[103, 97, 105, 110]), aN 50, aN 50, .slice (some ⟨b3, 0, none⟩) (1) (1)] 105 false, .blk (b3) [aN 0] 3 false], []⟩)
    (fun L4 => [])
    fol (by kernel_rfl) (fun _ => by kernel_rfl) (fun L4 => trivial) (fun L4 => ?_)
  refine aw_sr [⟨.pure, [], none, true⟩, ⟨.pure, [], none, true⟩, ⟨(.call [0, 1, 2] (aN 0)), [0, 1], none, true⟩, ⟨.pure, [0, 1, 2], none, true⟩]
    (fun L5 => ⟨[aI 2, some (.func (.func 115) #[] #[.pointer (some ⟨b1, 0, none⟩)]), aU, aU, aI 0, aI 0, aI 0, aI 0, aI 2, aI 0, aT, aI 0, some (.func (.func 115) #[] #[.pointer (some ⟨b1, 0, none⟩)]), aI 0, aI 0, aU, aU, aU, aU, aU], [.blk (b1) [.slice (some ⟨b2, 0, none⟩) (2) (2)] 87 false, .blk (b2) [.string (ByteArray.mk #[119, 101, 100, 103, 101]), aN 100, aN 50, .slice none 0 0, .string (ByteArray.mk #[103, 97, 105, 110]), aN 50, aN 50, .slice (some ⟨b3, 0, none⟩) (1) (1)] 105 false, .blk (b3) [aN 0] 3 false], []⟩)
    (fun L5 => [CallOb Try.prog 115 #[aN 0, .pointer (some ⟨b1, 0, none⟩)] [.blk (b1) [.slice (some ⟨b2, 0, none⟩) (2) (2)] 87 false, .blk (b2) [.string (ByteArray.mk #[119, 101, 100, 103, 101]), aN 100, aN 50, .slice none 0 0, .string (ByteArray.mk #[103, 97, 105, 110]), aN 50, aN 50, .slice (some ⟨b3, 0, none⟩) (1) (1)] 105 false, .blk (b3) [aN 0] 3 false] (aN 0)])
    fol (by kernel_rfl) (fun _ => by kernel_rfl) (fun L5 => ⟨(callOb_frz (UA.i_100 (b1) (b2) (b3) )), trivial⟩) (fun L5 => ?_)
  refine aw_sr [⟨.pure, [], none, true⟩, ⟨.pure, [0], none, true⟩]
    (fun L6 => ⟨[aI 2, some (.func (.func 115) #[] #[.pointer (some ⟨b1, 0, none⟩)]), aU, aU, aI 0, aI 0, aI 0, aI 0, aI 2, aI 0, aT, aI 0, some (.func (.func 115) #[] #[.pointer (some ⟨b1, 0, none⟩)]), aI 0, aI 0, aI 0, aF, aU, aU, aU], [.blk (b1) [.slice (some ⟨b2, 0, none⟩) (2) (2)] 87 false, .blk (b2) [.string (ByteArray.mk #[119, 101, 100, 103, 101]), aN 100, aN 50, .slice none 0 0, .string (ByteArray.mk #[103, 97, 105, 110]), aN 50, aN 50, .slice (some ⟨b3, 0, none⟩) (1) (1)] 105 false, .blk (b3) [aN 0] 3 false], []⟩)
    (fun L6 => [])
    fol (by kernel_rfl) (fun _ => by kernel_rfl) (fun L6 => trivial) (fun L6 => ?_)
  refine aw_false (false) rfl rfl ?_
  refine aw_skip ?_
  refine nrm_inB ?_
  refine nrm_thn ?_
  refine aw_region [⟨.pure, [], none, true⟩, ⟨.pure, [0], none, true⟩]
    (fun L7 => ⟨[aI 2, some (.func (.func 115) #[] #[.pointer (some ⟨b1, 0, none⟩)]), aU, aU, aI 0, aI 0, aI 0, aI 0, aI 2, aI 1, aT, aI 0, some (.func (.func 115) #[] #[.pointer (some ⟨b1, 0, none⟩)]), aI 0, aI 0, aI 0, aF, aU, aU, aI 1], [.blk (b1) [.slice (some ⟨b2, 0, none⟩) (2) (2)] 87 false, .blk (b2) [.string (ByteArray.mk #[119, 101, 100, 103, 101]), aN 100, aN 50, .slice none 0 0, .string (ByteArray.mk #[103, 97, 105, 110]), aN 50, aN 50, .slice (some ⟨b3, 0, none⟩) (1) (1)] 105 false, .blk (b3) [aN 0] 3 false], []⟩)
    (fun L7 => [])
    fol (by kernel_rfl) (fun _ => by kernel_rfl) (fun L7 => trivial) (fun L7 => ?_)
  refine nrm_thn ?_
  refine aw_round ?_
  refine aw_sr [⟨.pure, [], none, true⟩]
    (fun L8 => ⟨[aI 2, some (.func (.func 115) #[] #[.pointer (some ⟨b1, 0, none⟩)]), aU, aU, aI 0, aI 0, aI 0, aI 0, aI 2, aI 1, aT, aI 0, some (.func (.func 115) #[] #[.pointer (some ⟨b1, 0, none⟩)]), aI 0, aI 0, aI 0, aF, aU, aU, aI 1], [.blk (b1) [.slice (some ⟨b2, 0, none⟩) (2) (2)] 87 false, .blk (b2) [.string (ByteArray.mk #[119, 101, 100, 103, 101]), aN 100, aN 50, .slice none 0 0, .string (ByteArray.mk #[103, 97, 105, 110]), aN 50, aN 50, .slice (some ⟨b3, 0, none⟩) (1) (1)] 105 false, .blk (b3) [aN 0] 3 false], []⟩)
    (fun L8 => [])
    fol (by kernel_rfl) (fun _ => by kernel_rfl) (fun L8 => trivial) (fun L8 => ?_)
  refine aw_seq ?_
  refine aw_true (true) rfl rfl ?_
  refine aw_skip ?_
  refine nrm_thn ?_
  refine aw_seq ?_
  refine aw_block ?_
  refine aw_sr [⟨.pure, [], none, true⟩, ⟨.pure, [0], none, true⟩]
    (fun L9 => ⟨[aI 2, some (.func (.func 115) #[] #[.pointer (some ⟨b1, 0, none⟩)]), aU, aU, aI 0, aI 0, aI 1, aI 0, aI 2, aI 1, aT, aI 1, some (.func (.func 115) #[] #[.pointer (some ⟨b1, 0, none⟩)]), aI 0, aI 0, aI 0, aF, aU, aU, aI 1], [.blk (b1) [.slice (some ⟨b2, 0, none⟩) (2) (2)] 87 false, .blk (b2) [.string (ByteArray.mk #[119, 101, 100, 103, 101]), aN 100, aN 50, .slice none 0 0, .string (ByteArray.mk #[103, 97, 105, 110]), aN 50, aN 50, .slice (some ⟨b3, 0, none⟩) (1) (1)] 105 false, .blk (b3) [aN 0] 3 false], []⟩)
    (fun L9 => [])
    fol (by kernel_rfl) (fun _ => by kernel_rfl) (fun L9 => trivial) (fun L9 => ?_)
  refine aw_sr [⟨.pure, [], none, true⟩, ⟨.pure, [], none, true⟩, ⟨(.call [0, 1, 2] (aN 0)), [0, 1], none, true⟩, ⟨.pure, [0, 1, 2], none, true⟩]
    (fun L10 => ⟨[aI 2, some (.func (.func 115) #[] #[.pointer (some ⟨b1, 0, none⟩)]), aU, aU, aI 0, aI 0, aI 1, aI 0, aI 2, aI 1, aT, aI 1, some (.func (.func 115) #[] #[.pointer (some ⟨b1, 0, none⟩)]), aI 1, aI 0, aI 0, aF, aU, aU, aI 1], [.blk (b1) [.slice (some ⟨b2, 0, none⟩) (2) (2)] 87 false, .blk (b2) [.string (ByteArray.mk #[119, 101, 100, 103, 101]), aN 100, aN 50, .slice none 0 0, .string (ByteArray.mk #[103, 97, 105, 110]), aN 50, aN 50, .slice (some ⟨b3, 0, none⟩) (1) (1)] 105 false, .blk (b3) [aN 0] 3 false], []⟩)
    (fun L10 => [CallOb Try.prog 115 #[aN 1, .pointer (some ⟨b1, 0, none⟩)] [.blk (b1) [.slice (some ⟨b2, 0, none⟩) (2) (2)] 87 false, .blk (b2) [.string (ByteArray.mk #[119, 101, 100, 103, 101]), aN 100, aN 50, .slice none 0 0, .string (ByteArray.mk #[103, 97, 105, 110]), aN 50, aN 50, .slice (some ⟨b3, 0, none⟩) (1) (1)] 105 false, .blk (b3) [aN 0] 3 false] (aN 0)])
    fol (by kernel_rfl) (fun _ => by kernel_rfl) (fun L10 => ⟨(callOb_frz (UA.i_121 (b1) (b2) (b3) )), trivial⟩) (fun L10 => ?_)
  refine aw_sr [⟨.pure, [], none, true⟩, ⟨.pure, [0], none, true⟩]
    (fun L11 => ⟨[aI 2, some (.func (.func 115) #[] #[.pointer (some ⟨b1, 0, none⟩)]), aU, aU, aI 0, aI 0, aI 1, aI 0, aI 2, aI 1, aT, aI 1, some (.func (.func 115) #[] #[.pointer (some ⟨b1, 0, none⟩)]), aI 1, aI 0, aI 0, aF, aU, aU, aI 1], [.blk (b1) [.slice (some ⟨b2, 0, none⟩) (2) (2)] 87 false, .blk (b2) [.string (ByteArray.mk #[119, 101, 100, 103, 101]), aN 100, aN 50, .slice none 0 0, .string (ByteArray.mk #[103, 97, 105, 110]), aN 50, aN 50, .slice (some ⟨b3, 0, none⟩) (1) (1)] 105 false, .blk (b3) [aN 0] 3 false], []⟩)
    (fun L11 => [])
    fol (by kernel_rfl) (fun _ => by kernel_rfl) (fun L11 => trivial) (fun L11 => ?_)
  refine aw_false (false) rfl rfl ?_
  refine aw_skip ?_
  refine nrm_inB ?_
  refine nrm_thn ?_
  refine aw_region [⟨.pure, [], none, true⟩, ⟨.pure, [0], none, true⟩]
    (fun L12 => ⟨[aI 2, some (.func (.func 115) #[] #[.pointer (some ⟨b1, 0, none⟩)]), aU, aU, aI 0, aI 0, aI 1, aI 0, aI 2, aI 2, aT, aI 1, some (.func (.func 115) #[] #[.pointer (some ⟨b1, 0, none⟩)]), aI 1, aI 0, aI 0, aF, aU, aU, aI 2], [.blk (b1) [.slice (some ⟨b2, 0, none⟩) (2) (2)] 87 false, .blk (b2) [.string (ByteArray.mk #[119, 101, 100, 103, 101]), aN 100, aN 50, .slice none 0 0, .string (ByteArray.mk #[103, 97, 105, 110]), aN 50, aN 50, .slice (some ⟨b3, 0, none⟩) (1) (1)] 105 false, .blk (b3) [aN 0] 3 false], []⟩)
    (fun L12 => [])
    fol (by kernel_rfl) (fun _ => by kernel_rfl) (fun L12 => trivial) (fun L12 => ?_)
  refine nrm_thn ?_
  refine aw_round ?_
  refine aw_sr [⟨.pure, [], none, true⟩]
    (fun L13 => ⟨[aI 2, some (.func (.func 115) #[] #[.pointer (some ⟨b1, 0, none⟩)]), aU, aU, aI 0, aI 0, aI 1, aI 0, aI 2, aI 2, aF, aI 1, some (.func (.func 115) #[] #[.pointer (some ⟨b1, 0, none⟩)]), aI 1, aI 0, aI 0, aF, aU, aU, aI 2], [.blk (b1) [.slice (some ⟨b2, 0, none⟩) (2) (2)] 87 false, .blk (b2) [.string (ByteArray.mk #[119, 101, 100, 103, 101]), aN 100, aN 50, .slice none 0 0, .string (ByteArray.mk #[103, 97, 105, 110]), aN 50, aN 50, .slice (some ⟨b3, 0, none⟩) (1) (1)] 105 false, .blk (b3) [aN 0] 3 false], []⟩)
    (fun L13 => [])
    fol (by kernel_rfl) (fun _ => by kernel_rfl) (fun L13 => trivial) (fun L13 => ?_)
  refine aw_seq ?_
  refine aw_false (false) rfl rfl ?_
  refine aw_exit ?_
  refine ex_thn ?_
  refine ex_thn ?_
  refine ex_hit ?_
  refine nrm_thn ?_
  refine aw_sr [⟨.pure, [], none, true⟩, ⟨.pure, [0], none, true⟩]
    (fun L14 => ⟨[aI 2, some (.func (.func 115) #[] #[.pointer (some ⟨b1, 0, none⟩)]), aU, aU, aI 0, aI 0, aI 1, aI 0, aI 2, aI 2, aF, aI 1, some (.func (.func 115) #[] #[.pointer (some ⟨b1, 0, none⟩)]), aI 1, aI 0, aI 0, aF, aU, aU, aI 2], [.blk (b1) [.slice (some ⟨b2, 0, none⟩) (2) (2)] 87 false, .blk (b2) [.string (ByteArray.mk #[119, 101, 100, 103, 101]), aN 100, aN 50, .slice none 0 0, .string (ByteArray.mk #[103, 97, 105, 110]), aN 50, aN 50, .slice (some ⟨b3, 0, none⟩) (1) (1)] 105 false, .blk (b3) [aN 0] 3 false], []⟩)
    (fun L14 => [])
    fol (by kernel_rfl) (fun _ => by kernel_rfl) (fun L14 => trivial) (fun L14 => ?_)
  refine aw_ret ?_
  exact fin_ret none [0, 0] (.tuple #[aN 0, aN 0]) [] (.inr rfl) rfl (by kernel_rfl) trivial (fun w' hb => ⟨rfl, hb⟩)

-- couplant/tune.CheckSteps
set_option maxRecDepth 100000 in
set_option maxHeartbeats 400000 in
theorem UA.i_123 (b1 b2 : Nat) : CallOb Try.prog 57 #[.slice (some ⟨b1, 0, none⟩) (2) (2)] [.blk (b1) [.string (ByteArray.mk #[119, 101, 100, 103, 101]), aN 100, aN 50, .slice none 0 0, .string (ByteArray.mk #[103, 97, 105, 110]), aN 50, aN 50, .slice (some ⟨b2, 0, none⟩) (1) (1)] 105 false, .blk (b2) [aN 0] 3 false] (.tuple #[aN 0, aN 0]) := by
  intro w hw
  refine calls_aw [aS b1 0 2 2, aU, aU, aU, aU, aU, aU, aU, aU, aU, aU, aU, aU, aU, aU, aU, aU] [.blk (b1) [.string (ByteArray.mk #[119, 101, 100, 103, 101]), aN 100, aN 50, .slice none 0 0, .string (ByteArray.mk #[103, 97, 105, 110]), aN 50, aN 50, .slice (some ⟨b2, 0, none⟩) (1) (1)] 105 false, .blk (b2) [aN 0] 3 false] Try.func57 rfl (by kernel_rfl) (esOk hw (by simp [Cel.mine])) ?_
  refine aw_sr [⟨.new, [], none, true⟩, ⟨.pure, [], none, true⟩, ⟨.pure, [1], none, true⟩]
    (fun L1 => ⟨[aS b1 0 2 2, aP (L1 0).b 0, aI 0, aI 0, aU, aU, aU, aU, aU, aU, aU, aU, aU, aU, aU, aU, aU], [.blk (b1) [.string (ByteArray.mk #[119, 101, 100, 103, 101]), aN 100, aN 50, .slice none 0 0, .string (ByteArray.mk #[103, 97, 105, 110]), aN 50, aN 50, .slice (some ⟨b2, 0, none⟩) (1) (1)] 105 false, .blk (b2) [aN 0] 3 false, .blk ((L1 0).b) [.slice (some ⟨b1, 0, none⟩) (2) (2)] 87 true], []⟩)
    (fun L1 => [])
    fol (by kernel_rfl) (fun _ => by kernel_rfl) (fun L1 => trivial) (fun L1 => ?_)
  refine aw_seq ?_
  refine aw_sr [⟨(.read 2), [], none, true⟩, ⟨.pure, [0], none, true⟩, ⟨(.call [] (aN 0)), [0, 1], none, true⟩, ⟨.pure, [0, 1, 2], none, true⟩]
    (fun L2 => ⟨[aS b1 0 2 2, aP (L1 0).b 0, aI 0, aI 0, aI 0, aS b1 0 2 2, aI 2, aI 0, aU, aU, aU, aU, aU, aU, aU, aU, aU], [.blk (b1) [.string (ByteArray.mk #[119, 101, 100, 103, 101]), aN 100, aN 50, .slice none 0 0, .string (ByteArray.mk #[103, 97, 105, 110]), aN 50, aN 50, .slice (some ⟨b2, 0, none⟩) (1) (1)] 105 false, .blk (b2) [aN 0] 3 false, .blk ((L1 0).b) [.slice (some ⟨b1, 0, none⟩) (2) (2)] 87 true], []⟩)
    (fun L2 => [(L1 0).b = (L1 0).b, CallOb Try.prog 75 #[aN 2, aN 10] [] (aN 0)])
    fol (by kernel_rfl) (fun _ => by kernel_rfl) (fun L2 => ⟨rfl, (callOb_frz (UA.i_80  )), trivial⟩) (fun L2 => ?_)
  refine aw_sr [⟨.pure, [], none, true⟩, ⟨.pure, [0], none, true⟩]
    (fun L3 => ⟨[aS b1 0 2 2, aP (L1 0).b 0, aI 0, aI 0, aI 0, aS b1 0 2 2, aI 2, aI 0, aI 0, aF, aU, aU, aU, aU, aU, aU, aU], [.blk (b1) [.string (ByteArray.mk #[119, 101, 100, 103, 101]), aN 100, aN 50, .slice none 0 0, .string (ByteArray.mk #[103, 97, 105, 110]), aN 50, aN 50, .slice (some ⟨b2, 0, none⟩) (1) (1)] 105 false, .blk (b2) [aN 0] 3 false, .blk ((L1 0).b) [.slice (some ⟨b1, 0, none⟩) (2) (2)] 87 true], []⟩)
    (fun L3 => [])
    fol (by kernel_rfl) (fun _ => by kernel_rfl) (fun L3 => trivial) (fun L3 => ?_)
  refine aw_false (false) rfl rfl ?_
  refine aw_skip ?_
  refine nrm_thn ?_
  refine aw_sr [⟨(.read 2), [], none, true⟩, ⟨.pure, [0], none, true⟩, ⟨.pure, [], none, true⟩, ⟨(.call [2, 0, 1] (.tuple #[aN 0, aN 0])), [0, 1, 2], none, true⟩, ⟨.pure, [0, 1, 2, 3], none, true⟩, ⟨.pure, [0, 1, 2, 3], none, true⟩, ⟨.pure, [0, 1, 2, 3, 4, 5], none, true⟩, ⟨.pure, [0, 1, 2, 3, 4, 5, 6], none, true⟩]
    (fun L4 => ⟨[aS b1 0 2 2, aP (L1 0).b 0, aI 0, aI 0, aI 0, aS b1 0 2 2, aI 2, aI 0, aI 0, aF, aU, aS b1 0 2 2, aI 2, some (.func (.func 115) #[] #[.pointer (some ⟨(L1 0).b, 0, none⟩)]), some (.tuple #[aN 0, aN 0]), aI 0, aI 0], [.blk (b1) [.string (ByteArray.mk #[119, 101, 100, 103, 101]), aN 100, aN 50, .slice none 0 0, .string (ByteArray.mk #[103, 97, 105, 110]), aN 50, aN 50, .slice (some ⟨b2, 0, none⟩) (1) (1)] 105 false, .blk (b2) [aN 0] 3 false, .blk ((L1 0).b) [.slice (some ⟨b1, 0, none⟩) (2) (2)] 87 true], []⟩)
    (fun L4 => [(L1 0).b = (L1 0).b, CallOb Try.prog 76 #[aN 2, .func (.func 115) #[] #[.pointer (some ⟨(L1 0).b, 0, none⟩)]] [.blk ((L1 0).b) [.slice (some ⟨b1, 0, none⟩) (2) (2)] 87 true, .blk (b1) [.string (ByteArray.mk #[119, 101, 100, 103, 101]), aN 100, aN 50, .slice none 0 0, .string (ByteArray.mk #[103, 97, 105, 110]), aN 50, aN 50, .slice (some ⟨b2, 0, none⟩) (1) (1)] 105 false, .blk (b2) [aN 0] 3 false] (.tuple #[aN 0, aN 0])])
    fol (by kernel_rfl) (fun _ => by kernel_rfl) (fun L4 => ⟨rfl, (callOb_frz (UA.i_122 ((L1 0).b) (b1) (b2) )), trivial⟩) (fun L4 => ?_)
  refine aw_ret ?_
  exact fin_ret none [0, 0] (.tuple #[aN 0, aN 0]) [] (.inr rfl) rfl (by kernel_rfl) trivial (fun w' hb => ⟨rfl, hb⟩)

-- couplant/base.Within
set_option maxRecDepth 100000 in
set_option maxHeartbeats 400000 in
theorem UA.i_124 : CallOb Try.prog 127 #[aN 0, aN 0, aN 100000000] [] (.bool (true)) := by
  intro w hw
  refine calls_aw [aI 0, aI 0, aI 100000000, aU, aU, aU, aU, aU, aU, aU, aU, aU, aU, aU, aU] [] Try.func127 rfl (by kernel_rfl) (fun e x h => by cases h) ?_
  refine aw_sr [⟨.pure, [], none, true⟩]
    (fun L1 => ⟨[aI 0, aI 0, aI 100000000, aU, aU, aU, aF, aU, aU, aU, aU, aU, aU, aU, aU], [], []⟩)
    (fun L1 => [])
    fol (by kernel_rfl) (fun _ => by kernel_rfl) (fun L1 => trivial) (fun L1 => ?_)
  refine aw_sr [⟨.pure, [], none, true⟩, ⟨.pure, [], none, true⟩, ⟨.pure, [0, 1], none, true⟩, ⟨.pure, [0, 1, 2], none, true⟩, ⟨.pure, [0, 1, 2, 3], none, true⟩, ⟨.pure, [0, 1, 2, 3], none, true⟩, ⟨.pure, [0, 1, 2, 3, 4, 5], none, true⟩, ⟨.pure, [0, 1, 2, 3, 4, 5, 6], aT, true⟩, ⟨.pure, [0, 1, 2, 3, 4, 5, 6, 7], none, true⟩]
    (fun L2 => ⟨[aI 0, aI 0, aI 100000000, aU, aU, aU, aT, aI 0, aI 0, aT, aT, aI 0, aI 100000000, aT, aT], [], []⟩)
    (fun L2 => [(true) = true, (true) = true, (true) = true, (.bool (true) : Value) = .bool (true)])
    fol (by kernel_rfl) (fun _ => by kernel_rfl) (fun L2 => ⟨rfl, rfl, rfl, rfl, trivial⟩) (fun L2 => ?_)
  refine aw_ret ?_
  exact fin_ret none [0] (.bool (true)) [] (.inr rfl) rfl (by kernel_rfl) trivial (fun w' hb => ⟨rfl, hb⟩)

-- couplant/base.RangeError
set_option maxRecDepth 100000 in
set_option maxHeartbeats 400000 in
theorem UA.i_125 : CallOb Try.prog 79 #[aN 0, aN 0, aN 100000000] [] (aN 0) := by
  intro w hw
  refine calls_aw [aI 0, aI 0, aI 100000000, aU, aU, aU, aU, aU, aU, aU, aU, aU] [] Try.func79 rfl (by kernel_rfl) (fun e x h => by cases h) ?_
  refine aw_sr [⟨.pure, [], none, true⟩]
    (fun L1 => ⟨[aI 0, aI 0, aI 100000000, aU, aU, aU, aI 0, aU, aU, aU, aU, aU], [], []⟩)
    (fun L1 => [])
    fol (by kernel_rfl) (fun _ => by kernel_rfl) (fun L1 => trivial) (fun L1 => ?_)
  refine aw_sr [⟨.pure, [], none, true⟩, ⟨.pure, [], none, true⟩, ⟨.pure, [], none, true⟩, ⟨(.call [] (.bool (true))), [0, 1, 2], none, true⟩, ⟨(.call [] (aN 0)), [0, 1, 2, 3], none, true⟩, ⟨.pure, [0, 1, 2, 3, 4], none, true⟩]
    (fun L2 => ⟨[aI 0, aI 0, aI 100000000, aU, aU, aU, aI 0, aI 0, aI 0, aI 100000000, aT, aI 0], [], []⟩)
    (fun L2 => [CallOb Try.prog 127 #[aN 0, aN 0, aN 100000000] [] (.bool (true)), CallOb Try.prog 81 #[.bool (true), aN 2] [] (aN 0)])
    fol (by kernel_rfl) (fun _ => by kernel_rfl) (fun L2 => ⟨(callOb_frz (UA.i_124  )), (callOb_frz (UA.i_6  )), trivial⟩) (fun L2 => ?_)
  refine aw_ret ?_
  exact fin_ret none [0] (aN 0) [] (.inr rfl) rfl (by kernel_rfl) trivial (fun w' hb => ⟨rfl, hb⟩)

-- couplant/base.Within
set_option maxRecDepth 100000 in
set_option maxHeartbeats 400000 in
theorem UA.i_126 : CallOb Try.prog 127 #[aN 0, aN (-1), aN 1] [] (.bool (true)) := by
  intro w hw
  refine calls_aw [aI 0, aI (-1), aI 1, aU, aU, aU, aU, aU, aU, aU, aU, aU, aU, aU, aU] [] Try.func127 rfl (by kernel_rfl) (fun e x h => by cases h) ?_
  refine aw_sr [⟨.pure, [], none, true⟩]
    (fun L1 => ⟨[aI 0, aI (-1), aI 1, aU, aU, aU, aF, aU, aU, aU, aU, aU, aU, aU, aU], [], []⟩)
    (fun L1 => [])
    fol (by kernel_rfl) (fun _ => by kernel_rfl) (fun L1 => trivial) (fun L1 => ?_)
  refine aw_sr [⟨.pure, [], none, true⟩, ⟨.pure, [], none, true⟩, ⟨.pure, [0, 1], none, true⟩, ⟨.pure, [0, 1, 2], none, true⟩, ⟨.pure, [0, 1, 2, 3], none, true⟩, ⟨.pure, [0, 1, 2, 3], none, true⟩, ⟨.pure, [0, 1, 2, 3, 4, 5], none, true⟩, ⟨.pure, [0, 1, 2, 3, 4, 5, 6], aT, true⟩, ⟨.pure, [0, 1, 2, 3, 4, 5, 6, 7], none, true⟩]
    (fun L2 => ⟨[aI 0, aI (-1), aI 1, aU, aU, aU, aT, aI (-1), aI 0, aT, aT, aI 0, aI 1, aT, aT], [], []⟩)
    (fun L2 => [(true) = true, (true) = true, (true) = true, (.bool (true) : Value) = .bool (true)])
    fol (by kernel_rfl) (fun _ => by kernel_rfl) (fun L2 => ⟨rfl, rfl, rfl, rfl, trivial⟩) (fun L2 => ?_)
  refine aw_ret ?_
  exact fin_ret none [0] (.bool (true)) [] (.inr rfl) rfl (by kernel_rfl) trivial (fun w' hb => ⟨rfl, hb⟩)

-- couplant/base.Within
set_option maxRecDepth 100000 in
set_option maxHeartbeats 400000 in
theorem UA.i_127 : CallOb Try.prog 127 #[aN 200, aN (-2000), aN 2000] [] (.bool (true)) := by
  intro w hw
  refine calls_aw [aI 200, aI (-2000), aI 2000, aU, aU, aU, aU, aU, aU, aU, aU, aU, aU, aU, aU] [] Try.func127 rfl (by kernel_rfl) (fun e x h => by cases h) ?_
  refine aw_sr [⟨.pure, [], none, true⟩]
    (fun L1 => ⟨[aI 200, aI (-2000), aI 2000, aU, aU, aU, aF, aU, aU, aU, aU, aU, aU, aU, aU], [], []⟩)
    (fun L1 => [])
    fol (by kernel_rfl) (fun _ => by kernel_rfl) (fun L1 => trivial) (fun L1 => ?_)
  refine aw_sr [⟨.pure, [], none, true⟩, ⟨.pure, [], none, true⟩, ⟨.pure, [0, 1], none, true⟩, ⟨.pure, [0, 1, 2], none, true⟩, ⟨.pure, [0, 1, 2, 3], none, true⟩, ⟨.pure, [0, 1, 2, 3], none, true⟩, ⟨.pure, [0, 1, 2, 3, 4, 5], none, true⟩, ⟨.pure, [0, 1, 2, 3, 4, 5, 6], aT, true⟩, ⟨.pure, [0, 1, 2, 3, 4, 5, 6, 7], none, true⟩]
    (fun L2 => ⟨[aI 200, aI (-2000), aI 2000, aU, aU, aU, aT, aI (-2000), aI 200, aT, aT, aI 200, aI 2000, aT, aT], [], []⟩)
    (fun L2 => [(true) = true, (true) = true, (true) = true, (.bool (true) : Value) = .bool (true)])
    fol (by kernel_rfl) (fun _ => by kernel_rfl) (fun L2 => ⟨rfl, rfl, rfl, rfl, trivial⟩) (fun L2 => ?_)
  refine aw_ret ?_
  exact fin_ret none [0] (.bool (true)) [] (.inr rfl) rfl (by kernel_rfl) trivial (fun w' hb => ⟨rfl, hb⟩)

-- couplant/base.RangeError
set_option maxRecDepth 100000 in
set_option maxHeartbeats 400000 in
theorem UA.i_128 : CallOb Try.prog 79 #[aN 200, aN (-2000), aN 2000] [] (aN 0) := by
  intro w hw
  refine calls_aw [aI 200, aI (-2000), aI 2000, aU, aU, aU, aU, aU, aU, aU, aU, aU] [] Try.func79 rfl (by kernel_rfl) (fun e x h => by cases h) ?_
  refine aw_sr [⟨.pure, [], none, true⟩]
    (fun L1 => ⟨[aI 200, aI (-2000), aI 2000, aU, aU, aU, aI 0, aU, aU, aU, aU, aU], [], []⟩)
    (fun L1 => [])
    fol (by kernel_rfl) (fun _ => by kernel_rfl) (fun L1 => trivial) (fun L1 => ?_)
  refine aw_sr [⟨.pure, [], none, true⟩, ⟨.pure, [], none, true⟩, ⟨.pure, [], none, true⟩, ⟨(.call [] (.bool (true))), [0, 1, 2], none, true⟩, ⟨(.call [] (aN 0)), [0, 1, 2, 3], none, true⟩, ⟨.pure, [0, 1, 2, 3, 4], none, true⟩]
    (fun L2 => ⟨[aI 200, aI (-2000), aI 2000, aU, aU, aU, aI 0, aI 200, aI (-2000), aI 2000, aT, aI 0], [], []⟩)
    (fun L2 => [CallOb Try.prog 127 #[aN 200, aN (-2000), aN 2000] [] (.bool (true)), CallOb Try.prog 81 #[.bool (true), aN 2] [] (aN 0)])
    fol (by kernel_rfl) (fun _ => by kernel_rfl) (fun L2 => ⟨(callOb_frz (UA.i_127  )), (callOb_frz (UA.i_6  )), trivial⟩) (fun L2 => ?_)
  refine aw_ret ?_
  exact fin_ret none [0] (aN 0) [] (.inr rfl) rfl (by kernel_rfl) trivial (fun w' hb => ⟨rfl, hb⟩)

-- couplant/base.FirstOf
set_option maxRecDepth 100000 in
set_option maxHeartbeats 400000 in
theorem UA.i_129 (b1 : Nat) : CallOb Try.prog 78 #[.slice (some ⟨b1, 0, none⟩) (4) (4)] [.blk (b1) [aN 0, aN 0, aN 0, aN 0] 25 false] (aN 0) := by
  intro w hw
  refine calls_aw [aS b1 0 4 4, aU, aU, aU, aU, aU, aU, aU, aU, aU, aU, aU, aU, aU, aU] [.blk (b1) [aN 0, aN 0, aN 0, aN 0] 25 false] Try.func78 rfl (by kernel_rfl) (esOk hw (by simp [Cel.mine])) ?_
  refine aw_sr [⟨.pure, [], none, true⟩]
    (fun L1 => ⟨[aS b1 0 4 4, aU, aI 0, aU, aU, aU, aU, aU, aU, aU, aU, aU, aU, aU, aU], [.blk (b1) [aN 0, aN 0, aN 0, aN 0] 25 false], []⟩)
    (fun L1 => [])
    fol (by kernel_rfl) (fun _ => by kernel_rfl) (fun L1 => trivial) (fun L1 => ?_)
  refine aw_seq ?_
  refine aw_sr [⟨.pure, [], none, true⟩, ⟨.pure, [0], none, true⟩, ⟨.pure, [], none, true⟩]
    (fun L2 => ⟨[aS b1 0 4 4, aU, aI 0, aU, aU, aS b1 0 4 4, aI 4, aI 0, aU, aU, aU, aU, aU, aU, aU], [.blk (b1) [aN 0, aN 0, aN 0, aN 0] 25 false], []⟩)
    (fun L2 => [])
    fol (by kernel_rfl) (fun _ => by kernel_rfl) (fun L2 => trivial) (fun L2 => ?_)
  refine aw_block ?_
  refine aw_rounds 5 ?_
  refine aw_round ?_
  refine aw_sr [⟨.pure, [], none, true⟩]
    (fun L3 => ⟨[aS b1 0 4 4, aU, aI 0, aU, aU, aS b1 0 4 4, aI 4, aI 0, aT, aU, aU, aU, aU, aU, aU], [.blk (b1) [aN 0, aN 0, aN 0, aN 0] 25 false], []⟩)
    (fun L3 => [])
    fol (by kernel_rfl) (fun _ => by kernel_rfl) (fun L3 => trivial) (fun L3 => ?_)
  refine aw_seq ?_
  refine aw_true (true) rfl rfl ?_
  refine aw_skip ?_
  refine nrm_thn ?_
  refine aw_seq ?_
  refine aw_block ?_
  refine aw_sr [⟨.pure, [], none, true⟩, ⟨(.read 0), [0], none, true⟩, ⟨.pure, [0, 1], none, true⟩]
    (fun L4 => ⟨[aS b1 0 4 4, aU, aI 0, aU, aI 0, aS b1 0 4 4, aI 4, aI 0, aT, aP b1 0, aI 0, aU, aU, aU, aU], [.blk (b1) [aN 0, aN 0, aN 0, aN 0] 25 false], []⟩)
    (fun L4 => [b1 = b1])
    fol (by kernel_rfl) (fun _ => by kernel_rfl) (fun L4 => ⟨rfl, trivial⟩) (fun L4 => ?_)
  refine aw_sr [⟨.pure, [], none, true⟩, ⟨.pure, [0], none, true⟩]
    (fun L5 => ⟨[aS b1 0 4 4, aU, aI 0, aU, aI 0, aS b1 0 4 4, aI 4, aI 0, aT, aP b1 0, aI 0, aI 0, aF, aU, aU], [.blk (b1) [aN 0, aN 0, aN 0, aN 0] 25 false], []⟩)
    (fun L5 => [])
    fol (by kernel_rfl) (fun _ => by kernel_rfl) (fun L5 => trivial) (fun L5 => ?_)
  refine aw_false (false) rfl rfl ?_
  refine aw_skip ?_
  refine nrm_inB ?_
  refine nrm_thn ?_
  refine aw_region [⟨.pure, [], none, true⟩, ⟨.pure, [0], none, true⟩]
    (fun L6 => ⟨[aS b1 0 4 4, aU, aI 0, aU, aI 0, aS b1 0 4 4, aI 4, aI 1, aT, aP b1 0, aI 0, aI 0, aF, aU, aI 1], [.blk (b1) [aN 0, aN 0, aN 0, aN 0] 25 false], []⟩)
    (fun L6 => [])
    fol (by kernel_rfl) (fun _ => by kernel_rfl) (fun L6 => trivial) (fun L6 => ?_)
  refine nrm_thn ?_
  refine aw_round ?_
  refine aw_sr [⟨.pure, [], none, true⟩]
    (fun L7 => ⟨[aS b1 0 4 4, aU, aI 0, aU, aI 0, aS b1 0 4 4, aI 4, aI 1, aT, aP b1 0, aI 0, aI 0, aF, aU, aI 1], [.blk (b1) [aN 0, aN 0, aN 0, aN 0] 25 false], []⟩)
    (fun L7 => [])
    fol (by kernel_rfl) (fun _ => by kernel_rfl) (fun L7 => trivial) (fun L7 => ?_)
  refine aw_seq ?_
  refine aw_true (true) rfl rfl ?_
  refine aw_skip ?_
  refine nrm_thn ?_
  refine aw_seq ?_
  refine aw_block ?_
  refine aw_sr [⟨.pure, [], none, true⟩, ⟨(.read 0), [0], none, true⟩, ⟨.pure, [0, 1], none, true⟩]
    (fun L8 => ⟨[aS b1 0 4 4, aU, aI 0, aU, aI 0, aS b1 0 4 4, aI 4, aI 1, aT, aP b1 1, aI 0, aI 0, aF, aU, aI 1], [.blk (b1) [aN 0, aN 0, aN 0, aN 0] 25 false], []⟩)
    (fun L8 => [b1 = b1])
    fol (by kernel_rfl) (fun _ => by kernel_rfl) (fun L8 => ⟨rfl, trivial⟩) (fun L8 => ?_)
  refine aw_sr [⟨.pure, [], none, true⟩, ⟨.pure, [0], none, true⟩]
    (fun L9 => ⟨[aS b1 0 4 4, aU, aI 0, aU, aI 0, aS b1 0 4 4, aI 4, aI 1, aT, aP b1 1, aI 0, aI 0, aF, aU, aI 1], [.blk (b1) [aN 0, aN 0, aN 0, aN 0] 25 false], []⟩)
    (fun L9 => [])
    fol (by kernel_rfl) (fun _ => by kernel_rfl) (fun L9 => trivial) (fun L9 => ?_)
  refine aw_false (false) rfl rfl ?_
  refine aw_skip ?_
  refine nrm_inB ?_
  refine nrm_thn ?_
  refine aw_region [⟨.pure, [], none, true⟩, ⟨.pure, [0], none, true⟩]
    (fun L10 => ⟨[aS b1 0 4 4, aU, aI 0, aU, aI 0, aS b1 0 4 4, aI 4, aI 2, aT, aP b1 1, aI 0, aI 0, aF, aU, aI 2], [.blk (b1) [aN 0, aN 0, aN 0, aN 0] 25 false], []⟩)
    (fun L10 => [])
    fol (by kernel_rfl) (fun _ => by kernel_rfl) (fun L10 => trivial) (fun L10 => ?_)
  refine nrm_thn ?_
  refine aw_round ?_
  refine aw_sr [⟨.pure, [], none, true⟩]
    (fun L11 => ⟨[aS b1 0 4 4, aU, aI 0, aU, aI 0, aS b1 0 4 4, aI 4, aI 2, aT, aP b1 1, aI 0, aI 0, aF, aU, aI 2], [.blk (b1) [aN 0, aN 0, aN 0, aN 0] 25 false], []⟩)
    (fun L11 => [])
    fol (by kernel_rfl) (fun _ => by kernel_rfl) (fun L11 => trivial) (fun L11 => ?_)
  refine aw_seq ?_
  refine aw_true (true) rfl rfl ?_
  refine aw_skip ?_
  refine nrm_thn ?_
  refine aw_seq ?_
  refine aw_block ?_
  refine aw_sr [⟨.pure, [], none, true⟩, ⟨(.read 0), [0], none, true⟩, ⟨.pure, [0, 1], none, true⟩]
    (fun L12 => ⟨[aS b1 0 4 4, aU, aI 0, aU, aI 0, aS b1 0 4 4, aI 4, aI 2, aT, aP b1 2, aI 0, aI 0, aF, aU, aI 2], [.blk (b1) [aN 0, aN 0, aN 0, aN 0] 25 false], []⟩)
    (fun L12 => [b1 = b1])
    fol (by kernel_rfl) (fun _ => by kernel_rfl) (fun L12 => ⟨rfl, trivial⟩) (fun L12 => ?_)
  refine aw_sr [⟨.pure, [], none, true⟩, ⟨.pure, [0], none, true⟩]
    (fun L13 => ⟨[aS b1 0 4 4, aU, aI 0, aU, aI 0, aS b1 0 4 4, aI 4, aI 2, aT, aP b1 2, aI 0, aI 0, aF, aU, aI 2], [.blk (b1) [aN 0, aN 0, aN 0, aN 0] 25 false], []⟩)
    (fun L13 => [])
    fol (by kernel_rfl) (fun _ => by kernel_rfl) (fun L13 => trivial) (fun L13 => ?_)
  refine aw_false (false) rfl rfl ?_
  refine aw_skip ?_
  refine nrm_inB ?_
  refine nrm_thn ?_
  refine aw_region [⟨.pure, [], none, true⟩, ⟨.pure, [0], none, true⟩]
    (fun L14 => ⟨[aS b1 0 4 4, aU, aI 0, aU, aI 0, aS b1 0 4 4, aI 4, aI 3, aT, aP b1 2, aI 0, aI 0, aF, aU, aI 3], [.blk (b1) [aN 0, aN 0, aN 0, aN 0] 25 false], []⟩)
    (fun L14 => [])
    fol (by kernel_rfl) (fun _ => by kernel_rfl) (fun L14 => trivial) (fun L14 => ?_)
  refine nrm_thn ?_
  refine aw_round ?_
  refine aw_sr [⟨.pure, [], none, true⟩]
    (fun L15 => ⟨[aS b1 0 4 4, aU, aI 0, aU, aI 0, aS b1 0 4 4, aI 4, aI 3, aT, aP b1 2, aI 0, aI 0, aF, aU, aI 3], [.blk (b1) [aN 0, aN 0, aN 0, aN 0] 25 false], []⟩)
    (fun L15 => [])
    fol (by kernel_rfl) (fun _ => by kernel_rfl) (fun L15 => trivial) (fun L15 => ?_)
  refine aw_seq ?_
  refine aw_true (true) rfl rfl ?_
  refine aw_skip ?_
  refine nrm_thn ?_
  refine aw_seq ?_
  refine aw_block ?_
  refine aw_sr [⟨.pure, [], none, true⟩, ⟨(.read 0), [0], none, true⟩, ⟨.pure, [0, 1], none, true⟩]
    (fun L16 => ⟨[aS b1 0 4 4, aU, aI 0, aU, aI 0, aS b1 0 4 4, aI 4, aI 3, aT, aP b1 3, aI 0, aI 0, aF, aU, aI 3], [.blk (b1) [aN 0, aN 0, aN 0, aN 0] 25 false], []⟩)
    (fun L16 => [b1 = b1])
    fol (by kernel_rfl) (fun _ => by kernel_rfl) (fun L16 => ⟨rfl, trivial⟩) (fun L16 => ?_)
  refine aw_sr [⟨.pure, [], none, true⟩, ⟨.pure, [0], none, true⟩]
    (fun L17 => ⟨[aS b1 0 4 4, aU, aI 0, aU, aI 0, aS b1 0 4 4, aI 4, aI 3, aT, aP b1 3, aI 0, aI 0, aF, aU, aI 3], [.blk (b1) [aN 0, aN 0, aN 0, aN 0] 25 false], []⟩)
    (fun L17 => [])
    fol (by kernel_rfl) (fun _ => by kernel_rfl) (fun L17 => trivial) (fun L17 => ?_)
  refine aw_false (false) rfl rfl ?_
  refine aw_skip ?_
  refine nrm_inB ?_
  refine nrm_thn ?_
  refine aw_region [⟨.pure, [], none, true⟩, ⟨.pure, [0], none, true⟩]
    (fun L18 => ⟨[aS b1 0 4 4, aU, aI 0, aU, aI 0, aS b1 0 4 4, aI 4, aI 4, aT, aP b1 3, aI 0, aI 0, aF, aU, aI 4], [.blk (b1) [aN 0, aN 0, aN 0, aN 0] 25 false], []⟩)
    (fun L18 => [])
    fol (by kernel_rfl) (fun _ => by kernel_rfl) (fun L18 => trivial) (fun L18 => ?_)
  refine nrm_thn ?_
  refine aw_round ?_
  refine aw_sr [⟨.pure, [], none, true⟩]
    (fun L19 => ⟨[aS b1 0 4 4, aU, aI 0, aU, aI 0, aS b1 0 4 4, aI 4, aI 4, aF, aP b1 3, aI 0, aI 0, aF, aU, aI 4], [.blk (b1) [aN 0, aN 0, aN 0, aN 0] 25 false], []⟩)
    (fun L19 => [])
    fol (by kernel_rfl) (fun _ => by kernel_rfl) (fun L19 => trivial) (fun L19 => ?_)
  refine aw_seq ?_
  refine aw_false (false) rfl rfl ?_
  refine aw_exit ?_
  refine ex_thn ?_
  refine ex_thn ?_
  refine ex_hit ?_
  refine nrm_thn ?_
  refine aw_sr [⟨.pure, [], none, true⟩]
    (fun L20 => ⟨[aS b1 0 4 4, aU, aI 0, aU, aI 0, aS b1 0 4 4, aI 4, aI 4, aF, aP b1 3, aI 0, aI 0, aF, aU, aI 4], [.blk (b1) [aN 0, aN 0, aN 0, aN 0] 25 false], []⟩)
    (fun L20 => [])
    fol (by kernel_rfl) (fun _ => by kernel_rfl) (fun L20 => trivial) (fun L20 => ?_)
  refine aw_ret ?_
  exact fin_ret none [0] (aN 0) [] (.inr rfl) rfl (by kernel_rfl) trivial (fun w' hb => ⟨rfl, hb⟩)

-- (couplant/tune.procedure).untils
set_option maxRecDepth 100000 in
set_option maxHeartbeats 400000 in
theorem UA.i_130 (b1 b2 : Nat) : CallN Try.prog 124 #[.slice (some ⟨b1, 0, none⟩) (2) (2)] [.blk (b1) [.string (ByteArray.mk #[119, 101, 100, 103, 101]), aN 100, aN 50, .slice none 0 0, .bool (false), aN 0, aN 0, aN 0, .string (ByteArray.mk #[103, 97, 105, 110]), aN 50, aN 50, .slice (some ⟨b2, 0, none⟩) (1) (1), .bool (false), aN 0, aN 0, aN 0] 179 false, .blk (b2) [aN 0] 3 false] (fun l => .slice (some ⟨l.b, 0, none⟩) (2) (2)) (fun l => .blk (l.b) [aN (-1), aN (-1)] 3 true) := by
  intro w hw
  refine calls_aw [aS b1 0 2 2, aU, aU, aU, aU, aU, aU, aU, aU, aU, aU, aU, aU, aU, aU, aU, aU, aU, aU, aU, aU, aU, aU, aU, aU, aU, aU, aU, aU, aU, aU, aU, aU, aU, aU, aU, aU, aU, aU, aU, aU, aU, aU, aU, aU, aU, aU, aU, aU, aU, aU, aU, aU, aU, aU, aU] [.blk (b1) [.string (ByteArray.mk #[119, 101, 100, 103, 101]), aN 100, aN 50, .slice none 0 0, .bool (false), aN 0, aN 0, aN 0, .string (ByteArray.mk #[103, 97, 105, 110]), aN 50, aN 50, .slice (some ⟨b2, 0, none⟩) (1) (1), .bool (false), aN 0, aN 0, aN 0] 179 false, .blk (b2) [aN 0] 3 false] Try.func124 rfl (by kernel_rfl) (esOk hw (by simp [Cel.mine])) ?_
  refine aw_sr [⟨.pure, [], none, true⟩]
    (fun L1 => ⟨[aS b1 0 2 2, aU, some (.slice none 0 0), aU, aU, aU, aU, aU, aU, aU, aU, aU, aU, aU, aU, aU, aU, aU, aU, aU, aU, aU, aU, aU, aU, aU, aU, aU, aU, aU, aU, aU, aU, aU, aU, aU, aU, aU, aU, aU, aU, aU, aU, aU, aU, aU, aU, aU, aU, aU, aU, aU, aU, aU, aU, aU], [.blk (b1) [.string (ByteArray.mk #[119, 101, 100, 103, 101]), aN 100, aN 50, .slice none 0 0, .bool (false), aN 0, aN 0, aN 0, .string (ByteArray.mk #[103, 97, 105, 110]), aN 50, aN 50, .slice (some ⟨b2, 0, none⟩) (1) (1), .bool (false), aN 0, aN 0, aN 0] 179 false, .blk (b2) [aN 0] 3 false], []⟩)
    (fun L1 => [])
    fol (by kernel_rfl) (fun _ => by kernel_rfl) (fun L1 => trivial) (fun L1 => ?_)
  refine aw_sr [⟨.pure, [], none, true⟩, ⟨.pure, [0], none, true⟩, ⟨.new, [0, 1], none, true⟩, ⟨.pure, [0, 1, 2], none, true⟩]
    (fun L2 => ⟨[aS b1 0 2 2, aU, some (.slice none 0 0), aS (L2 2).b 0 2 2, aU, aU, aU, aU, aS b1 0 2 2, aI 2, aS (L2 2).b 0 2 2, aU, aU, aU, aU, aU, aU, aU, aU, aU, aU, aU, aU, aU, aU, aU, aU, aU, aU, aU, aU, aU, aU, aU, aU, aU, aU, aU, aU, aU, aU, aU, aU, aU, aU, aU, aU, aU, aU, aU, aU, aU, aU, aU, aU, aU], [.blk (b1) [.string (ByteArray.mk #[119, 101, 100, 103, 101]), aN 100, aN 50, .slice none 0 0, .bool (false), aN 0, aN 0, aN 0, .string (ByteArray.mk #[103, 97, 105, 110]), aN 50, aN 50, .slice (some ⟨b2, 0, none⟩) (1) (1), .bool (false), aN 0, aN 0, aN 0] 179 false, .blk (b2) [aN 0] 3 false, .blk ((L2 2).b) [aN 0, aN 0] 3 true], []⟩)
    (fun L2 => [])
    fol (by kernel_rfl) (fun _ => by kernel_rfl) (fun L2 => trivial) (fun L2 => ?_)
  refine aw_seq ?_
  refine aw_sr [⟨.pure, [], none, true⟩, ⟨.pure, [0], none, true⟩, ⟨.pure, [], none, true⟩]
    (fun L3 => ⟨[aS b1 0 2 2, aU, some (.slice none 0 0), aS (L2 2).b 0 2 2, aU, aU, aU, aU, aS b1 0 2 2, aI 2, aS (L2 2).b 0 2 2, aS b1 0 2 2, aI 2, aI 0, aU, aU, aU, aU, aU, aU, aU, aU, aU, aU, aU, aU, aU, aU, aU, aU, aU, aU, aU, aU, aU, aU, aU, aU, aU, aU, aU, aU, aU, aU, aU, aU, aU, aU, aU, aU, aU, aU, aU, aU, aU, aU], [.blk (b1) [.string (ByteArray.mk #[119, 101, 100, 103, 101]), aN 100, aN 50, .slice none 0 0, .bool (false), aN 0, aN 0, aN 0, .string (ByteArray.mk #[103, 97, 105, 110]), aN 50, aN 50, .slice (some ⟨b2, 0, none⟩) (1) (1), .bool (false), aN 0, aN 0, aN 0] 179 false, .blk (b2) [aN 0] 3 false, .blk ((L2 2).b) [aN 0, aN 0] 3 true], []⟩)
    (fun L3 => [])
    fol (by kernel_rfl) (fun _ => by kernel_rfl) (fun L3 => trivial) (fun L3 => ?_)
  refine aw_block ?_
  refine aw_rounds 3 ?_
  refine aw_round ?_
  refine aw_sr [⟨.pure, [], none, true⟩]
    (fun L4 => ⟨[aS b1 0 2 2, aU, some (.slice none 0 0), aS (L2 2).b 0 2 2, aU, aU, aU, aU, aS b1 0 2 2, aI 2, aS (L2 2).b 0 2 2, aS b1 0 2 2, aI 2, aI 0, aT, aU, aU, aU, aU, aU, aU, aU, aU, aU, aU, aU, aU, aU, aU, aU, aU, aU, aU, aU, aU, aU, aU, aU, aU, aU, aU, aU, aU, aU, aU, aU, aU, aU, aU, aU, aU, aU, aU, aU, aU, aU], [.blk (b1) [.string (ByteArray.mk #[119, 101, 100, 103, 101]), aN 100, aN 50, .slice none 0 0, .bool (false), aN 0, aN 0, aN 0, .string (ByteArray.mk #[103, 97, 105, 110]), aN 50, aN 50, .slice (some ⟨b2, 0, none⟩) (1) (1), .bool (false), aN 0, aN 0, aN 0] 179 false, .blk (b2) [aN 0] 3 false, .blk ((L2 2).b) [aN 0, aN 0] 3 true], []⟩)
    (fun L4 => [])
    fol (by kernel_rfl) (fun _ => by kernel_rfl) (fun L4 => trivial) (fun L4 => ?_)
  refine aw_seq ?_
  refine aw_true (true) rfl rfl ?_
  refine aw_skip ?_
  refine nrm_thn ?_
  refine aw_seq ?_
  refine aw_block ?_
  refine aw_sr [⟨.pure, [], none, true⟩, ⟨.pure, [], none, true⟩, ⟨(.read 0), [1], none, true⟩, ⟨.new, [], none, true⟩, ⟨.pure, [0, 1, 2, 3], none, true⟩, ⟨(.write 6), [0, 1, 2, 3, 4], none, true⟩]
    (fun L5 => ⟨[aS b1 0 2 2, aU, some (.slice none 0 0), aS (L2 2).b 0 2 2, aI 0, aP (L5 3).b 0, aU, aU, aS b1 0 2 2, aI 2, aS (L2 2).b 0 2 2, aS b1 0 2 2, aI 2, aI 0, aT, aI 0, aP b1 0, some (.agg #[.string (ByteArray.mk #[119, 101, 100, 103, 101]), aN 100, aN 50, .slice none 0 0, .bool (false), aN 0, aN 0, aN 0]), aU, aU, aU, aU, aU, aU, aU, aU, aU, aU, aU, aU, aU, aU, aU, aU, aU, aU, aU, aU, aU, aU, aU, aU, aU, aU, aU, aU, aU, aU, aU, aU, aU, aU, aU, aU, aU, aU], [.blk (b1) [.string (ByteArray.mk #[119, 101, 100, 103, 101]), aN 100, aN 50, .slice none 0 0, .bool (false), aN 0, aN 0, aN 0, .string (ByteArray.mk #[103, 97, 105, 110]), aN 50, aN 50, .slice (some ⟨b2, 0, none⟩) (1) (1), .bool (false), aN 0, aN 0, aN 0] 179 false, .blk (b2) [aN 0] 3 false, .blk ((L2 2).b) [aN 0, aN 0] 3 true, .blk ((L5 3).b) [.string (ByteArray.mk #[119, 101, 100, 103, 101]), aN 100, aN 50, .slice none 0 0, .bool (false), aN 0, aN 0, aN 0] 179 true], []⟩)
    (fun L5 => [b1 = b1, 0 + 8 ≤ 16, (L5 3).b = (L5 3).b, 0 + 8 ≤ 8, 8 = 8, true = true])
    fol (by kernel_rfl) (fun _ => by kernel_rfl) (fun L5 => ⟨rfl, (by decide), rfl, (by decide), rfl, rfl, trivial⟩) (fun L5 => ?_)
  refine aw_sr [⟨.pure, [], none, true⟩, ⟨.pure, [], none, true⟩, ⟨.pure, [0, 1], none, true⟩, ⟨(.write 2), [0, 1, 2], none, true⟩]
    (fun L6 => ⟨[aS b1 0 2 2, aU, some (.slice none 0 0), aS (L2 2).b 0 2 2, aI 0, aP (L5 3).b 0, aU, aU, aS b1 0 2 2, aI 2, aS (L2 2).b 0 2 2, aS b1 0 2 2, aI 2, aI 0, aT, aI 0, aP b1 0, some (.agg #[.string (ByteArray.mk #[119, 101, 100, 103, 101]), aN 100, aN 50, .slice none 0 0, .bool (false), aN 0, aN 0, aN 0]), aS (L2 2).b 0 2 2, aI 0, aP (L2 2).b 0, aU, aU, aU, aU, aU, aU, aU, aU, aU, aU, aU, aU, aU, aU, aU, aU, aU, aU, aU, aU, aU, aU, aU, aU, aU, aU, aU, aU, aU, aU, aU, aU, aU, aU, aU], [.blk (b1) [.string (ByteArray.mk #[119, 101, 100, 103, 101]), aN 100, aN 50, .slice none 0 0, .bool (false), aN 0, aN 0, aN 0, .string (ByteArray.mk #[103, 97, 105, 110]), aN 50, aN 50, .slice (some ⟨b2, 0, none⟩) (1) (1), .bool (false), aN 0, aN 0, aN 0] 179 false, .blk (b2) [aN 0] 3 false, .blk ((L2 2).b) [aN (-1), aN 0] 3 true, .blk ((L5 3).b) [.string (ByteArray.mk #[119, 101, 100, 103, 101]), aN 100, aN 50, .slice none 0 0, .bool (false), aN 0, aN 0, aN 0] 179 true], []⟩)
    (fun L6 => [(L2 2).b = (L2 2).b, 0 + 1 ≤ 2, 1 = 1, true = true])
    fol (by kernel_rfl) (fun _ => by kernel_rfl) (fun L6 => ⟨rfl, (by decide), rfl, rfl, trivial⟩) (fun L6 => ?_)
  refine aw_seq ?_
  refine aw_sr [⟨.pure, [], none, true⟩, ⟨(.read 3), [0], none, true⟩]
    (fun L7 => ⟨[aS b1 0 2 2, aU, some (.slice none 0 0), aS (L2 2).b 0 2 2, aI 0, aP (L5 3).b 0, aU, aU, aS b1 0 2 2, aI 2, aS (L2 2).b 0 2 2, aS b1 0 2 2, aI 2, aI 0, aT, aI 0, aP b1 0, some (.agg #[.string (ByteArray.mk #[119, 101, 100, 103, 101]), aN 100, aN 50, .slice none 0 0, .bool (false), aN 0, aN 0, aN 0]), aS (L2 2).b 0 2 2, aI 0, aP (L2 2).b 0, aP (L5 3).b 4, aF, aU, aU, aU, aU, aU, aU, aU, aU, aU, aU, aU, aU, aU, aU, aU, aU, aU, aU, aU, aU, aU, aU, aU, aU, aU, aU, aU, aU, aU, aU, aU, aU, aU], [.blk (b1) [.string (ByteArray.mk #[119, 101, 100, 103, 101]), aN 100, aN 50, .slice none 0 0, .bool (false), aN 0, aN 0, aN 0, .string (ByteArray.mk #[103, 97, 105, 110]), aN 50, aN 50, .slice (some ⟨b2, 0, none⟩) (1) (1), .bool (false), aN 0, aN 0, aN 0] 179 false, .blk (b2) [aN 0] 3 false, .blk ((L2 2).b) [aN (-1), aN 0] 3 true, .blk ((L5 3).b) [.string (ByteArray.mk #[119, 101, 100, 103, 101]), aN 100, aN 50, .slice none 0 0, .bool (false), aN 0, aN 0, aN 0] 179 true], []⟩)
    (fun L7 => [(L5 3).b = (L5 3).b])
    fol (by kernel_rfl) (fun _ => by kernel_rfl) (fun L7 => ⟨rfl, trivial⟩) (fun L7 => ?_)
  refine aw_false (false) rfl rfl ?_
  refine aw_skip ?_
  refine nrm_thn ?_
  refine aw_sr [⟨.pure, [], none, true⟩, ⟨.pure, [0], none, true⟩, ⟨(.read 3), [0, 1], none, true⟩, ⟨.pure, [0, 1, 2], none, true⟩, ⟨.pure, [], none, true⟩]
    (fun L8 => ⟨[aS b1 0 2 2, aU, some (.slice none 0 0), aS (L2 2).b 0 2 2, aI 0, aP (L5 3).b 0, aU, aU, aS b1 0 2 2, aI 2, aS (L2 2).b 0 2 2, aS b1 0 2 2, aI 2, aI 0, aT, aI 0, aP b1 0, some (.agg #[.string (ByteArray.mk #[119, 101, 100, 103, 101]), aN 100, aN 50, .slice none 0 0, .bool (false), aN 0, aN 0, aN 0]), aS (L2 2).b 0 2 2, aI 0, aP (L2 2).b 0, aP (L5 3).b 4, aF, aU, aU, aU, aU, aU, aU, aU, aU, aU, aU, aP (L5 3).b 0, aP (L5 3).b 3, some (.slice none 0 0), aI 0, aI 0, aU, aU, aU, aU, aU, aU, aU, aU, aU, aU, aU, aU, aU, aU, aU, aU, aU, aU], [.blk (b1) [.string (ByteArray.mk #[119, 101, 100, 103, 101]), aN 100, aN 50, .slice none 0 0, .bool (false), aN 0, aN 0, aN 0, .string (ByteArray.mk #[103, 97, 105, 110]), aN 50, aN 50, .slice (some ⟨b2, 0, none⟩) (1) (1), .bool (false), aN 0, aN 0, aN 0] 179 false, .blk (b2) [aN 0] 3 false, .blk ((L2 2).b) [aN (-1), aN 0] 3 true, .blk ((L5 3).b) [.string (ByteArray.mk #[119, 101, 100, 103, 101]), aN 100, aN 50, .slice none 0 0, .bool (false), aN 0, aN 0, aN 0] 179 true], []⟩)
    (fun L8 => [(L5 3).b = (L5 3).b])
    fol (by kernel_rfl) (fun _ => by kernel_rfl) (fun L8 => ⟨rfl, trivial⟩) (fun L8 => ?_)
  refine aw_block ?_
  refine aw_rounds 1 ?_
  refine aw_round ?_
  refine aw_sr [⟨.pure, [], none, true⟩]
    (fun L9 => ⟨[aS b1 0 2 2, aU, some (.slice none 0 0), aS (L2 2).b 0 2 2, aI 0, aP (L5 3).b 0, aU, aU, aS b1 0 2 2, aI 2, aS (L2 2).b 0 2 2, aS b1 0 2 2, aI 2, aI 0, aT, aI 0, aP b1 0, some (.agg #[.string (ByteArray.mk #[119, 101, 100, 103, 101]), aN 100, aN 50, .slice none 0 0, .bool (false), aN 0, aN 0, aN 0]), aS (L2 2).b 0 2 2, aI 0, aP (L2 2).b 0, aP (L5 3).b 4, aF, aU, aU, aU, aU, aU, aU, aU, aU, aU, aU, aP (L5 3).b 0, aP (L5 3).b 3, some (.slice none 0 0), aI 0, aI 0, aF, aU, aU, aU, aU, aU, aU, aU, aU, aU, aU, aU, aU, aU, aU, aU, aU, aU], [.blk (b1) [.string (ByteArray.mk #[119, 101, 100, 103, 101]), aN 100, aN 50, .slice none 0 0, .bool (false), aN 0, aN 0, aN 0, .string (ByteArray.mk #[103, 97, 105, 110]), aN 50, aN 50, .slice (some ⟨b2, 0, none⟩) (1) (1), .bool (false), aN 0, aN 0, aN 0] 179 false, .blk (b2) [aN 0] 3 false, .blk ((L2 2).b) [aN (-1), aN 0] 3 true, .blk ((L5 3).b) [.string (ByteArray.mk #[119, 101, 100, 103, 101]), aN 100, aN 50, .slice none 0 0, .bool (false), aN 0, aN 0, aN 0] 179 true], []⟩)
    (fun L9 => [])
    fol (by kernel_rfl) (fun _ => by kernel_rfl) (fun L9 => trivial) (fun L9 => ?_)
  refine aw_seq ?_
  refine aw_false (false) rfl rfl ?_
  refine aw_exit ?_
  refine ex_thn ?_
  refine ex_thn ?_
  refine ex_hit ?_
  refine nrm_inB ?_
  refine nrm_thn ?_
  refine aw_region [⟨.pure, [], none, true⟩, ⟨.pure, [0], none, true⟩]
    (fun L10 => ⟨[aS b1 0 2 2, aU, some (.slice none 0 0), aS (L2 2).b 0 2 2, aI 0, aP (L5 3).b 0, aU, aU, aS b1 0 2 2, aI 2, aS (L2 2).b 0 2 2, aS b1 0 2 2, aI 2, aI 1, aT, aI 0, aP b1 0, some (.agg #[.string (ByteArray.mk #[119, 101, 100, 103, 101]), aN 100, aN 50, .slice none 0 0, .bool (false), aN 0, aN 0, aN 0]), aS (L2 2).b 0 2 2, aI 0, aP (L2 2).b 0, aP (L5 3).b 4, aF, aU, aU, aU, aU, aU, aU, aU, aU, aU, aU, aP (L5 3).b 0, aP (L5 3).b 3, some (.slice none 0 0), aI 0, aI 0, aF, aU, aU, aU, aU, aU, aU, aU, aU, aU, aU, aU, aU, aU, aU, aU, aI 1, aU], [.blk (b1) [.string (ByteArray.mk #[119, 101, 100, 103, 101]), aN 100, aN 50, .slice none 0 0, .bool (false), aN 0, aN 0, aN 0, .string (ByteArray.mk #[103, 97, 105, 110]), aN 50, aN 50, .slice (some ⟨b2, 0, none⟩) (1) (1), .bool (false), aN 0, aN 0, aN 0] 179 false, .blk (b2) [aN 0] 3 false, .blk ((L2 2).b) [aN (-1), aN 0] 3 true, .blk ((L5 3).b) [.string (ByteArray.mk #[119, 101, 100, 103, 101]), aN 100, aN 50, .slice none 0 0, .bool (false), aN 0, aN 0, aN 0] 179 true], []⟩)
    (fun L10 => [])
    fol (by kernel_rfl) (fun _ => by kernel_rfl) (fun L10 => trivial) (fun L10 => ?_)
  refine nrm_thn ?_
  refine aw_round ?_
  refine aw_sr [⟨.pure, [], none, true⟩]
    (fun L11 => ⟨[aS b1 0 2 2, aU, some (.slice none 0 0), aS (L2 2).b 0 2 2, aI 0, aP (L5 3).b 0, aU, aU, aS b1 0 2 2, aI 2, aS (L2 2).b 0 2 2, aS b1 0 2 2, aI 2, aI 1, aT, aI 0, aP b1 0, some (.agg #[.string (ByteArray.mk #[119, 101, 100, 103, 101]), aN 100, aN 50, .slice none 0 0, .bool (false), aN 0, aN 0, aN 0]), aS (L2 2).b 0 2 2, aI 0, aP (L2 2).b 0, aP (L5 3).b 4, aF, aU, aU, aU, aU, aU, aU, aU, aU, aU, aU, aP (L5 3).b 0, aP (L5 3).b 3, some (.slice none 0 0), aI 0, aI 0, aF, aU, aU, aU, aU, aU, aU, aU, aU, aU, aU, aU, aU, aU, aU, aU, aI 1, aU], [.blk (b1) [.string (ByteArray.mk #[119, 101, 100, 103, 101]), aN 100, aN 50, .slice none 0 0, .bool (false), aN 0, aN 0, aN 0, .string (ByteArray.mk #[103, 97, 105, 110]), aN 50, aN 50, .slice (some ⟨b2, 0, none⟩) (1) (1), .bool (false), aN 0, aN 0, aN 0] 179 false, .blk (b2) [aN 0] 3 false, .blk ((L2 2).b) [aN (-1), aN 0] 3 true, .blk ((L5 3).b) [.string (ByteArray.mk #[119, 101, 100, 103, 101]), aN 100, aN 50, .slice none 0 0, .bool (false), aN 0, aN 0, aN 0] 179 true], []⟩)
    (fun L11 => [])
    fol (by kernel_rfl) (fun _ => by kernel_rfl) (fun L11 => trivial) (fun L11 => ?_)
  refine aw_seq ?_
  refine aw_true (true) rfl rfl ?_
  refine aw_skip ?_
  refine nrm_thn ?_
  refine aw_seq ?_
  refine aw_block ?_
  refine aw_sr [⟨.pure, [], none, true⟩, ⟨.pure, [], none, true⟩, ⟨(.read 0), [1], none, true⟩, ⟨.new, [], none, true⟩, ⟨.pure, [0, 1, 2, 3], none, true⟩, ⟨(.write 7), [0, 1, 2, 3, 4], none, true⟩]
    (fun L12 => ⟨[aS b1 0 2 2, aU, some (.slice none 0 0), aS (L2 2).b 0 2 2, aI 1, aP (L12 3).b 0, aU, aU, aS b1 0 2 2, aI 2, aS (L2 2).b 0 2 2, aS b1 0 2 2, aI 2, aI 1, aT, aI 1, aP b1 8, some (.agg #[.string (ByteArray.mk #[103, 97, 105, 110]), aN 50, aN 50, .slice (some ⟨b2, 0, none⟩) (1) (1), .bool (false), aN 0, aN 0, aN 0]), aS (L2 2).b 0 2 2, aI 0, aP (L2 2).b 0, aP (L5 3).b 4, aF, aU, aU, aU, aU, aU, aU, aU, aU, aU, aU, aP (L5 3).b 0, aP (L5 3).b 3, some (.slice none 0 0), aI 0, aI 0, aF, aU, aU, aU, aU, aU, aU, aU, aU, aU, aU, aU, aU, aU, aU, aU, aI 1, aU], [.blk (b1) [.string (ByteArray.mk #[119, 101, 100, 103, 101]), aN 100, aN 50, .slice none 0 0, .bool (false), aN 0, aN 0, aN 0, .string (ByteArray.mk #[103, 97, 105, 110]), aN 50, aN 50, .slice (some ⟨b2, 0, none⟩) (1) (1), .bool (false), aN 0, aN 0, aN 0] 179 false, .blk (b2) [aN 0] 3 false, .blk ((L2 2).b) [aN (-1), aN 0] 3 true, .blk ((L5 3).b) [.string (ByteArray.mk #[119, 101, 100, 103, 101]), aN 100, aN 50, .slice none 0 0, .bool (false), aN 0, aN 0, aN 0] 179 true, .blk ((L12 3).b) [.string (ByteArray.mk #[103, 97, 105, 110]), aN 50, aN 50, .slice (some ⟨b2, 0, none⟩) (1) (1), .bool (false), aN 0, aN 0, aN 0] 179 true], []⟩)
    (fun L12 => [b1 = b1, 8 + 8 ≤ 16, (L12 3).b = (L12 3).b, 0 + 8 ≤ 8, 8 = 8, true = true])
    fol (by kernel_rfl) (fun _ => by kernel_rfl) (fun L12 => ⟨rfl, (by decide), rfl, (by decide), rfl, rfl, trivial⟩) (fun L12 => ?_)
  refine aw_sr [⟨.pure, [], none, true⟩, ⟨.pure, [], none, true⟩, ⟨.pure, [0, 1], none, true⟩, ⟨(.write 2), [0, 1, 2], none, true⟩]
    (fun L13 => ⟨[aS b1 0 2 2, aU, some (.slice none 0 0), aS (L2 2).b 0 2 2, aI 1, aP (L12 3).b 0, aU, aU, aS b1 0 2 2, aI 2, aS (L2 2).b 0 2 2, aS b1 0 2 2, aI 2, aI 1, aT, aI 1, aP b1 8, some (.agg #[.string (ByteArray.mk #[103, 97, 105, 110]), aN 50, aN 50, .slice (some ⟨b2, 0, none⟩) (1) (1), .bool (false), aN 0, aN 0, aN 0]), aS (L2 2).b 0 2 2, aI 1, aP (L2 2).b 1, aP (L5 3).b 4, aF, aU, aU, aU, aU, aU, aU, aU, aU, aU, aU, aP (L5 3).b 0, aP (L5 3).b 3, some (.slice none 0 0), aI 0, aI 0, aF, aU, aU, aU, aU, aU, aU, aU, aU, aU, aU, aU, aU, aU, aU, aU, aI 1, aU], [.blk (b1) [.string (ByteArray.mk #[119, 101, 100, 103, 101]), aN 100, aN 50, .slice none 0 0, .bool (false), aN 0, aN 0, aN 0, .string (ByteArray.mk #[103, 97, 105, 110]), aN 50, aN 50, .slice (some ⟨b2, 0, none⟩) (1) (1), .bool (false), aN 0, aN 0, aN 0] 179 false, .blk (b2) [aN 0] 3 false, .blk ((L2 2).b) [aN (-1), aN (-1)] 3 true, .blk ((L5 3).b) [.string (ByteArray.mk #[119, 101, 100, 103, 101]), aN 100, aN 50, .slice none 0 0, .bool (false), aN 0, aN 0, aN 0] 179 true, .blk ((L12 3).b) [.string (ByteArray.mk #[103, 97, 105, 110]), aN 50, aN 50, .slice (some ⟨b2, 0, none⟩) (1) (1), .bool (false), aN 0, aN 0, aN 0] 179 true], []⟩)
    (fun L13 => [(L2 2).b = (L2 2).b, 1 + 1 ≤ 2, 1 = 1, true = true])
    fol (by kernel_rfl) (fun _ => by kernel_rfl) (fun L13 => ⟨rfl, (by decide), rfl, rfl, trivial⟩) (fun L13 => ?_)
  refine aw_seq ?_
  refine aw_sr [⟨.pure, [], none, true⟩, ⟨(.read 4), [0], none, true⟩]
    (fun L14 => ⟨[aS b1 0 2 2, aU, some (.slice none 0 0), aS (L2 2).b 0 2 2, aI 1, aP (L12 3).b 0, aU, aU, aS b1 0 2 2, aI 2, aS (L2 2).b 0 2 2, aS b1 0 2 2, aI 2, aI 1, aT, aI 1, aP b1 8, some (.agg #[.string (ByteArray.mk #[103, 97, 105, 110]), aN 50, aN 50, .slice (some ⟨b2, 0, none⟩) (1) (1), .bool (false), aN 0, aN 0, aN 0]), aS (L2 2).b 0 2 2, aI 1, aP (L2 2).b 1, aP (L12 3).b 4, aF, aU, aU, aU, aU, aU, aU, aU, aU, aU, aU, aP (L5 3).b 0, aP (L5 3).b 3, some (.slice none 0 0), aI 0, aI 0, aF, aU, aU, aU, aU, aU, aU, aU, aU, aU, aU, aU, aU, aU, aU, aU, aI 1, aU], [.blk (b1) [.string (ByteArray.mk #[119, 101, 100, 103, 101]), aN 100, aN 50, .slice none 0 0, .bool (false), aN 0, aN 0, aN 0, .string (ByteArray.mk #[103, 97, 105, 110]), aN 50, aN 50, .slice (some ⟨b2, 0, none⟩) (1) (1), .bool (false), aN 0, aN 0, aN 0] 179 false, .blk (b2) [aN 0] 3 false, .blk ((L2 2).b) [aN (-1), aN (-1)] 3 true, .blk ((L5 3).b) [.string (ByteArray.mk #[119, 101, 100, 103, 101]), aN 100, aN 50, .slice none 0 0, .bool (false), aN 0, aN 0, aN 0] 179 true, .blk ((L12 3).b) [.string (ByteArray.mk #[103, 97, 105, 110]), aN 50, aN 50, .slice (some ⟨b2, 0, none⟩) (1) (1), .bool (false), aN 0, aN 0, aN 0] 179 true], []⟩)
    (fun L14 => [(L12 3).b = (L12 3).b])
    fol (by kernel_rfl) (fun _ => by kernel_rfl) (fun L14 => ⟨rfl, trivial⟩) (fun L14 => ?_)
  refine aw_false (false) rfl rfl ?_
  refine aw_skip ?_
  refine nrm_thn ?_
  refine aw_sr [⟨.pure, [], none, true⟩, ⟨.pure, [0], none, true⟩, ⟨(.read 4), [0, 1], none, true⟩, ⟨.pure, [0, 1, 2], none, true⟩, ⟨.pure, [], none, true⟩]
    (fun L15 => ⟨[aS b1 0 2 2, aU, some (.slice none 0 0), aS (L2 2).b 0 2 2, aI 1, aP (L12 3).b 0, aU, aU, aS b1 0 2 2, aI 2, aS (L2 2).b 0 2 2, aS b1 0 2 2, aI 2, aI 1, aT, aI 1, aP b1 8, some (.agg #[.string (ByteArray.mk #[103, 97, 105, 110]), aN 50, aN 50, .slice (some ⟨b2, 0, none⟩) (1) (1), .bool (false), aN 0, aN 0, aN 0]), aS (L2 2).b 0 2 2, aI 1, aP (L2 2).b 1, aP (L12 3).b 4, aF, aU, aU, aU, aU, aU, aU, aU, aU, aU, aU, aP (L12 3).b 0, aP (L12 3).b 3, aS b2 0 1 1, aI 1, aI 0, aF, aU, aU, aU, aU, aU, aU, aU, aU, aU, aU, aU, aU, aU, aU, aU, aI 1, aU], [.blk (b1) [.string (ByteArray.mk #[119, 101, 100, 103, 101]), aN 100, aN 50, .slice none 0 0, .bool (false), aN 0, aN 0, aN 0, .string (ByteArray.mk #[103, 97, 105, 110]), aN 50, aN 50, .slice (some ⟨b2, 0, none⟩) (1) (1), .bool (false), aN 0, aN 0, aN 0] 179 false, .blk (b2) [aN 0] 3 false, .blk ((L2 2).b) [aN (-1), aN (-1)] 3 true, .blk ((L5 3).b) [.string (ByteArray.mk #[119, 101, 100, 103, 101]), aN 100, aN 50, .slice none 0 0, .bool (false), aN 0, aN 0, aN 0] 179 true, .blk ((L12 3).b) [.string (ByteArray.mk #[103, 97, 105, 110]), aN 50, aN 50, .slice (some ⟨b2, 0, none⟩) (1) (1), .bool (false), aN 0, aN 0, aN 0] 179 true], []⟩)
    (fun L15 => [(L12 3).b = (L12 3).b])
    fol (by kernel_rfl) (fun _ => by kernel_rfl) (fun L15 => ⟨rfl, trivial⟩) (fun L15 => ?_)
  refine aw_block ?_
  refine aw_rounds 2 ?_
  refine aw_round ?_
  refine aw_sr [⟨.pure, [], none, true⟩]
    (fun L16 => ⟨[aS b1 0 2 2, aU, some (.slice none 0 0), aS (L2 2).b 0 2 2, aI 1, aP (L12 3).b 0, aU, aU, aS b1 0 2 2, aI 2, aS (L2 2).b 0 2 2, aS b1 0 2 2, aI 2, aI 1, aT, aI 1, aP b1 8, some (.agg #[.string (ByteArray.mk #[103, 97, 105, 110]), aN 50, aN 50, .slice (some ⟨b2, 0, none⟩) (1) (1), .bool (false), aN 0, aN 0, aN 0]), aS (L2 2).b 0 2 2, aI 1, aP (L2 2).b 1, aP (L12 3).b 4, aF, aU, aU, aU, aU, aU, aU, aU, aU, aU, aU, aP (L12 3).b 0, aP (L12 3).b 3, aS b2 0 1 1, aI 1, aI 0, aT, aU, aU, aU, aU, aU, aU, aU, aU, aU, aU, aU, aU, aU, aU, aU, aI 1, aU], [.blk (b1) [.string (ByteArray.mk #[119, 101, 100, 103, 101]), aN 100, aN 50, .slice none 0 0, .bool (false), aN 0, aN 0, aN 0, .string (ByteArray.mk #[103, 97, 105, 110]), aN 50, aN 50, .slice (some ⟨b2, 0, none⟩) (1) (1), .bool (false), aN 0, aN 0, aN 0] 179 false, .blk (b2) [aN 0] 3 false, .blk ((L2 2).b) [aN (-1), aN (-1)] 3 true, .blk ((L5 3).b) [.string (ByteArray.mk #[119, 101, 100, 103, 101]), aN 100, aN 50, .slice none 0 0, .bool (false), aN 0, aN 0, aN 0] 179 true, .blk ((L12 3).b) [.string (ByteArray.mk #[103, 97, 105, 110]), aN 50, aN 50, .slice (some ⟨b2, 0, none⟩) (1) (1), .bool (false), aN 0, aN 0, aN 0] 179 true], []⟩)
    (fun L16 => [])
    fol (by kernel_rfl) (fun _ => by kernel_rfl) (fun L16 => trivial) (fun L16 => ?_)
  refine aw_seq ?_
  refine aw_true (true) rfl rfl ?_
  refine aw_skip ?_
  refine nrm_thn ?_
  refine aw_seq ?_
  refine aw_block ?_
  refine aw_sr [⟨.pure, [], none, true⟩, ⟨(.read 1), [0], none, true⟩, ⟨.pure, [0, 1], none, true⟩]
    (fun L17 => ⟨[aS b1 0 2 2, aU, some (.slice none 0 0), aS (L2 2).b 0 2 2, aI 1, aP (L12 3).b 0, aU, aI 0, aS b1 0 2 2, aI 2, aS (L2 2).b 0 2 2, aS b1 0 2 2, aI 2, aI 1, aT, aI 1, aP b1 8, some (.agg #[.string (ByteArray.mk #[103, 97, 105, 110]), aN 50, aN 50, .slice (some ⟨b2, 0, none⟩) (1) (1), .bool (false), aN 0, aN 0, aN 0]), aS (L2 2).b 0 2 2, aI 1, aP (L2 2).b 1, aP (L12 3).b 4, aF, aU, aU, aU, aU, aU, aU, aU, aU, aU, aU, aP (L12 3).b 0, aP (L12 3).b 3, aS b2 0 1 1, aI 1, aI 0, aT, aP b2 0, aI 0, aU, aU, aU, aU, aU, aU, aU, aU, aU, aU, aU, aU, aU, aI 1, aU], [.blk (b1) [.string (ByteArray.mk #[119, 101, 100, 103, 101]), aN 100, aN 50, .slice none 0 0, .bool (false), aN 0, aN 0, aN 0, .string (ByteArray.mk #[103, 97, 105, 110]), aN 50, aN 50, .slice (some ⟨b2, 0, none⟩) (1) (1), .bool (false), aN 0, aN 0, aN 0] 179 false, .blk (b2) [aN 0] 3 false, .blk ((L2 2).b) [aN (-1), aN (-1)] 3 true, .blk ((L5 3).b) [.string (ByteArray.mk #[119, 101, 100, 103, 101]), aN 100, aN 50, .slice none 0 0, .bool (false), aN 0, aN 0, aN 0] 179 true, .blk ((L12 3).b) [.string (ByteArray.mk #[103, 97, 105, 110]), aN 50, aN 50, .slice (some ⟨b2, 0, none⟩) (1) (1), .bool (false), aN 0, aN 0, aN 0] 179 true], []⟩)
    (fun L17 => [b2 = b2])
    fol (by kernel_rfl) (fun _ => by kernel_rfl) (fun L17 => ⟨rfl, trivial⟩) (fun L17 => ?_)
  refine aw_region [⟨.pure, [], none, true⟩, ⟨.pure, [], none, true⟩, ⟨.pure, [], none, true⟩, ⟨.pure, [], none, true⟩, ⟨.pure, [2, 3], none, true⟩, ⟨(.read 2), [2, 3, 4], none, true⟩, ⟨.pure, [], none, true⟩, ⟨.pure, [], none, true⟩, ⟨.pure, [6, 7], none, true⟩, ⟨(.read 2), [6, 7, 8], none, true⟩, ⟨.pure, [2, 3, 4, 5, 6, 7, 8, 9], none, true⟩, ⟨.pure, [0, 1, 2, 3, 4, 5, 6, 7, 8, 9, 10], none, true⟩, ⟨(.write 2), [0, 1, 2, 3, 4, 5, 6, 7, 8, 9, 10, 11], none, true⟩]
    (fun L18 => ⟨[aS b1 0 2 2, aU, some (.slice none 0 0), aS (L2 2).b 0 2 2, aI 1, aP (L12 3).b 0, aU, aI 0, aS b1 0 2 2, aI 2, aS (L2 2).b 0 2 2, aS b1 0 2 2, aI 2, aI 1, aT, aI 1, aP b1 8, some (.agg #[.string (ByteArray.mk #[103, 97, 105, 110]), aN 50, aN 50, .slice (some ⟨b2, 0, none⟩) (1) (1), .bool (false), aN 0, aN 0, aN 0]), aS (L2 2).b 0 2 2, aI 1, aP (L2 2).b 1, aP (L12 3).b 4, aF, aU, aU, aU, aU, aU, aU, aU, aU, aU, aU, aP (L12 3).b 0, aP (L12 3).b 3, aS b2 0 1 1, aI 1, aI 0, aT, aP b2 0, aI 0, aS (L2 2).b 0 2 2, aI 1, aS (L2 2).b 0 2 2, aI 1, aP (L2 2).b 1, aI (-1), aS (L2 2).b 0 2 2, aI 0, aP (L2 2).b 0, aI (-1), aI (-1), aP (L2 2).b 1, aU, aI 1, aU], [.blk (b1) [.string (ByteArray.mk #[119, 101, 100, 103, 101]), aN 100, aN 50, .slice none 0 0, .bool (false), aN 0, aN 0, aN 0, .string (ByteArray.mk #[103, 97, 105, 110]), aN 50, aN 50, .slice (some ⟨b2, 0, none⟩) (1) (1), .bool (false), aN 0, aN 0, aN 0] 179 false, .blk (b2) [aN 0] 3 false, .blk ((L2 2).b) [aN (-1), aN (-1)] 3 true, .blk ((L5 3).b) [.string (ByteArray.mk #[119, 101, 100, 103, 101]), aN 100, aN 50, .slice none 0 0, .bool (false), aN 0, aN 0, aN 0] 179 true, .blk ((L12 3).b) [.string (ByteArray.mk #[103, 97, 105, 110]), aN 50, aN 50, .slice (some ⟨b2, 0, none⟩) (1) (1), .bool (false), aN 0, aN 0, aN 0] 179 true], []⟩)
    (fun L18 => [(L2 2).b = (L2 2).b, (L2 2).b = (L2 2).b, (L2 2).b = (L2 2).b, 1 + 1 ≤ 2, 1 = 1, true = true])
    fol (by kernel_rfl) (fun _ => by kernel_rfl) (fun L18 => ⟨rfl, rfl, rfl, (by decide), rfl, rfl, trivial⟩) (fun L18 => ?_)
  refine nrm_inB ?_
  refine nrm_thn ?_
  refine aw_region [⟨.pure, [], none, true⟩, ⟨.pure, [0], none, true⟩]
    (fun L19 => ⟨[aS b1 0 2 2, aU, some (.slice none 0 0), aS (L2 2).b 0 2 2, aI 1, aP (L12 3).b 0, aU, aI 0, aS b1 0 2 2, aI 2, aS (L2 2).b 0 2 2, aS b1 0 2 2, aI 2, aI 1, aT, aI 1, aP b1 8, some (.agg #[.string (ByteArray.mk #[103, 97, 105, 110]), aN 50, aN 50, .slice (some ⟨b2, 0, none⟩) (1) (1), .bool (false), aN 0, aN 0, aN 0]), aS (L2 2).b 0 2 2, aI 1, aP (L2 2).b 1, aP (L12 3).b 4, aF, aU, aU, aU, aU, aU, aU, aU, aU, aU, aU, aP (L12 3).b 0, aP (L12 3).b 3, aS b2 0 1 1, aI 1, aI 1, aT, aP b2 0, aI 0, aS (L2 2).b 0 2 2, aI 1, aS (L2 2).b 0 2 2, aI 1, aP (L2 2).b 1, aI (-1), aS (L2 2).b 0 2 2, aI 0, aP (L2 2).b 0, aI (-1), aI (-1), aP (L2 2).b 1, aI 1, aI 1, aU], [.blk (b1) [.string (ByteArray.mk #[119, 101, 100, 103, 101]), aN 100, aN 50, .slice none 0 0, .bool (false), aN 0, aN 0, aN 0, .string (ByteArray.mk #[103, 97, 105, 110]), aN 50, aN 50, .slice (some ⟨b2, 0, none⟩) (1) (1), .bool (false), aN 0, aN 0, aN 0] 179 false, .blk (b2) [aN 0] 3 false, .blk ((L2 2).b) [aN (-1), aN (-1)] 3 true, .blk ((L5 3).b) [.string (ByteArray.mk #[119, 101, 100, 103, 101]), aN 100, aN 50, .slice none 0 0, .bool (false), aN 0, aN 0, aN 0] 179 true, .blk ((L12 3).b) [.string (ByteArray.mk #[103, 97, 105, 110]), aN 50, aN 50, .slice (some ⟨b2, 0, none⟩) (1) (1), .bool (false), aN 0, aN 0, aN 0] 179 true], []⟩)
    (fun L19 => [])
    fol (by kernel_rfl) (fun _ => by kernel_rfl) (fun L19 => trivial) (fun L19 => ?_)
  refine nrm_thn ?_
  refine awn_weak (σ' := ⟨[aS b1 0 2 2, aU, some (.slice none 0 0), aS (L2 2).b 0 2 2, aI 1, aP (L12 3).b 0, aU, aI 0, aS b1 0 2 2, aI 2, aS (L2 2).b 0 2 2, aS b1 0 2 2, aI 2, aI 1, aT, aI 1, aP b1 8, some (.agg #[.string (ByteArray.mk #[103, 97, 105, 110]), aN 50, aN 50, .slice (some ⟨b2, 0, none⟩) (1) (1), .bool (false), aN 0, aN 0, aN 0]), aS (L2 2).b 0 2 2, aI 1, aP (L2 2).b 1, aP (L12 3).b 4, aF, aU, aU, aU, aU, aU, aU, aU, aU, aU, aU, aP (L12 3).b 0, aP (L12 3).b 3, aS b2 0 1 1, aI 1, aI 1, aT, aP b2 0, aI 0, aS (L2 2).b 0 2 2, aI 1, aS (L2 2).b 0 2 2, aI 1, aP (L2 2).b 1, aI (-1), aS (L2 2).b 0 2 2, aI 0, aP (L2 2).b 0, aI (-1), aI (-1), aP (L2 2).b 1, aI 1, aI 1, aU], [.blk (b1) [.string (ByteArray.mk #[119, 101, 100, 103, 101]), aN 100, aN 50, .slice none 0 0, .bool (false), aN 0, aN 0, aN 0, .string (ByteArray.mk #[103, 97, 105, 110]), aN 50, aN 50, .slice (some ⟨b2, 0, none⟩) (1) (1), .bool (false), aN 0, aN 0, aN 0] 179 false, .blk (b2) [aN 0] 3 false, .blk ((L2 2).b) [aN (-1), aN (-1)] 3 true, .blk ((L12 3).b) [.string (ByteArray.mk #[103, 97, 105, 110]), aN 50, aN 50, .slice (some ⟨b2, 0, none⟩) (1) (1), .bool (false), aN 0, aN 0, aN 0] 179 true], []⟩) (weak_to [] [0, 1, 2, 4] (by decide) (by kernel_rfl)) ?_
  refine aw_round ?_
  refine aw_sr [⟨.pure, [], none, true⟩]
    (fun L20 => ⟨[aS b1 0 2 2, aU, some (.slice none 0 0), aS (L2 2).b 0 2 2, aI 1, aP (L12 3).b 0, aU, aI 0, aS b1 0 2 2, aI 2, aS (L2 2).b 0 2 2, aS b1 0 2 2, aI 2, aI 1, aT, aI 1, aP b1 8, some (.agg #[.string (ByteArray.mk #[103, 97, 105, 110]), aN 50, aN 50, .slice (some ⟨b2, 0, none⟩) (1) (1), .bool (false), aN 0, aN 0, aN 0]), aS (L2 2).b 0 2 2, aI 1, aP (L2 2).b 1, aP (L12 3).b 4, aF, aU, aU, aU, aU, aU, aU, aU, aU, aU, aU, aP (L12 3).b 0, aP (L12 3).b 3, aS b2 0 1 1, aI 1, aI 1, aF, aP b2 0, aI 0, aS (L2 2).b 0 2 2, aI 1, aS (L2 2).b 0 2 2, aI 1, aP (L2 2).b 1, aI (-1), aS (L2 2).b 0 2 2, aI 0, aP (L2 2).b 0, aI (-1), aI (-1), aP (L2 2).b 1, aI 1, aI 1, aU], [.blk (b1) [.string (ByteArray.mk #[119, 101, 100, 103, 101]), aN 100, aN 50, .slice none 0 0, .bool (false), aN 0, aN 0, aN 0, .string (ByteArray.mk #[103, 97, 105, 110]), aN 50, aN 50, .slice (some ⟨b2, 0, none⟩) (1) (1), .bool (false), aN 0, aN 0, aN 0] 179 false, .blk (b2) [aN 0] 3 false, .blk ((L2 2).b) [aN (-1), aN (-1)] 3 true, .blk ((L12 3).b) [.string (ByteArray.mk #[103, 97, 105, 110]), aN 50, aN 50, .slice (some ⟨b2, 0, none⟩) (1) (1), .bool (false), aN 0, aN 0, aN 0] 179 true], []⟩)
    (fun L20 => [])
    fol (by kernel_rfl) (fun _ => by kernel_rfl) (fun L20 => trivial) (fun L20 => ?_)
  refine aw_seq ?_
  refine aw_false (false) rfl rfl ?_
  refine aw_exit ?_
  refine ex_thn ?_
  refine ex_thn ?_
  refine ex_hit ?_
  refine nrm_inB ?_
  refine nrm_thn ?_
  refine aw_region [⟨.pure, [], none, true⟩, ⟨.pure, [0], none, true⟩]
    (fun L21 => ⟨[aS b1 0 2 2, aU, some (.slice none 0 0), aS (L2 2).b 0 2 2, aI 1, aP (L12 3).b 0, aU, aI 0, aS b1 0 2 2, aI 2, aS (L2 2).b 0 2 2, aS b1 0 2 2, aI 2, aI 2, aT, aI 1, aP b1 8, some (.agg #[.string (ByteArray.mk #[103, 97, 105, 110]), aN 50, aN 50, .slice (some ⟨b2, 0, none⟩) (1) (1), .bool (false), aN 0, aN 0, aN 0]), aS (L2 2).b 0 2 2, aI 1, aP (L2 2).b 1, aP (L12 3).b 4, aF, aU, aU, aU, aU, aU, aU, aU, aU, aU, aU, aP (L12 3).b 0, aP (L12 3).b 3, aS b2 0 1 1, aI 1, aI 1, aF, aP b2 0, aI 0, aS (L2 2).b 0 2 2, aI 1, aS (L2 2).b 0 2 2, aI 1, aP (L2 2).b 1, aI (-1), aS (L2 2).b 0 2 2, aI 0, aP (L2 2).b 0, aI (-1), aI (-1), aP (L2 2).b 1, aI 1, aI 2, aU], [.blk (b1) [.string (ByteArray.mk #[119, 101, 100, 103, 101]), aN 100, aN 50, .slice none 0 0, .bool (false), aN 0, aN 0, aN 0, .string (ByteArray.mk #[103, 97, 105, 110]), aN 50, aN 50, .slice (some ⟨b2, 0, none⟩) (1) (1), .bool (false), aN 0, aN 0, aN 0] 179 false, .blk (b2) [aN 0] 3 false, .blk ((L2 2).b) [aN (-1), aN (-1)] 3 true, .blk ((L12 3).b) [.string (ByteArray.mk #[103, 97, 105, 110]), aN 50, aN 50, .slice (some ⟨b2, 0, none⟩) (1) (1), .bool (false), aN 0, aN 0, aN 0] 179 true], []⟩)
    (fun L21 => [])
    fol (by kernel_rfl) (fun _ => by kernel_rfl) (fun L21 => trivial) (fun L21 => ?_)
  refine nrm_thn ?_
  refine aw_round ?_
  refine aw_sr [⟨.pure, [], none, true⟩]
    (fun L22 => ⟨[aS b1 0 2 2, aU, some (.slice none 0 0), aS (L2 2).b 0 2 2, aI 1, aP (L12 3).b 0, aU, aI 0, aS b1 0 2 2, aI 2, aS (L2 2).b 0 2 2, aS b1 0 2 2, aI 2, aI 2, aF, aI 1, aP b1 8, some (.agg #[.string (ByteArray.mk #[103, 97, 105, 110]), aN 50, aN 50, .slice (some ⟨b2, 0, none⟩) (1) (1), .bool (false), aN 0, aN 0, aN 0]), aS (L2 2).b 0 2 2, aI 1, aP (L2 2).b 1, aP (L12 3).b 4, aF, aU, aU, aU, aU, aU, aU, aU, aU, aU, aU, aP (L12 3).b 0, aP (L12 3).b 3, aS b2 0 1 1, aI 1, aI 1, aF, aP b2 0, aI 0, aS (L2 2).b 0 2 2, aI 1, aS (L2 2).b 0 2 2, aI 1, aP (L2 2).b 1, aI (-1), aS (L2 2).b 0 2 2, aI 0, aP (L2 2).b 0, aI (-1), aI (-1), aP (L2 2).b 1, aI 1, aI 2, aU], [.blk (b1) [.string (ByteArray.mk #[119, 101, 100, 103, 101]), aN 100, aN 50, .slice none 0 0, .bool (false), aN 0, aN 0, aN 0, .string (ByteArray.mk #[103, 97, 105, 110]), aN 50, aN 50, .slice (some ⟨b2, 0, none⟩) (1) (1), .bool (false), aN 0, aN 0, aN 0] 179 false, .blk (b2) [aN 0] 3 false, .blk ((L2 2).b) [aN (-1), aN (-1)] 3 true, .blk ((L12 3).b) [.string (ByteArray.mk #[103, 97, 105, 110]), aN 50, aN 50, .slice (some ⟨b2, 0, none⟩) (1) (1), .bool (false), aN 0, aN 0, aN 0] 179 true], []⟩)
    (fun L22 => [])
    fol (by kernel_rfl) (fun _ => by kernel_rfl) (fun L22 => trivial) (fun L22 => ?_)
  refine aw_seq ?_
  refine aw_false (false) rfl rfl ?_
  refine aw_exit ?_
  refine ex_thn ?_
  refine ex_thn ?_
  refine ex_hit ?_
  refine nrm_thn ?_
  refine aw_sr [⟨.pure, [], none, true⟩, ⟨.pure, [0], none, true⟩]
    (fun L23 => ⟨[aS b1 0 2 2, aU, aS (L2 2).b 0 2 2, aS (L2 2).b 0 2 2, aI 1, aP (L12 3).b 0, aU, aI 0, aS b1 0 2 2, aI 2, aS (L2 2).b 0 2 2, aS b1 0 2 2, aI 2, aI 2, aF, aI 1, aP b1 8, some (.agg #[.string (ByteArray.mk #[103, 97, 105, 110]), aN 50, aN 50, .slice (some ⟨b2, 0, none⟩) (1) (1), .bool (false), aN 0, aN 0, aN 0]), aS (L2 2).b 0 2 2, aI 1, aP (L2 2).b 1, aP (L12 3).b 4, aF, aU, aU, aU, aU, aU, aU, aU, aU, aU, aU, aP (L12 3).b 0, aP (L12 3).b 3, aS b2 0 1 1, aI 1, aI 1, aF, aP b2 0, aI 0, aS (L2 2).b 0 2 2, aI 1, aS (L2 2).b 0 2 2, aI 1, aP (L2 2).b 1, aI (-1), aS (L2 2).b 0 2 2, aI 0, aP (L2 2).b 0, aI (-1), aI (-1), aP (L2 2).b 1, aI 1, aI 2, aS (L2 2).b 0 2 2], [.blk (b1) [.string (ByteArray.mk #[119, 101, 100, 103, 101]), aN 100, aN 50, .slice none 0 0, .bool (false), aN 0, aN 0, aN 0, .string (ByteArray.mk #[103, 97, 105, 110]), aN 50, aN 50, .slice (some ⟨b2, 0, none⟩) (1) (1), .bool (false), aN 0, aN 0, aN 0] 179 false, .blk (b2) [aN 0] 3 false, .blk ((L2 2).b) [aN (-1), aN (-1)] 3 true, .blk ((L12 3).b) [.string (ByteArray.mk #[103, 97, 105, 110]), aN 50, aN 50, .slice (some ⟨b2, 0, none⟩) (1) (1), .bool (false), aN 0, aN 0, aN 0] 179 true], []⟩)
    (fun L23 => [])
    fol (by kernel_rfl) (fun _ => by kernel_rfl) (fun L23 => trivial) (fun L23 => ?_)
  refine aw_ret ?_
  exact fin_new none [0] (.slice (some ⟨(L2 2).b, 0, none⟩) (2) (2)) [] (⟨(L2 2).b, none, 0⟩) (fun l => .slice (some ⟨l.b, 0, none⟩) (2) (2)) (fun l => .blk (l.b) [aN (-1), aN (-1)] 3 true) 2 (.inr rfl) rfl (by kernel_rfl) trivial rfl rfl rfl

-- slices.IndexFunc[[]int,int]
set_option maxRecDepth 100000 in
set_option maxHeartbeats 400000 in
theorem UA.i_131 (b1 b2 b3 : Nat) : CallOb Try.prog 161 #[.slice none 0 0, .func (.func 156) #[] #[.pointer (some ⟨b1, 0, none⟩), .pointer (some ⟨b3, 0, none⟩)]] [.blk (b1) [.slice (some ⟨b2, 0, none⟩) (2) (2)] 46 false, .blk (b2) [aN (-1), aN (-1)] 3 false, .blk (b3) [aN 0, aN 0, aN 200] 110 false] (aN (-1)) := by
  intro w hw
  refine calls_aw [some (.slice none 0 0), some (.func (.func 156) #[] #[.pointer (some ⟨b1, 0, none⟩), .pointer (some ⟨b3, 0, none⟩)]), aU, aU, aU, aU, aU, aU, aU, aU, aU, aU, aU, aU, aU, aU, aU, aU, aU] [.blk (b1) [.slice (some ⟨b2, 0, none⟩) (2) (2)] 46 false, .blk (b2) [aN (-1), aN (-1)] 3 false, .blk (b3) [aN 0, aN 0, aN 200] 110 false] Try.func161 rfl (by kernel_rfl) (esOk hw (by simp [Cel.mine])) ?_
  refine aw_sr [⟨.pure, [], none, true⟩]
    (fun L1 => ⟨[some (.slice none 0 0), some (.func (.func 156) #[] #[.pointer (some ⟨b1, 0, none⟩), .pointer (some ⟨b3, 0, none⟩)]), aU, aU, aI 0, aU, aU, aU, aU, aU, aU, aU, aU, aU, aU, aU, aU, aU, aU], [.blk (b1) [.slice (some ⟨b2, 0, none⟩) (2) (2)] 46 false, .blk (b2) [aN (-1), aN (-1)] 3 false, .blk (b3) [aN 0, aN 0, aN 200] 110 false], []⟩)
    (fun L1 => [])
    fol (by kernel_rfl) (fun _ => by kernel_rfl) (fun L1 => trivial) (fun L1 => ?_)
  refine aw_seq ?_
  refine aw_sr [⟨.pure, [], none, true⟩, ⟨.pure, [0], none, true⟩, ⟨.pure, [], none, true⟩]
    (fun L2 => ⟨[some (.slice none 0 0), some (.func (.func 156) #[] #[.pointer (some ⟨b1, 0, none⟩), .pointer (some ⟨b3, 0, none⟩)]), aU, aU, aI 0, aU, some (.slice none 0 0), aI 0, aI 0, aU, aU, aU, aU, aU, aU, aU, aU, aU, aU], [.blk (b1) [.slice (some ⟨b2, 0, none⟩) (2) (2)] 46 false, .blk (b2) [aN (-1), aN (-1)] 3 false, .blk (b3) [aN 0, aN 0, aN 200] 110 false], []⟩)
    (fun L2 => [])
    fol (by kernel_rfl) (fun _ => by kernel_rfl) (fun L2 => trivial) (fun L2 => ?_)
  refine aw_block ?_
  refine aw_rounds 1 ?_
  refine aw_round ?_
  refine aw_sr [⟨.pure, [], none, true⟩]
    (fun L3 => ⟨[some (.slice none 0 0), some (.func (.func 156) #[] #[.pointer (some ⟨b1, 0, none⟩), .pointer (some ⟨b3, 0, none⟩)]), aU, aU, aI 0, aU, some (.slice none 0 0), aI 0, aI 0, aF, aU, aU, aU, aU, aU, aU, aU, aU, aU], [.blk (b1) [.slice (some ⟨b2, 0, none⟩) (2) (2)] 46 false, .blk (b2) [aN (-1), aN (-1)] 3 false, .blk (b3) [aN 0, aN 0, aN 200] 110 false], []⟩)
    (fun L3 => [])
    fol (by kernel_rfl) (fun _ => by kernel_rfl) (fun L3 => trivial) (fun L3 => ?_)
  refine aw_seq ?_
  refine aw_false (false) rfl rfl ?_
  refine aw_exit ?_
  refine ex_thn ?_
  refine ex_thn ?_
  refine ex_hit ?_
  refine nrm_thn ?_
  refine aw_sr [⟨.pure, [], none, true⟩]
    (fun L4 => ⟨[some (.slice none 0 0), some (.func (.func 156) #[] #[.pointer (some ⟨b1, 0, none⟩), .pointer (some ⟨b3, 0, none⟩)]), aU, aU, aI (-1), aU, some (.slice none 0 0), aI 0, aI 0, aF, aU, aU, aU, aU, aU, aU, aU, aU, aU], [.blk (b1) [.slice (some ⟨b2, 0, none⟩) (2) (2)] 46 false, .blk (b2) [aN (-1), aN (-1)] 3 false, .blk (b3) [aN 0, aN 0, aN 200] 110 false], []⟩)
    (fun L4 => [])
    fol (by kernel_rfl) (fun _ => by kernel_rfl) (fun L4 => trivial) (fun L4 => ?_)
  refine aw_ret ?_
  exact fin_ret none [0] (aN (-1)) [] (.inr rfl) rfl (by kernel_rfl) trivial (fun w' hb => ⟨rfl, hb⟩)

-- slices.ContainsFunc[[]int,int]
set_option maxRecDepth 100000 in
set_option maxHeartbeats 400000 in
theorem UA.i_132 (b1 b2 b3 : Nat) : CallOb Try.prog 157 #[.slice none 0 0, .func (.func 156) #[] #[.pointer (some ⟨b1, 0, none⟩), .pointer (some ⟨b3, 0, none⟩)]] [.blk (b1) [.slice (some ⟨b2, 0, none⟩) (2) (2)] 46 false, .blk (b2) [aN (-1), aN (-1)] 3 false, .blk (b3) [aN 0, aN 0, aN 200] 110 false] (.bool (false)) := by
  intro w hw
  refine calls_aw [some (.slice none 0 0), some (.func (.func 156) #[] #[.pointer (some ⟨b1, 0, none⟩), .pointer (some ⟨b3, 0, none⟩)]), aU, aU, aU, aU, aU, aU, aU] [.blk (b1) [.slice (some ⟨b2, 0, none⟩) (2) (2)] 46 false, .blk (b2) [aN (-1), aN (-1)] 3 false, .blk (b3) [aN 0, aN 0, aN 200] 110 false] Try.func157 rfl (by kernel_rfl) (esOk hw (by simp [Cel.mine])) ?_
  refine aw_sr [⟨.pure, [], none, true⟩]
    (fun L1 => ⟨[some (.slice none 0 0), some (.func (.func 156) #[] #[.pointer (some ⟨b1, 0, none⟩), .pointer (some ⟨b3, 0, none⟩)]), aU, aU, aF, aU, aU, aU, aU], [.blk (b1) [.slice (some ⟨b2, 0, none⟩) (2) (2)] 46 false, .blk (b2) [aN (-1), aN (-1)] 3 false, .blk (b3) [aN 0, aN 0, aN 200] 110 false], []⟩)
    (fun L1 => [])
    fol (by kernel_rfl) (fun _ => by kernel_rfl) (fun L1 => trivial) (fun L1 => ?_)
  refine aw_sr [⟨.pure, [], none, true⟩, ⟨.pure, [], none, true⟩, ⟨(.call [0, 1, 2] (aN (-1))), [0, 1], none, true⟩, ⟨.pure, [0, 1, 2], none, true⟩, ⟨.pure, [0, 1, 2, 3], none, true⟩]
    (fun L2 => ⟨[some (.slice none 0 0), some (.func (.func 156) #[] #[.pointer (some ⟨b1, 0, none⟩), .pointer (some ⟨b3, 0, none⟩)]), aU, aU, aF, some (.slice none 0 0), some (.func (.func 156) #[] #[.pointer (some ⟨b1, 0, none⟩), .pointer (some ⟨b3, 0, none⟩)]), aI (-1), aF], [.blk (b1) [.slice (some ⟨b2, 0, none⟩) (2) (2)] 46 false, .blk (b2) [aN (-1), aN (-1)] 3 false, .blk (b3) [aN 0, aN 0, aN 200] 110 false], []⟩)
    (fun L2 => [CallOb Try.prog 161 #[.slice none 0 0, .func (.func 156) #[] #[.pointer (some ⟨b1, 0, none⟩), .pointer (some ⟨b3, 0, none⟩)]] [.blk (b1) [.slice (some ⟨b2, 0, none⟩) (2) (2)] 46 false, .blk (b2) [aN (-1), aN (-1)] 3 false, .blk (b3) [aN 0, aN 0, aN 200] 110 false] (aN (-1))])
    fol (by kernel_rfl) (fun _ => by kernel_rfl) (fun L2 => ⟨(callOb_frz (UA.i_131 (b1) (b2) (b3) )), trivial⟩) (fun L2 => ?_)
  refine aw_ret ?_
  exact fin_ret none [0] (.bool (false)) [] (.inr rfl) rfl (by kernel_rfl) trivial (fun w' hb => ⟨rfl, hb⟩)

-- couplant/base.Within
set_option maxRecDepth 100000 in
set_option maxHeartbeats 400000 in
theorem UA.i_133 : CallOb Try.prog 127 #[aN 10, aN 0, aN 100000000] [] (.bool (true)) := by
  intro w hw
  refine calls_aw [aI 10, aI 0, aI 100000000, aU, aU, aU, aU, aU, aU, aU, aU, aU, aU, aU, aU] [] Try.func127 rfl (by kernel_rfl) (fun e x h => by cases h) ?_
  refine aw_sr [⟨.pure, [], none, true⟩]
    (fun L1 => ⟨[aI 10, aI 0, aI 100000000, aU, aU, aU, aF, aU, aU, aU, aU, aU, aU, aU, aU], [], []⟩)
    (fun L1 => [])
    fol (by kernel_rfl) (fun _ => by kernel_rfl) (fun L1 => trivial) (fun L1 => ?_)
  refine aw_sr [⟨.pure, [], none, true⟩, ⟨.pure, [], none, true⟩, ⟨.pure, [0, 1], none, true⟩, ⟨.pure, [0, 1, 2], none, true⟩, ⟨.pure, [0, 1, 2, 3], none, true⟩, ⟨.pure, [0, 1, 2, 3], none, true⟩, ⟨.pure, [0, 1, 2, 3, 4, 5], none, true⟩, ⟨.pure, [0, 1, 2, 3, 4, 5, 6], aT, true⟩, ⟨.pure, [0, 1, 2, 3, 4, 5, 6, 7], none, true⟩]
    (fun L2 => ⟨[aI 10, aI 0, aI 100000000, aU, aU, aU, aT, aI 0, aI 10, aT, aT, aI 10, aI 100000000, aT, aT], [], []⟩)
    (fun L2 => [(true) = true, (true) = true, (true) = true, (.bool (true) : Value) = .bool (true)])
    fol (by kernel_rfl) (fun _ => by kernel_rfl) (fun L2 => ⟨rfl, rfl, rfl, rfl, trivial⟩) (fun L2 => ?_)
  refine aw_ret ?_
  exact fin_ret none [0] (.bool (true)) [] (.inr rfl) rfl (by kernel_rfl) trivial (fun w' hb => ⟨rfl, hb⟩)

-- couplant/base.RangeError
set_option maxRecDepth 100000 in
set_option maxHeartbeats 400000 in
theorem UA.i_134 : CallOb Try.prog 79 #[aN 10, aN 0, aN 100000000] [] (aN 0) := by
  intro w hw
  refine calls_aw [aI 10, aI 0, aI 100000000, aU, aU, aU, aU, aU, aU, aU, aU, aU] [] Try.func79 rfl (by kernel_rfl) (fun e x h => by cases h) ?_
  refine aw_sr [⟨.pure, [], none, true⟩]
    (fun L1 => ⟨[aI 10, aI 0, aI 100000000, aU, aU, aU, aI 0, aU, aU, aU, aU, aU], [], []⟩)
    (fun L1 => [])
    fol (by kernel_rfl) (fun _ => by kernel_rfl) (fun L1 => trivial) (fun L1 => ?_)
  refine aw_sr [⟨.pure, [], none, true⟩, ⟨.pure, [], none, true⟩, ⟨.pure, [], none, true⟩, ⟨(.call [] (.bool (true))), [0, 1, 2], none, true⟩, ⟨(.call [] (aN 0)), [0, 1, 2, 3], none, true⟩, ⟨.pure, [0, 1, 2, 3, 4], none, true⟩]
    (fun L2 => ⟨[aI 10, aI 0, aI 100000000, aU, aU, aU, aI 0, aI 10, aI 0, aI 100000000, aT, aI 0], [], []⟩)
    (fun L2 => [CallOb Try.prog 127 #[aN 10, aN 0, aN 100000000] [] (.bool (true)), CallOb Try.prog 81 #[.bool (true), aN 2] [] (aN 0)])
    fol (by kernel_rfl) (fun _ => by kernel_rfl) (fun L2 => ⟨(callOb_frz (UA.i_133  )), (callOb_frz (UA.i_6  )), trivial⟩) (fun L2 => ?_)
  refine aw_ret ?_
  exact fin_ret none [0] (aN 0) [] (.inr rfl) rfl (by kernel_rfl) trivial (fun w' hb => ⟨rfl, hb⟩)

-- couplant/base.Within
set_option maxRecDepth 100000 in
set_option maxHeartbeats 400000 in
theorem UA.i_135 : CallOb Try.prog 127 #[aN 1, aN (-1), aN 1] [] (.bool (true)) := by
  intro w hw
  refine calls_aw [aI 1, aI (-1), aI 1, aU, aU, aU, aU, aU, aU, aU, aU, aU, aU, aU, aU] [] Try.func127 rfl (by kernel_rfl) (fun e x h => by cases h) ?_
  refine aw_sr [⟨.pure, [], none, true⟩]
    (fun L1 => ⟨[aI 1, aI (-1), aI 1, aU, aU, aU, aF, aU, aU, aU, aU, aU, aU, aU, aU], [], []⟩)
    (fun L1 => [])
    fol (by kernel_rfl) (fun _ => by kernel_rfl) (fun L1 => trivial) (fun L1 => ?_)
  refine aw_sr [⟨.pure, [], none, true⟩, ⟨.pure, [], none, true⟩, ⟨.pure, [0, 1], none, true⟩, ⟨.pure, [0, 1, 2], none, true⟩, ⟨.pure, [0, 1, 2, 3], none, true⟩, ⟨.pure, [0, 1, 2, 3], none, true⟩, ⟨.pure, [0, 1, 2, 3, 4, 5], none, true⟩, ⟨.pure, [0, 1, 2, 3, 4, 5, 6], aT, true⟩, ⟨.pure, [0, 1, 2, 3, 4, 5, 6, 7], none, true⟩]
    (fun L2 => ⟨[aI 1, aI (-1), aI 1, aU, aU, aU, aT, aI (-1), aI 1, aT, aT, aI 1, aI 1, aT, aT], [], []⟩)
    (fun L2 => [(true) = true, (true) = true, (true) = true, (.bool (true) : Value) = .bool (true)])
    fol (by kernel_rfl) (fun _ => by kernel_rfl) (fun L2 => ⟨rfl, rfl, rfl, rfl, trivial⟩) (fun L2 => ?_)
  refine aw_ret ?_
  exact fin_ret none [0] (.bool (true)) [] (.inr rfl) rfl (by kernel_rfl) trivial (fun w' hb => ⟨rfl, hb⟩)

-- couplant/base.Within
set_option maxRecDepth 100000 in
set_option maxHeartbeats 400000 in
theorem UA.i_136 : CallOb Try.prog 127 #[aN 210, aN (-2000), aN 2000] [] (.bool (true)) := by
  intro w hw
  refine calls_aw [aI 210, aI (-2000), aI 2000, aU, aU, aU, aU, aU, aU, aU, aU, aU, aU, aU, aU] [] Try.func127 rfl (by kernel_rfl) (fun e x h => by cases h) ?_
  refine aw_sr [⟨.pure, [], none, true⟩]
    (fun L1 => ⟨[aI 210, aI (-2000), aI 2000, aU, aU, aU, aF, aU, aU, aU, aU, aU, aU, aU, aU], [], []⟩)
    (fun L1 => [])
    fol (by kernel_rfl) (fun _ => by kernel_rfl) (fun L1 => trivial) (fun L1 => ?_)
  refine aw_sr [⟨.pure, [], none, true⟩, ⟨.pure, [], none, true⟩, ⟨.pure, [0, 1], none, true⟩, ⟨.pure, [0, 1, 2], none, true⟩, ⟨.pure, [0, 1, 2, 3], none, true⟩, ⟨.pure, [0, 1, 2, 3], none, true⟩, ⟨.pure, [0, 1, 2, 3, 4, 5], none, true⟩, ⟨.pure, [0, 1, 2, 3, 4, 5, 6], aT, true⟩, ⟨.pure, [0, 1, 2, 3, 4, 5, 6, 7], none, true⟩]
    (fun L2 => ⟨[aI 210, aI (-2000), aI 2000, aU, aU, aU, aT, aI (-2000), aI 210, aT, aT, aI 210, aI 2000, aT, aT], [], []⟩)
    (fun L2 => [(true) = true, (true) = true, (true) = true, (.bool (true) : Value) = .bool (true)])
    fol (by kernel_rfl) (fun _ => by kernel_rfl) (fun L2 => ⟨rfl, rfl, rfl, rfl, trivial⟩) (fun L2 => ?_)
  refine aw_ret ?_
  exact fin_ret none [0] (.bool (true)) [] (.inr rfl) rfl (by kernel_rfl) trivial (fun w' hb => ⟨rfl, hb⟩)

-- couplant/base.RangeError
set_option maxRecDepth 100000 in
set_option maxHeartbeats 400000 in
theorem UA.i_137 : CallOb Try.prog 79 #[aN 210, aN (-2000), aN 2000] [] (aN 0) := by
  intro w hw
  refine calls_aw [aI 210, aI (-2000), aI 2000, aU, aU, aU, aU, aU, aU, aU, aU, aU] [] Try.func79 rfl (by kernel_rfl) (fun e x h => by cases h) ?_
  refine aw_sr [⟨.pure, [], none, true⟩]
    (fun L1 => ⟨[aI 210, aI (-2000), aI 2000, aU, aU, aU, aI 0, aU, aU, aU, aU, aU], [], []⟩)
    (fun L1 => [])
    fol (by kernel_rfl) (fun _ => by kernel_rfl) (fun L1 => trivial) (fun L1 => ?_)
  refine aw_sr [⟨.pure, [], none, true⟩, ⟨.pure, [], none, true⟩, ⟨.pure, [], none, true⟩, ⟨(.call [] (.bool (true))), [0, 1, 2], none, true⟩, ⟨(.call [] (aN 0)), [0, 1, 2, 3], none, true⟩, ⟨.pure, [0, 1, 2, 3, 4], none, true⟩]
    (fun L2 => ⟨[aI 210, aI (-2000), aI 2000, aU, aU, aU, aI 0, aI 210, aI (-2000), aI 2000, aT, aI 0], [], []⟩)
    (fun L2 => [CallOb Try.prog 127 #[aN 210, aN (-2000), aN 2000] [] (.bool (true)), CallOb Try.prog 81 #[.bool (true), aN 2] [] (aN 0)])
    fol (by kernel_rfl) (fun _ => by kernel_rfl) (fun L2 => ⟨(callOb_frz (UA.i_136  )), (callOb_frz (UA.i_6  )), trivial⟩) (fun L2 => ?_)
  refine aw_ret ?_
  exact fin_ret none [0] (aN 0) [] (.inr rfl) rfl (by kernel_rfl) trivial (fun w' hb => ⟨rfl, hb⟩)

-- couplant/base.Size
set_option maxRecDepth 100000 in
set_option maxHeartbeats 400000 in
theorem UA.i_138 : CallOb Try.prog 113 #[aN 10] [] (aN 10) := by
  intro w hw
  refine calls_aw [aI 10, aU, aU, aU, aU, aU, aU, aU] [] Try.func113 rfl (by kernel_rfl) (fun e x h => by cases h) ?_
  refine aw_sr [⟨.pure, [], none, true⟩]
    (fun L1 => ⟨[aI 10, aU, aI 0, aU, aU, aU, aU, aU], [], []⟩)
    (fun L1 => [])
    fol (by kernel_rfl) (fun _ => by kernel_rfl) (fun L1 => trivial) (fun L1 => ?_)
  refine aw_seq ?_
  refine aw_sr [⟨.pure, [], none, true⟩, ⟨.pure, [0], none, true⟩]
    (fun L2 => ⟨[aI 10, aU, aI 0, aI 10, aF, aU, aU, aU], [], []⟩)
    (fun L2 => [])
    fol (by kernel_rfl) (fun _ => by kernel_rfl) (fun L2 => trivial) (fun L2 => ?_)
  refine aw_false (false) rfl rfl ?_
  refine aw_skip ?_
  refine nrm_thn ?_
  refine aw_sr [⟨.pure, [], none, true⟩, ⟨.pure, [0], none, true⟩]
    (fun L3 => ⟨[aI 10, aU, aI 10, aI 10, aF, aU, aU, aI 10], [], []⟩)
    (fun L3 => [])
    fol (by kernel_rfl) (fun _ => by kernel_rfl) (fun L3 => trivial) (fun L3 => ?_)
  refine aw_ret ?_
  exact fin_ret none [0] (aN 10) [] (.inr rfl) rfl (by kernel_rfl) trivial (fun w' hb => ⟨rfl, hb⟩)

-- (couplant/tune.procedure).happen$1
set_option maxRecDepth 100000 in
set_option maxHeartbeats 400000 in
theorem UA.i_139 (b1 : Nat) : CallOb Try.prog 155 #[.agg #[.string (ByteArray.mk #[119, 101, 100, 103, 101]), aN 100, aN 50, .slice none 0 0, .bool (true), aN 0, aN 0, aN 200], .pointer (some ⟨b1, 0, none⟩)] [.blk (b1) [aN 10, aN 1, aN 210] 110 false] (.bool (false)) := by
  intro w hw
  refine calls_aw [some (.agg #[.string (ByteArray.mk #[119, 101, 100, 103, 101]), aN 100, aN 50, .slice none 0 0, .bool (true), aN 0, aN 0, aN 200]), aP b1 0, aU, aU, aU, aU, aU, aU, aU, aU, aU, aU, aU, aU, aU] [.blk (b1) [aN 10, aN 1, aN 210] 110 false] Try.func155 rfl (by kernel_rfl) (esOk hw (by simp [Cel.mine])) ?_
  refine aw_sr [⟨.new, [], none, true⟩, ⟨.pure, [], none, true⟩]
    (fun L1 => ⟨[some (.agg #[.string (ByteArray.mk #[119, 101, 100, 103, 101]), aN 100, aN 50, .slice none 0 0, .bool (true), aN 0, aN 0, aN 200]), aP b1 0, aP (L1 0).b 0, aF, aU, aU, aU, aU, aU, aU, aU, aU, aU, aU, aU], [.blk (b1) [aN 10, aN 1, aN 210] 110 false, .blk ((L1 0).b) [.string (ByteArray.mk #[119, 101, 100, 103, 101]), aN 100, aN 50, .slice none 0 0, .bool (true), aN 0, aN 0, aN 200] 179 true], []⟩)
    (fun L1 => [])
    fol (by kernel_rfl) (fun _ => by kernel_rfl) (fun L1 => trivial) (fun L1 => ?_)
  refine aw_sr [⟨.pure, [], none, true⟩, ⟨(.read 0), [0], none, true⟩, ⟨.pure, [], none, true⟩, ⟨.pure, [2], none, true⟩, ⟨(.read 1), [2, 3], none, true⟩, ⟨.pure, [0, 1, 2, 3, 4], none, true⟩, ⟨(.call [] (aN 10)), [0, 1, 2, 3, 4, 5], none, true⟩, ⟨.pure, [], none, true⟩, ⟨.pure, [7], none, true⟩, ⟨(.read 1), [7, 8], none, true⟩, ⟨.pure, [0, 1, 2, 3, 4, 5, 6, 7, 8, 9], none, true⟩, ⟨.pure, [0, 1, 2, 3, 4, 5, 6, 7, 8, 9, 10], none, true⟩]
    (fun L2 => ⟨[some (.agg #[.string (ByteArray.mk #[119, 101, 100, 103, 101]), aN 100, aN 50, .slice none 0 0, .bool (true), aN 0, aN 0, aN 200]), aP b1 0, aP (L1 0).b 0, aF, aP b1 2, aI 210, aP (L1 0).b 5, aP (L1 0).b 7, aI 200, aI 10, aI 10, aP (L1 0).b 0, aP (L1 0).b 2, aI 50, aF], [.blk (b1) [aN 10, aN 1, aN 210] 110 false, .blk ((L1 0).b) [.string (ByteArray.mk #[119, 101, 100, 103, 101]), aN 100, aN 50, .slice none 0 0, .bool (true), aN 0, aN 0, aN 200] 179 true], []⟩)
    (fun L2 => [b1 = b1, (L1 0).b = (L1 0).b, CallOb Try.prog 113 #[aN 10] [] (aN 10), (L1 0).b = (L1 0).b])
    fol (by kernel_rfl) (fun _ => by kernel_rfl) (fun L2 => ⟨rfl, rfl, (callOb_frz (UA.i_138  )), rfl, trivial⟩) (fun L2 => ?_)
  refine aw_ret ?_
  exact fin_ret none [0] (.bool (false)) [] (.inr rfl) rfl (by kernel_rfl) trivial (fun w' hb => ⟨rfl, hb⟩)

-- (couplant/tune.procedure).untils
set_option maxRecDepth 100000 in
set_option maxHeartbeats 400000 in
theorem UA.i_140 (b1 b2 : Nat) : CallN Try.prog 124 #[.slice (some ⟨b1, 0, none⟩) (2) (2)] [.blk (b1) [.string (ByteArray.mk #[119, 101, 100, 103, 101]), aN 100, aN 50, .slice none 0 0, .bool (true), aN 0, aN 0, aN 200, .string (ByteArray.mk #[103, 97, 105, 110]), aN 50, aN 50, .slice (some ⟨b2, 0, none⟩) (1) (1), .bool (false), aN 0, aN 0, aN 0] 179 false, .blk (b2) [aN 0] 3 false] (fun l => .slice (some ⟨l.b, 0, none⟩) (2) (2)) (fun l => .blk (l.b) [aN 100, aN (-1)] 3 true) := by
  intro w hw
  refine calls_aw [aS b1 0 2 2, aU, aU, aU, aU, aU, aU, aU, aU, aU, aU, aU, aU, aU, aU, aU, aU, aU, aU, aU, aU, aU, aU, aU, aU, aU, aU, aU, aU, aU, aU, aU, aU, aU, aU, aU, aU, aU, aU, aU, aU, aU, aU, aU, aU, aU, aU, aU, aU, aU, aU, aU, aU, aU, aU, aU] [.blk (b1) [.string (ByteArray.mk #[119, 101, 100, 103, 101]), aN 100, aN 50, .slice none 0 0, .bool (true), aN 0, aN 0, aN 200, .string (ByteArray.mk #[103, 97, 105, 110]), aN 50, aN 50, .slice (some ⟨b2, 0, none⟩) (1) (1), .bool (false), aN 0, aN 0, aN 0] 179 false, .blk (b2) [aN 0] 3 false] Try.func124 rfl (by kernel_rfl) (esOk hw (by simp [Cel.mine])) ?_
  refine aw_sr [⟨.pure, [], none, true⟩]
    (fun L1 => ⟨[aS b1 0 2 2, aU, some (.slice none 0 0), aU, aU, aU, aU, aU, aU, aU, aU, aU, aU, aU, aU, aU, aU, aU, aU, aU, aU, aU, aU, aU, aU, aU, aU, aU, aU, aU, aU, aU, aU, aU, aU, aU, aU, aU, aU, aU, aU, aU, aU, aU, aU, aU, aU, aU, aU, aU, aU, aU, aU, aU, aU, aU], [.blk (b1) [.string (ByteArray.mk #[119, 101, 100, 103, 101]), aN 100, aN 50, .slice none 0 0, .bool (true), aN 0, aN 0, aN 200, .string (ByteArray.mk #[103, 97, 105, 110]), aN 50, aN 50, .slice (some ⟨b2, 0, none⟩) (1) (1), .bool (false), aN 0, aN 0, aN 0] 179 false, .blk (b2) [aN 0] 3 false], []⟩)
    (fun L1 => [])
    fol (by kernel_rfl) (fun _ => by kernel_rfl) (fun L1 => trivial) (fun L1 => ?_)
  refine aw_sr [⟨.pure, [], none, true⟩, ⟨.pure, [0], none, true⟩, ⟨.new, [0, 1], none, true⟩, ⟨.pure, [0, 1, 2], none, true⟩]
    (fun L2 => ⟨[aS b1 0 2 2, aU, some (.slice none 0 0), aS (L2 2).b 0 2 2, aU, aU, aU, aU, aS b1 0 2 2, aI 2, aS (L2 2).b 0 2 2, aU, aU, aU, aU, aU, aU, aU, aU, aU, aU, aU, aU, aU, aU, aU, aU, aU, aU, aU, aU, aU, aU, aU, aU, aU, aU, aU, aU, aU, aU, aU, aU, aU, aU, aU, aU, aU, aU, aU, aU, aU, aU, aU, aU, aU], [.blk (b1) [.string (ByteArray.mk #[119, 101, 100, 103, 101]), aN 100, aN 50, .slice none 0 0, .bool (true), aN 0, aN 0, aN 200, .string (ByteArray.mk #[103, 97, 105, 110]), aN 50, aN 50, .slice (some ⟨b2, 0, none⟩) (1) (1), .bool (false), aN 0, aN 0, aN 0] 179 false, .blk (b2) [aN 0] 3 false, .blk ((L2 2).b) [aN 0, aN 0] 3 true], []⟩)
    (fun L2 => [])
    fol (by kernel_rfl) (fun _ => by kernel_rfl) (fun L2 => trivial) (fun L2 => ?_)
  refine aw_seq ?_
  refine aw_sr [⟨.pure, [], none, true⟩, ⟨.pure, [0], none, true⟩, ⟨.pure, [], none, true⟩]
    (fun L3 => ⟨[aS b1 0 2 2, aU, some (.slice none 0 0), aS (L2 2).b 0 2 2, aU, aU, aU, aU, aS b1 0 2 2, aI 2, aS (L2 2).b 0 2 2, aS b1 0 2 2, aI 2, aI 0, aU, aU, aU, aU, aU, aU, aU, aU, aU, aU, aU, aU, aU, aU, aU, aU, aU, aU, aU, aU, aU, aU, aU, aU, aU, aU, aU, aU, aU, aU, aU, aU, aU, aU, aU, aU, aU, aU, aU, aU, aU, aU], [.blk (b1) [.string (ByteArray.mk #[119, 101, 100, 103, 101]), aN 100, aN 50, .slice none 0 0, .bool (true), aN 0, aN 0, aN 200, .string (ByteArray.mk #[103, 97, 105, 110]), aN 50, aN 50, .slice (some ⟨b2, 0, none⟩) (1) (1), .bool (false), aN 0, aN 0, aN 0] 179 false, .blk (b2) [aN 0] 3 false, .blk ((L2 2).b) [aN 0, aN 0] 3 true], []⟩)
    (fun L3 => [])
    fol (by kernel_rfl) (fun _ => by kernel_rfl) (fun L3 => trivial) (fun L3 => ?_)
  refine aw_block ?_
  refine aw_rounds 3 ?_
  refine aw_round ?_
  refine aw_sr [⟨.pure, [], none, true⟩]
    (fun L4 => ⟨[aS b1 0 2 2, aU, some (.slice none 0 0), aS (L2 2).b 0 2 2, aU, aU, aU, aU, aS b1 0 2 2, aI 2, aS (L2 2).b 0 2 2, aS b1 0 2 2, aI 2, aI 0, aT, aU, aU, aU, aU, aU, aU, aU, aU, aU, aU, aU, aU, aU, aU, aU, aU, aU, aU, aU, aU, aU, aU, aU, aU, aU, aU, aU, aU, aU, aU, aU, aU, aU, aU, aU, aU, aU, aU, aU, aU, aU], [.blk (b1) [.string (ByteArray.mk #[119, 101, 100, 103, 101]), aN 100, aN 50, .slice none 0 0, .bool (true), aN 0, aN 0, aN 200, .string (ByteArray.mk #[103, 97, 105, 110]), aN 50, aN 50, .slice (some ⟨b2, 0, none⟩) (1) (1), .bool (false), aN 0, aN 0, aN 0] 179 false, .blk (b2) [aN 0] 3 false, .blk ((L2 2).b) [aN 0, aN 0] 3 true], []⟩)
    (fun L4 => [])
    fol (by kernel_rfl) (fun _ => by kernel_rfl) (fun L4 => trivial) (fun L4 => ?_)
  refine aw_seq ?_
  refine aw_true (true) rfl rfl ?_
  refine aw_skip ?_
  refine nrm_thn ?_
  refine aw_seq ?_
  refine aw_block ?_
  refine aw_sr [⟨.pure, [], none, true⟩, ⟨.pure, [], none, true⟩, ⟨(.read 0), [1], none, true⟩, ⟨.new, [], none, true⟩, ⟨.pure, [0, 1, 2, 3], none, true⟩, ⟨(.write 6), [0, 1, 2, 3, 4], none, true⟩]
    (fun L5 => ⟨[aS b1 0 2 2, aU, some (.slice none 0 0), aS (L2 2).b 0 2 2, aI 0, aP (L5 3).b 0, aU, aU, aS b1 0 2 2, aI 2, aS (L2 2).b 0 2 2, aS b1 0 2 2, aI 2, aI 0, aT, aI 0, aP b1 0, some (.agg #[.string (ByteArray.mk #[119, 101, 100, 103, 101]), aN 100, aN 50, .slice none 0 0, .bool (true), aN 0, aN 0, aN 200]), aU, aU, aU, aU, aU, aU, aU, aU, aU, aU, aU, aU, aU, aU, aU, aU, aU, aU, aU, aU, aU, aU, aU, aU, aU, aU, aU, aU, aU, aU, aU, aU, aU, aU, aU, aU, aU, aU], [.blk (b1) [.string (ByteArray.mk #[119, 101, 100, 103, 101]), aN 100, aN 50, .slice none 0 0, .bool (true), aN 0, aN 0, aN 200, .string (ByteArray.mk #[103, 97, 105, 110]), aN 50, aN 50, .slice (some ⟨b2, 0, none⟩) (1) (1), .bool (false), aN 0, aN 0, aN 0] 179 false, .blk (b2) [aN 0] 3 false, .blk ((L2 2).b) [aN 0, aN 0] 3 true, .blk ((L5 3).b) [.string (ByteArray.mk #[119, 101, 100, 103, 101]), aN 100, aN 50, .slice none 0 0, .bool (true), aN 0, aN 0, aN 200] 179 true], []⟩)
    (fun L5 => [b1 = b1, 0 + 8 ≤ 16, (L5 3).b = (L5 3).b, 0 + 8 ≤ 8, 8 = 8, true = true])
    fol (by kernel_rfl) (fun _ => by kernel_rfl) (fun L5 => ⟨rfl, (by decide), rfl, (by decide), rfl, rfl, trivial⟩) (fun L5 => ?_)
  refine aw_sr [⟨.pure, [], none, true⟩, ⟨.pure, [], none, true⟩, ⟨.pure, [0, 1], none, true⟩, ⟨(.write 2), [0, 1, 2], none, true⟩]
    (fun L6 => ⟨[aS b1 0 2 2, aU, some (.slice none 0 0), aS (L2 2).b 0 2 2, aI 0, aP (L5 3).b 0, aU, aU, aS b1 0 2 2, aI 2, aS (L2 2).b 0 2 2, aS b1 0 2 2, aI 2, aI 0, aT, aI 0, aP b1 0, some (.agg #[.string (ByteArray.mk #[119, 101, 100, 103, 101]), aN 100, aN 50, .slice none 0 0, .bool (true), aN 0, aN 0, aN 200]), aS (L2 2).b 0 2 2, aI 0, aP (L2 2).b 0, aU, aU, aU, aU, aU, aU, aU, aU, aU, aU, aU, aU, aU, aU, aU, aU, aU, aU, aU, aU, aU, aU, aU, aU, aU, aU, aU, aU, aU, aU, aU, aU, aU, aU, aU], [.blk (b1) [.string (ByteArray.mk #[119, 101, 100, 103, 101]), aN 100, aN 50, .slice none 0 0, .bool (true), aN 0, aN 0, aN 200, .string (ByteArray.mk #[103, 97, 105, 110]), aN 50, aN 50, .slice (some ⟨b2, 0, none⟩) (1) (1), .bool (false), aN 0, aN 0, aN 0] 179 false, .blk (b2) [aN 0] 3 false, .blk ((L2 2).b) [aN (-1), aN 0] 3 true, .blk ((L5 3).b) [.string (ByteArray.mk #[119, 101, 100, 103, 101]), aN 100, aN 50, .slice none 0 0, .bool (true), aN 0, aN 0, aN 200] 179 true], []⟩)
    (fun L6 => [(L2 2).b = (L2 2).b, 0 + 1 ≤ 2, 1 = 1, true = true])
    fol (by kernel_rfl) (fun _ => by kernel_rfl) (fun L6 => ⟨rfl, (by decide), rfl, rfl, trivial⟩) (fun L6 => ?_)
  refine aw_seq ?_
  refine aw_sr [⟨.pure, [], none, true⟩, ⟨(.read 3), [0], none, true⟩]
    (fun L7 => ⟨[aS b1 0 2 2, aU, some (.slice none 0 0), aS (L2 2).b 0 2 2, aI 0, aP (L5 3).b 0, aU, aU, aS b1 0 2 2, aI 2, aS (L2 2).b 0 2 2, aS b1 0 2 2, aI 2, aI 0, aT, aI 0, aP b1 0, some (.agg #[.string (ByteArray.mk #[119, 101, 100, 103, 101]), aN 100, aN 50, .slice none 0 0, .bool (true), aN 0, aN 0, aN 200]), aS (L2 2).b 0 2 2, aI 0, aP (L2 2).b 0, aP (L5 3).b 4, aT, aU, aU, aU, aU, aU, aU, aU, aU, aU, aU, aU, aU, aU, aU, aU, aU, aU, aU, aU, aU, aU, aU, aU, aU, aU, aU, aU, aU, aU, aU, aU, aU, aU], [.blk (b1) [.string (ByteArray.mk #[119, 101, 100, 103, 101]), aN 100, aN 50, .slice none 0 0, .bool (true), aN 0, aN 0, aN 200, .string (ByteArray.mk #[103, 97, 105, 110]), aN 50, aN 50, .slice (some ⟨b2, 0, none⟩) (1) (1), .bool (false), aN 0, aN 0, aN 0] 179 false, .blk (b2) [aN 0] 3 false, .blk ((L2 2).b) [aN (-1), aN 0] 3 true, .blk ((L5 3).b) [.string (ByteArray.mk #[119, 101, 100, 103, 101]), aN 100, aN 50, .slice none 0 0, .bool (true), aN 0, aN 0, aN 200] 179 true], []⟩)
    (fun L7 => [(L5 3).b = (L5 3).b])
    fol (by kernel_rfl) (fun _ => by kernel_rfl) (fun L7 => ⟨rfl, trivial⟩) (fun L7 => ?_)
  refine aw_true (true) rfl rfl ?_
  refine aw_region [⟨.pure, [], none, true⟩, ⟨.pure, [], none, true⟩, ⟨.pure, [], none, true⟩, ⟨.pure, [2], none, true⟩, ⟨(.read 3), [2, 3], none, true⟩, ⟨.pure, [], none, true⟩, ⟨.pure, [5], none, true⟩, ⟨(.read 3), [5, 6], none, true⟩, ⟨.pure, [2, 3, 4, 5, 6, 7], none, true⟩, ⟨.pure, [0, 1, 2, 3, 4, 5, 6, 7, 8], none, true⟩, ⟨(.write 2), [0, 1, 2, 3, 4, 5, 6, 7, 8, 9], none, true⟩]
    (fun L8 => ⟨[aS b1 0 2 2, aU, some (.slice none 0 0), aS (L2 2).b 0 2 2, aI 0, aP (L5 3).b 0, aU, aU, aS b1 0 2 2, aI 2, aS (L2 2).b 0 2 2, aS b1 0 2 2, aI 2, aI 0, aT, aI 0, aP b1 0, some (.agg #[.string (ByteArray.mk #[119, 101, 100, 103, 101]), aN 100, aN 50, .slice none 0 0, .bool (true), aN 0, aN 0, aN 200]), aS (L2 2).b 0 2 2, aI 0, aP (L2 2).b 0, aP (L5 3).b 4, aT, aS (L2 2).b 0 2 2, aI 0, aP (L5 3).b 5, aP (L5 3).b 5, aI 0, aP (L5 3).b 0, aP (L5 3).b 1, aI 100, aI 100, aP (L2 2).b 0, aU, aU, aU, aU, aU, aU, aU, aU, aU, aU, aU, aU, aU, aU, aU, aU, aU, aU, aU, aU, aU, aU, aU], [.blk (b1) [.string (ByteArray.mk #[119, 101, 100, 103, 101]), aN 100, aN 50, .slice none 0 0, .bool (true), aN 0, aN 0, aN 200, .string (ByteArray.mk #[103, 97, 105, 110]), aN 50, aN 50, .slice (some ⟨b2, 0, none⟩) (1) (1), .bool (false), aN 0, aN 0, aN 0] 179 false, .blk (b2) [aN 0] 3 false, .blk ((L2 2).b) [aN 100, aN 0] 3 true, .blk ((L5 3).b) [.string (ByteArray.mk #[119, 101, 100, 103, 101]), aN 100, aN 50, .slice none 0 0, .bool (true), aN 0, aN 0, aN 200] 179 true], []⟩)
    (fun L8 => [(L5 3).b = (L5 3).b, (L5 3).b = (L5 3).b, (L2 2).b = (L2 2).b, 0 + 1 ≤ 2, 1 = 1, true = true])
    fol (by kernel_rfl) (fun _ => by kernel_rfl) (fun L8 => ⟨rfl, rfl, rfl, (by decide), rfl, rfl, trivial⟩) (fun L8 => ?_)
  refine nrm_thn ?_
  refine aw_sr [⟨.pure, [], none, true⟩, ⟨.pure, [0], none, true⟩, ⟨(.read 3), [0, 1], none, true⟩, ⟨.pure, [0, 1, 2], none, true⟩, ⟨.pure, [], none, true⟩]
    (fun L9 => ⟨[aS b1 0 2 2, aU, some (.slice none 0 0), aS (L2 2).b 0 2 2, aI 0, aP (L5 3).b 0, aU, aU, aS b1 0 2 2, aI 2, aS (L2 2).b 0 2 2, aS b1 0 2 2, aI 2, aI 0, aT, aI 0, aP b1 0, some (.agg #[.string (ByteArray.mk #[119, 101, 100, 103, 101]), aN 100, aN 50, .slice none 0 0, .bool (true), aN 0, aN 0, aN 200]), aS (L2 2).b 0 2 2, aI 0, aP (L2 2).b 0, aP (L5 3).b 4, aT, aS (L2 2).b 0 2 2, aI 0, aP (L5 3).b 5, aP (L5 3).b 5, aI 0, aP (L5 3).b 0, aP (L5 3).b 1, aI 100, aI 100, aP (L2 2).b 0, aP (L5 3).b 0, aP (L5 3).b 3, some (.slice none 0 0), aI 0, aI 0, aU, aU, aU, aU, aU, aU, aU, aU, aU, aU, aU, aU, aU, aU, aU, aU, aU, aU], [.blk (b1) [.string (ByteArray.mk #[119, 101, 100, 103, 101]), aN 100, aN 50, .slice none 0 0, .bool (true), aN 0, aN 0, aN 200, .string (ByteArray.mk #[103, 97, 105, 110]), aN 50, aN 50, .slice (some ⟨b2, 0, none⟩) (1) (1), .bool (false), aN 0, aN 0, aN 0] 179 false, .blk (b2) [aN 0] 3 false, .blk ((L2 2).b) [aN 100, aN 0] 3 true, .blk ((L5 3).b) [.string (ByteArray.mk #[119, 101, 100, 103, 101]), aN 100, aN 50, .slice none 0 0, .bool (true), aN 0, aN 0, aN 200] 179 true], []⟩)
    (fun L9 => [(L5 3).b = (L5 3).b])
    fol (by kernel_rfl) (fun _ => by kernel_rfl) (fun L9 => ⟨rfl, trivial⟩) (fun L9 => ?_)
  refine aw_block ?_
  refine aw_rounds 1 ?_
  refine aw_round ?_
  refine aw_sr [⟨.pure, [], none, true⟩]
    (fun L10 => ⟨[aS b1 0 2 2, aU, some (.slice none 0 0), aS (L2 2).b 0 2 2, aI 0, aP (L5 3).b 0, aU, aU, aS b1 0 2 2, aI 2, aS (L2 2).b 0 2 2, aS b1 0 2 2, aI 2, aI 0, aT, aI 0, aP b1 0, some (.agg #[.string (ByteArray.mk #[119, 101, 100, 103, 101]), aN 100, aN 50, .slice none 0 0, .bool (true), aN 0, aN 0, aN 200]), aS (L2 2).b 0 2 2, aI 0, aP (L2 2).b 0, aP (L5 3).b 4, aT, aS (L2 2).b 0 2 2, aI 0, aP (L5 3).b 5, aP (L5 3).b 5, aI 0, aP (L5 3).b 0, aP (L5 3).b 1, aI 100, aI 100, aP (L2 2).b 0, aP (L5 3).b 0, aP (L5 3).b 3, some (.slice none 0 0), aI 0, aI 0, aF, aU, aU, aU, aU, aU, aU, aU, aU, aU, aU, aU, aU, aU, aU, aU, aU, aU], [.blk (b1) [.string (ByteArray.mk #[119, 101, 100, 103, 101]), aN 100, aN 50, .slice none 0 0, .bool (true), aN 0, aN 0, aN 200, .string (ByteArray.mk #[103, 97, 105, 110]), aN 50, aN 50, .slice (some ⟨b2, 0, none⟩) (1) (1), .bool (false), aN 0, aN 0, aN 0] 179 false, .blk (b2) [aN 0] 3 false, .blk ((L2 2).b) [aN 100, aN 0] 3 true, .blk ((L5 3).b) [.string (ByteArray.mk #[119, 101, 100, 103, 101]), aN 100, aN 50, .slice none 0 0, .bool (true), aN 0, aN 0, aN 200] 179 true], []⟩)
    (fun L10 => [])
    fol (by kernel_rfl) (fun _ => by kernel_rfl) (fun L10 => trivial) (fun L10 => ?_)
  refine aw_seq ?_
  refine aw_false (false) rfl rfl ?_
  refine aw_exit ?_
  refine ex_thn ?_
  refine ex_thn ?_
  refine ex_hit ?_
  refine nrm_inB ?_
  refine nrm_thn ?_
  refine aw_region [⟨.pure, [], none, true⟩, ⟨.pure, [0], none, true⟩]
    (fun L11 => ⟨[aS b1 0 2 2, aU, some (.slice none 0 0), aS (L2 2).b 0 2 2, aI 0, aP (L5 3).b 0, aU, aU, aS b1 0 2 2, aI 2, aS (L2 2).b 0 2 2, aS b1 0 2 2, aI 2, aI 1, aT, aI 0, aP b1 0, some (.agg #[.string (ByteArray.mk #[119, 101, 100, 103, 101]), aN 100, aN 50, .slice none 0 0, .bool (true), aN 0, aN 0, aN 200]), aS (L2 2).b 0 2 2, aI 0, aP (L2 2).b 0, aP (L5 3).b 4, aT, aS (L2 2).b 0 2 2, aI 0, aP (L5 3).b 5, aP (L5 3).b 5, aI 0, aP (L5 3).b 0, aP (L5 3).b 1, aI 100, aI 100, aP (L2 2).b 0, aP (L5 3).b 0, aP (L5 3).b 3, some (.slice none 0 0), aI 0, aI 0, aF, aU, aU, aU, aU, aU, aU, aU, aU, aU, aU, aU, aU, aU, aU, aU, aI 1, aU], [.blk (b1) [.string (ByteArray.mk #[119, 101, 100, 103, 101]), aN 100, aN 50, .slice none 0 0, .bool (true), aN 0, aN 0, aN 200, .string (ByteArray.mk #[103, 97, 105, 110]), aN 50, aN 50, .slice (some ⟨b2, 0, none⟩) (1) (1), .bool (false), aN 0, aN 0, aN 0] 179 false, .blk (b2) [aN 0] 3 false, .blk ((L2 2).b) [aN 100, aN 0] 3 true, .blk ((L5 3).b) [.string (ByteArray.mk #[119, 101, 100, 103, 101]), aN 100, aN 50, .slice none 0 0, .bool (true), aN 0, aN 0, aN 200] 179 true], []⟩)
    (fun L11 => [])
    fol (by kernel_rfl) (fun _ => by kernel_rfl) (fun L11 => trivial) (fun L11 => ?_)
  refine nrm_thn ?_
  refine aw_round ?_
  refine aw_sr [⟨.pure, [], none, true⟩]
    (fun L12 => ⟨[aS b1 0 2 2, aU, some (.slice none 0 0), aS (L2 2).b 0 2 2, aI 0, aP (L5 3).b 0, aU, aU, aS b1 0 2 2, aI 2, aS (L2 2).b 0 2 2, aS b1 0 2 2, aI 2, aI 1, aT, aI 0, aP b1 0, some (.agg #[.string (ByteArray.mk #[119, 101, 100, 103, 101]), aN 100, aN 50, .slice none 0 0, .bool (true), aN 0, aN 0, aN 200]), aS (L2 2).b 0 2 2, aI 0, aP (L2 2).b 0, aP (L5 3).b 4, aT, aS (L2 2).b 0 2 2, aI 0, aP (L5 3).b 5, aP (L5 3).b 5, aI 0, aP (L5 3).b 0, aP (L5 3).b 1, aI 100, aI 100, aP (L2 2).b 0, aP (L5 3).b 0, aP (L5 3).b 3, some (.slice none 0 0), aI 0, aI 0, aF, aU, aU, aU, aU, aU, aU, aU, aU, aU, aU, aU, aU, aU, aU, aU, aI 1, aU], [.blk (b1) [.string (ByteArray.mk #[119, 101, 100, 103, 101]), aN 100, aN 50, .slice none 0 0, .bool (true), aN 0, aN 0, aN 200, .string (ByteArray.mk #[103, 97, 105, 110]), aN 50, aN 50, .slice (some ⟨b2, 0, none⟩) (1) (1), .bool (false), aN 0, aN 0, aN 0] 179 false, .blk (b2) [aN 0] 3 false, .blk ((L2 2).b) [aN 100, aN 0] 3 true, .blk ((L5 3).b) [.string (ByteArray.mk #[119, 101, 100, 103, 101]), aN 100, aN 50, .slice none 0 0, .bool (true), aN 0, aN 0, aN 200] 179 true], []⟩)
    (fun L12 => [])
    fol (by kernel_rfl) (fun _ => by kernel_rfl) (fun L12 => trivial) (fun L12 => ?_)
  refine aw_seq ?_
  refine aw_true (true) rfl rfl ?_
  refine aw_skip ?_
  refine nrm_thn ?_
  refine aw_seq ?_
  refine aw_block ?_
  refine aw_sr [⟨.pure, [], none, true⟩, ⟨.pure, [], none, true⟩, ⟨(.read 0), [1], none, true⟩, ⟨.new, [], none, true⟩, ⟨.pure, [0, 1, 2, 3], none, true⟩, ⟨(.write 7), [0, 1, 2, 3, 4], none, true⟩]
    (fun L13 => ⟨[aS b1 0 2 2, aU, some (.slice none 0 0), aS (L2 2).b 0 2 2, aI 1, aP (L13 3).b 0, aU, aU, aS b1 0 2 2, aI 2, aS (L2 2).b 0 2 2, aS b1 0 2 2, aI 2, aI 1, aT, aI 1, aP b1 8, some (.agg #[.string (ByteArray.mk #[103, 97, 105, 110]), aN 50, aN 50, .slice (some ⟨b2, 0, none⟩) (1) (1), .bool (false), aN 0, aN 0, aN 0]), aS (L2 2).b 0 2 2, aI 0, aP (L2 2).b 0, aP (L5 3).b 4, aT, aS (L2 2).b 0 2 2, aI 0, aP (L5 3).b 5, aP (L5 3).b 5, aI 0, aP (L5 3).b 0, aP (L5 3).b 1, aI 100, aI 100, aP (L2 2).b 0, aP (L5 3).b 0, aP (L5 3).b 3, some (.slice none 0 0), aI 0, aI 0, aF, aU, aU, aU, aU, aU, aU, aU, aU, aU, aU, aU, aU, aU, aU, aU, aI 1, aU], [.blk (b1) [.string (ByteArray.mk #[119, 101, 100, 103, 101]), aN 100, aN 50, .slice none 0 0, .bool (true), aN 0, aN 0, aN 200, .string (ByteArray.mk #[103, 97, 105, 110]), aN 50, aN 50, .slice (some ⟨b2, 0, none⟩) (1) (1), .bool (false), aN 0, aN 0, aN 0] 179 false, .blk (b2) [aN 0] 3 false, .blk ((L2 2).b) [aN 100, aN 0] 3 true, .blk ((L5 3).b) [.string (ByteArray.mk #[119, 101, 100, 103, 101]), aN 100, aN 50, .slice none 0 0, .bool (true), aN 0, aN 0, aN 200] 179 true, .blk ((L13 3).b) [.string (ByteArray.mk #[103, 97, 105, 110]), aN 50, aN 50, .slice (some ⟨b2, 0, none⟩) (1) (1), .bool (false), aN 0, aN 0, aN 0] 179 true], []⟩)
    (fun L13 => [b1 = b1, 8 + 8 ≤ 16, (L13 3).b = (L13 3).b, 0 + 8 ≤ 8, 8 = 8, true = true])
    fol (by kernel_rfl) (fun _ => by kernel_rfl) (fun L13 => ⟨rfl, (by decide), rfl, (by decide), rfl, rfl, trivial⟩) (fun L13 => ?_)
  refine aw_sr [⟨.pure, [], none, true⟩, ⟨.pure, [], none, true⟩, ⟨.pure, [0, 1], none, true⟩, ⟨(.write 2), [0, 1, 2], none, true⟩]
    (fun L14 => ⟨[aS b1 0 2 2, aU, some (.slice none 0 0), aS (L2 2).b 0 2 2, aI 1, aP (L13 3).b 0, aU, aU, aS b1 0 2 2, aI 2, aS (L2 2).b 0 2 2, aS b1 0 2 2, aI 2, aI 1, aT, aI 1, aP b1 8, some (.agg #[.string (ByteArray.mk #[103, 97, 105, 110]), aN 50, aN 50, .slice (some ⟨b2, 0, none⟩) (1) (1), .bool (false), aN 0, aN 0, aN 0]), aS (L2 2).b 0 2 2, aI 1, aP (L2 2).b 1, aP (L5 3).b 4, aT, aS (L2 2).b 0 2 2, aI 0, aP (L5 3).b 5, aP (L5 3).b 5, aI 0, aP (L5 3).b 0, aP (L5 3).b 1, aI 100, aI 100, aP (L2 2).b 0, aP (L5 3).b 0, aP (L5 3).b 3, some (.slice none 0 0), aI 0, aI 0, aF, aU, aU, aU, aU, aU, aU, aU, aU, aU, aU, aU, aU, aU, aU, aU, aI 1, aU], [.blk (b1) [.string (ByteArray.mk #[119, 101, 100, 103, 101]), aN 100, aN 50, .slice none 0 0, .bool (true), aN 0, aN 0, aN 200, .string (ByteArray.mk #[103, 97, 105, 110]), aN 50, aN 50, .slice (some ⟨b2, 0, none⟩) (1) (1), .bool (false), aN 0, aN 0, aN 0] 179 false, .blk (b2) [aN 0] 3 false, .blk ((L2 2).b) [aN 100, aN (-1)] 3 true, .blk ((L5 3).b) [.string (ByteArray.mk #[119, 101, 100, 103, 101]), aN 100, aN 50, .slice none 0 0, .bool (true), aN 0, aN 0, aN 200] 179 true, .blk ((L13 3).b) [.string (ByteArray.mk #[103, 97, 105, 110]), aN 50, aN 50, .slice (some ⟨b2, 0, none⟩) (1) (1), .bool (false), aN 0, aN 0, aN 0] 179 true], []⟩)
    (fun L14 => [(L2 2).b = (L2 2).b, 1 + 1 ≤ 2, 1 = 1, true = true])
    fol (by kernel_rfl) (fun _ => by kernel_rfl) (fun L14 => ⟨rfl, (by decide), rfl, rfl, trivial⟩) (fun L14 => ?_)
  refine aw_seq ?_
  refine aw_sr [⟨.pure, [], none, true⟩, ⟨(.read 4), [0], none, true⟩]
    (fun L15 => ⟨[aS b1 0 2 2, aU, some (.slice none 0 0), aS (L2 2).b 0 2 2, aI 1, aP (L13 3).b 0, aU, aU, aS b1 0 2 2, aI 2, aS (L2 2).b 0 2 2, aS b1 0 2 2, aI 2, aI 1, aT, aI 1, aP b1 8, some (.agg #[.string (ByteArray.mk #[103, 97, 105, 110]), aN 50, aN 50, .slice (some ⟨b2, 0, none⟩) (1) (1), .bool (false), aN 0, aN 0, aN 0]), aS (L2 2).b 0 2 2, aI 1, aP (L2 2).b 1, aP (L13 3).b 4, aF, aS (L2 2).b 0 2 2, aI 0, aP (L5 3).b 5, aP (L5 3).b 5, aI 0, aP (L5 3).b 0, aP (L5 3).b 1, aI 100, aI 100, aP (L2 2).b 0, aP (L5 3).b 0, aP (L5 3).b 3, some (.slice none 0 0), aI 0, aI 0, aF, aU, aU, aU, aU, aU, aU, aU, aU, aU, aU, aU, aU, aU, aU, aU, aI 1, aU], [.blk (b1) [.string (ByteArray.mk #[119, 101, 100, 103, 101]), aN 100, aN 50, .slice none 0 0, .bool (true), aN 0, aN 0, aN 200, .string (ByteArray.mk #[103, 97, 105, 110]), aN 50, aN 50, .slice (some ⟨b2, 0, none⟩) (1) (1), .bool (false), aN 0, aN 0, aN 0] 179 false, .blk (b2) [aN 0] 3 false, .blk ((L2 2).b) [aN 100, aN (-1)] 3 true, .blk ((L5 3).b) [.string (ByteArray.mk #[119, 101, 100, 103, 101]), aN 100, aN 50, .slice none 0 0, .bool (true), aN 0, aN 0, aN 200] 179 true, .blk ((L13 3).b) [.string (ByteArray.mk #[103, 97, 105, 110]), aN 50, aN 50, .slice (some ⟨b2, 0, none⟩) (1) (1), .bool (false), aN 0, aN 0, aN 0] 179 true], []⟩)
    (fun L15 => [(L13 3).b = (L13 3).b])
    fol (by kernel_rfl) (fun _ => by kernel_rfl) (fun L15 => ⟨rfl, trivial⟩) (fun L15 => ?_)
  refine aw_false (false) rfl rfl ?_
  refine aw_skip ?_
  refine nrm_thn ?_
  refine aw_sr [⟨.pure, [], none, true⟩, ⟨.pure, [0], none, true⟩, ⟨(.read 4), [0, 1], none, true⟩, ⟨.pure, [0, 1, 2], none, true⟩, ⟨.pure, [], none, true⟩]
    (fun L16 => ⟨[aS b1 0 2 2, aU, some (.slice none 0 0), aS (L2 2).b 0 2 2, aI 1, aP (L13 3).b 0, aU, aU, aS b1 0 2 2, aI 2, aS (L2 2).b 0 2 2, aS b1 0 2 2, aI 2, aI 1, aT, aI 1, aP b1 8, some (.agg #[.string (ByteArray.mk #[103, 97, 105, 110]), aN 50, aN 50, .slice (some ⟨b2, 0, none⟩) (1) (1), .bool (false), aN 0, aN 0, aN 0]), aS (L2 2).b 0 2 2, aI 1, aP (L2 2).b 1, aP (L13 3).b 4, aF, aS (L2 2).b 0 2 2, aI 0, aP (L5 3).b 5, aP (L5 3).b 5, aI 0, aP (L5 3).b 0, aP (L5 3).b 1, aI 100, aI 100, aP (L2 2).b 0, aP (L13 3).b 0, aP (L13 3).b 3, aS b2 0 1 1, aI 1, aI 0, aF, aU, aU, aU, aU, aU, aU, aU, aU, aU, aU, aU, aU, aU, aU, aU, aI 1, aU], [.blk (b1) [.string (ByteArray.mk #[119, 101, 100, 103, 101]), aN 100, aN 50, .slice none 0 0, .bool (true), aN 0, aN 0, aN 200, .string (ByteArray.mk #[103, 97, 105, 110]), aN 50, aN 50, .slice (some ⟨b2, 0, none⟩) (1) (1), .bool (false), aN 0, aN 0, aN 0] 179 false, .blk (b2) [aN 0] 3 false, .blk ((L2 2).b) [aN 100, aN (-1)] 3 true, .blk ((L5 3).b) [.string (ByteArray.mk #[119, 101, 100, 103, 101]), aN 100, aN 50, .slice none 0 0, .bool (true), aN 0, aN 0, aN 200] 179 true, .blk ((L13 3).b) [.string (ByteArray.mk #[103, 97, 105, 110]), aN 50, aN 50, .slice (some ⟨b2, 0, none⟩) (1) (1), .bool (false), aN 0, aN 0, aN 0] 179 true], []⟩)
    (fun L16 => [(L13 3).b = (L13 3).b])
    fol (by kernel_rfl) (fun _ => by kernel_rfl) (fun L16 => ⟨rfl, trivial⟩) (fun L16 => ?_)
  refine aw_block ?_
  refine aw_rounds 2 ?_
  refine aw_round ?_
  refine aw_sr [⟨.pure, [], none, true⟩]
    (fun L17 => ⟨[aS b1 0 2 2, aU, some (.slice none 0 0), aS (L2 2).b 0 2 2, aI 1, aP (L13 3).b 0, aU, aU, aS b1 0 2 2, aI 2, aS (L2 2).b 0 2 2, aS b1 0 2 2, aI 2, aI 1, aT, aI 1, aP b1 8, some (.agg #[.string (ByteArray.mk #[103, 97, 105, 110]), aN 50, aN 50, .slice (some ⟨b2, 0, none⟩) (1) (1), .bool (false), aN 0, aN 0, aN 0]), aS (L2 2).b 0 2 2, aI 1, aP (L2 2).b 1, aP (L13 3).b 4, aF, aS (L2 2).b 0 2 2, aI 0, aP (L5 3).b 5, aP (L5 3).b 5, aI 0, aP (L5 3).b 0, aP (L5 3).b 1, aI 100, aI 100, aP (L2 2).b 0, aP (L13 3).b 0, aP (L13 3).b 3, aS b2 0 1 1, aI 1, aI 0, aT, aU, aU, aU, aU, aU, aU, aU, aU, aU, aU, aU, aU, aU, aU, aU, aI 1, aU], [.blk (b1) [.string (ByteArray.mk #[119, 101, 100, 103, 101]), aN 100, aN 50, .slice none 0 0, .bool (true), aN 0, aN 0, aN 200, .string (ByteArray.mk #[103, 97, 105, 110]), aN 50, aN 50, .slice (some ⟨b2, 0, none⟩) (1) (1), .bool (false), aN 0, aN 0, aN 0] 179 false, .blk (b2) [aN 0] 3 false, .blk ((L2 2).b) [aN 100, aN (-1)] 3 true, .blk ((L5 3).b) [.string (ByteArray.mk #[119, 101, 100, 103, 101]), aN 100, aN 50, .slice none 0 0, .bool (true), aN 0, aN 0, aN 200] 179 true, .blk ((L13 3).b) [.string (ByteArray.mk #[103, 97, 105, 110]), aN 50, aN 50, .slice (some ⟨b2, 0, none⟩) (1) (1), .bool (false), aN 0, aN 0, aN 0] 179 true], []⟩)
    (fun L17 => [])
    fol (by kernel_rfl) (fun _ => by kernel_rfl) (fun L17 => trivial) (fun L17 => ?_)
  refine aw_seq ?_
  refine aw_true (true) rfl rfl ?_
  refine aw_skip ?_
  refine nrm_thn ?_
  refine aw_seq ?_
  refine aw_block ?_
  refine aw_sr [⟨.pure, [], none, true⟩, ⟨(.read 1), [0], none, true⟩, ⟨.pure, [0, 1], none, true⟩]
    (fun L18 => ⟨[aS b1 0 2 2, aU, some (.slice none 0 0), aS (L2 2).b 0 2 2, aI 1, aP (L13 3).b 0, aU, aI 0, aS b1 0 2 2, aI 2, aS (L2 2).b 0 2 2, aS b1 0 2 2, aI 2, aI 1, aT, aI 1, aP b1 8, some (.agg #[.string (ByteArray.mk #[103, 97, 105, 110]), aN 50, aN 50, .slice (some ⟨b2, 0, none⟩) (1) (1), .bool (false), aN 0, aN 0, aN 0]), aS (L2 2).b 0 2 2, aI 1, aP (L2 2).b 1, aP (L13 3).b 4, aF, aS (L2 2).b 0 2 2, aI 0, aP (L5 3).b 5, aP (L5 3).b 5, aI 0, aP (L5 3).b 0, aP (L5 3).b 1, aI 100, aI 100, aP (L2 2).b 0, aP (L13 3).b 0, aP (L13 3).b 3, aS b2 0 1 1, aI 1, aI 0, aT, aP b2 0, aI 0, aU, aU, aU, aU, aU, aU, aU, aU, aU, aU, aU, aU, aU, aI 1, aU], [.blk (b1) [.string (ByteArray.mk #[119, 101, 100, 103, 101]), aN 100, aN 50, .slice none 0 0, .bool (true), aN 0, aN 0, aN 200, .string (ByteArray.mk #[103, 97, 105, 110]), aN 50, aN 50, .slice (some ⟨b2, 0, none⟩) (1) (1), .bool (false), aN 0, aN 0, aN 0] 179 false, .blk (b2) [aN 0] 3 false, .blk ((L2 2).b) [aN 100, aN (-1)] 3 true, .blk ((L5 3).b) [.string (ByteArray.mk #[119, 101, 100, 103, 101]), aN 100, aN 50, .slice none 0 0, .bool (true), aN 0, aN 0, aN 200] 179 true, .blk ((L13 3).b) [.string (ByteArray.mk #[103, 97, 105, 110]), aN 50, aN 50, .slice (some ⟨b2, 0, none⟩) (1) (1), .bool (false), aN 0, aN 0, aN 0] 179 true], []⟩)
    (fun L18 => [b2 = b2])
    fol (by kernel_rfl) (fun _ => by kernel_rfl) (fun L18 => ⟨rfl, trivial⟩) (fun L18 => ?_)
  refine aw_region [⟨.pure, [], none, true⟩, ⟨.pure, [], none, true⟩, ⟨.pure, [], none, true⟩, ⟨.pure, [], none, true⟩, ⟨.pure, [2, 3], none, true⟩, ⟨(.read 2), [2, 3, 4], none, true⟩, ⟨.pure, [], none, true⟩, ⟨.pure, [], none, true⟩, ⟨.pure, [6, 7], none, true⟩, ⟨(.read 2), [6, 7, 8], none, true⟩, ⟨.pure, [2, 3, 4, 5, 6, 7, 8, 9], none, true⟩, ⟨.pure, [0, 1, 2, 3, 4, 5, 6, 7, 8, 9, 10], none, true⟩, ⟨(.write 2), [0, 1, 2, 3, 4, 5, 6, 7, 8, 9, 10, 11], none, true⟩]
    (fun L19 => ⟨[aS b1 0 2 2, aU, some (.slice none 0 0), aS (L2 2).b 0 2 2, aI 1, aP (L13 3).b 0, aU, aI 0, aS b1 0 2 2, aI 2, aS (L2 2).b 0 2 2, aS b1 0 2 2, aI 2, aI 1, aT, aI 1, aP b1 8, some (.agg #[.string (ByteArray.mk #[103, 97, 105, 110]), aN 50, aN 50, .slice (some ⟨b2, 0, none⟩) (1) (1), .bool (false), aN 0, aN 0, aN 0]), aS (L2 2).b 0 2 2, aI 1, aP (L2 2).b 1, aP (L13 3).b 4, aF, aS (L2 2).b 0 2 2, aI 0, aP (L5 3).b 5, aP (L5 3).b 5, aI 0, aP (L5 3).b 0, aP (L5 3).b 1, aI 100, aI 100, aP (L2 2).b 0, aP (L13 3).b 0, aP (L13 3).b 3, aS b2 0 1 1, aI 1, aI 0, aT, aP b2 0, aI 0, aS (L2 2).b 0 2 2, aI 1, aS (L2 2).b 0 2 2, aI 1, aP (L2 2).b 1, aI (-1), aS (L2 2).b 0 2 2, aI 0, aP (L2 2).b 0, aI 100, aI (-1), aP (L2 2).b 1, aU, aI 1, aU], [.blk (b1) [.string (ByteArray.mk #[119, 101, 100, 103, 101]), aN 100, aN 50, .slice none 0 0, .bool (true), aN 0, aN 0, aN 200, .string (ByteArray.mk #[103, 97, 105, 110]), aN 50, aN 50, .slice (some ⟨b2, 0, none⟩) (1) (1), .bool (false), aN 0, aN 0, aN 0] 179 false, .blk (b2) [aN 0] 3 false, .blk ((L2 2).b) [aN 100, aN (-1)] 3 true, .blk ((L5 3).b) [.string (ByteArray.mk #[119, 101, 100, 103, 101]), aN 100, aN 50, .slice none 0 0, .bool (true), aN 0, aN 0, aN 200] 179 true, .blk ((L13 3).b) [.string (ByteArray.mk #[103, 97, 105, 110]), aN 50, aN 50, .slice (some ⟨b2, 0, none⟩) (1) (1), .bool (false), aN 0, aN 0, aN 0] 179 true], []⟩)
    (fun L19 => [(L2 2).b = (L2 2).b, (L2 2).b = (L2 2).b, (L2 2).b = (L2 2).b, 1 + 1 ≤ 2, 1 = 1, true = true])
    fol (by kernel_rfl) (fun _ => by kernel_rfl) (fun L19 => ⟨rfl, rfl, rfl, (by decide), rfl, rfl, trivial⟩) (fun L19 => ?_)
  refine nrm_inB ?_
  refine nrm_thn ?_
  refine aw_region [⟨.pure, [], none, true⟩, ⟨.pure, [0], none, true⟩]
    (fun L20 => ⟨[aS b1 0 2 2, aU, some (.slice none 0 0), aS (L2 2).b 0 2 2, aI 1, aP (L13 3).b 0, aU, aI 0, aS b1 0 2 2, aI 2, aS (L2 2).b 0 2 2, aS b1 0 2 2, aI 2, aI 1, aT, aI 1, aP b1 8, some (.agg #[.string (ByteArray.mk #[103, 97, 105, 110]), aN 50, aN 50, .slice (some ⟨b2, 0, none⟩) (1) (1), .bool (false), aN 0, aN 0, aN 0]), aS (L2 2).b 0 2 2, aI 1, aP (L2 2).b 1, aP (L13 3).b 4, aF, aS (L2 2).b 0 2 2, aI 0, aP (L5 3).b 5, aP (L5 3).b 5, aI 0, aP (L5 3).b 0, aP (L5 3).b 1, aI 100, aI 100, aP (L2 2).b 0, aP (L13 3).b 0, aP (L13 3).b 3, aS b2 0 1 1, aI 1, aI 1, aT, aP b2 0, aI 0, aS (L2 2).b 0 2 2, aI 1, aS (L2 2).b 0 2 2, aI 1, aP (L2 2).b 1, aI (-1), aS (L2 2).b 0 2 2, aI 0, aP (L2 2).b 0, aI 100, aI (-1), aP (L2 2).b 1, aI 1, aI 1, aU], [.blk (b1) [.string (ByteArray.mk #[119, 101, 100, 103, 101]), aN 100, aN 50, .slice none 0 0, .bool (true), aN 0, aN 0, aN 200, .string (ByteArray.mk #[103, 97, 105, 110]), aN 50, aN 50, .slice (some ⟨b2, 0, none⟩) (1) (1), .bool (false), aN 0, aN 0, aN 0] 179 false, .blk (b2) [aN 0] 3 false, .blk ((L2 2).b) [aN 100, aN (-1)] 3 true, .blk ((L5 3).b) [.string (ByteArray.mk #[119, 101, 100, 103, 101]), aN 100, aN 50, .slice none 0 0, .bool (true), aN 0, aN 0, aN 200] 179 true, .blk ((L13 3).b) [.string (ByteArray.mk #[103, 97, 105, 110]), aN 50, aN 50, .slice (some ⟨b2, 0, none⟩) (1) (1), .bool (false), aN 0, aN 0, aN 0] 179 true], []⟩)
    (fun L20 => [])
    fol (by kernel_rfl) (fun _ => by kernel_rfl) (fun L20 => trivial) (fun L20 => ?_)
  refine nrm_thn ?_
  refine aw_round ?_
  refine aw_sr [⟨.pure, [], none, true⟩]
    (fun L21 => ⟨[aS b1 0 2 2, aU, some (.slice none 0 0), aS (L2 2).b 0 2 2, aI 1, aP (L13 3).b 0, aU, aI 0, aS b1 0 2 2, aI 2, aS (L2 2).b 0 2 2, aS b1 0 2 2, aI 2, aI 1, aT, aI 1, aP b1 8, some (.agg #[.string (ByteArray.mk #[103, 97, 105, 110]), aN 50, aN 50, .slice (some ⟨b2, 0, none⟩) (1) (1), .bool (false), aN 0, aN 0, aN 0]), aS (L2 2).b 0 2 2, aI 1, aP (L2 2).b 1, aP (L13 3).b 4, aF, aS (L2 2).b 0 2 2, aI 0, aP (L5 3).b 5, aP (L5 3).b 5, aI 0, aP (L5 3).b 0, aP (L5 3).b 1, aI 100, aI 100, aP (L2 2).b 0, aP (L13 3).b 0, aP (L13 3).b 3, aS b2 0 1 1, aI 1, aI 1, aF, aP b2 0, aI 0, aS (L2 2).b 0 2 2, aI 1, aS (L2 2).b 0 2 2, aI 1, aP (L2 2).b 1, aI (-1), aS (L2 2).b 0 2 2, aI 0, aP (L2 2).b 0, aI 100, aI (-1), aP (L2 2).b 1, aI 1, aI 1, aU], [.blk (b1) [.string (ByteArray.mk #[119, 101, 100, 103, 101]), aN 100, aN 50, .slice none 0 0, .bool (true), aN 0, aN 0, aN 200, .string (ByteArray.mk #[103, 97, 105, 110]), aN 50, aN 50, .slice (some ⟨b2, 0, none⟩) (1) (1), .bool (false), aN 0, aN 0, aN 0] 179 false, .blk (b2) [aN 0] 3 false, .blk ((L2 2).b) [aN 100, aN (-1)] 3 true, .blk ((L5 3).b) [.string (ByteArray.mk #[119, 101, 100, 103, 101]), aN 100, aN 50, .slice none 0 0, .bool (true), aN 0, aN 0, aN 200] 179 true, .blk ((L13 3).b) [.string (ByteArray.mk #[103, 97, 105, 110]), aN 50, aN 50, .slice (some ⟨b2, 0, none⟩) (1) (1), .bool (false), aN 0, aN 0, aN 0] 179 true], []⟩)
    (fun L21 => [])
    fol (by kernel_rfl) (fun _ => by kernel_rfl) (fun L21 => trivial) (fun L21 => ?_)
  refine aw_seq ?_
  refine aw_false (false) rfl rfl ?_
  refine aw_exit ?_
  refine ex_thn ?_
  refine ex_thn ?_
  refine ex_hit ?_
  refine nrm_inB ?_
  refine nrm_thn ?_
  refine aw_region [⟨.pure, [], none, true⟩, ⟨.pure, [0], none, true⟩]
    (fun L22 => ⟨[aS b1 0 2 2, aU, some (.slice none 0 0), aS (L2 2).b 0 2 2, aI 1, aP (L13 3).b 0, aU, aI 0, aS b1 0 2 2, aI 2, aS (L2 2).b 0 2 2, aS b1 0 2 2, aI 2, aI 2, aT, aI 1, aP b1 8, some (.agg #[.string (ByteArray.mk #[103, 97, 105, 110]), aN 50, aN 50, .slice (some ⟨b2, 0, none⟩) (1) (1), .bool (false), aN 0, aN 0, aN 0]), aS (L2 2).b 0 2 2, aI 1, aP (L2 2).b 1, aP (L13 3).b 4, aF, aS (L2 2).b 0 2 2, aI 0, aP (L5 3).b 5, aP (L5 3).b 5, aI 0, aP (L5 3).b 0, aP (L5 3).b 1, aI 100, aI 100, aP (L2 2).b 0, aP (L13 3).b 0, aP (L13 3).b 3, aS b2 0 1 1, aI 1, aI 1, aF, aP b2 0, aI 0, aS (L2 2).b 0 2 2, aI 1, aS (L2 2).b 0 2 2, aI 1, aP (L2 2).b 1, aI (-1), aS (L2 2).b 0 2 2, aI 0, aP (L2 2).b 0, aI 100, aI (-1), aP (L2 2).b 1, aI 1, aI 2, aU], [.blk (b1) [.string (ByteArray.mk #[119, 101, 100, 103, 101]), aN 100, aN 50, .slice none 0 0, .bool (true), aN 0, aN 0, aN 200, .string (ByteArray.mk #[103, 97, 105, 110]), aN 50, aN 50, .slice (some ⟨b2, 0, none⟩) (1) (1), .bool (false), aN 0, aN 0, aN 0] 179 false, .blk (b2) [aN 0] 3 false, .blk ((L2 2).b) [aN 100, aN (-1)] 3 true, .blk ((L5 3).b) [.string (ByteArray.mk #[119, 101, 100, 103, 101]), aN 100, aN 50, .slice none 0 0, .bool (true), aN 0, aN 0, aN 200] 179 true, .blk ((L13 3).b) [.string (ByteArray.mk #[103, 97, 105, 110]), aN 50, aN 50, .slice (some ⟨b2, 0, none⟩) (1) (1), .bool (false), aN 0, aN 0, aN 0] 179 true], []⟩)
    (fun L22 => [])
    fol (by kernel_rfl) (fun _ => by kernel_rfl) (fun L22 => trivial) (fun L22 => ?_)
  refine nrm_thn ?_
  refine aw_round ?_
  refine aw_sr [⟨.pure, [], none, true⟩]
    (fun L23 => ⟨[aS b1 0 2 2, aU, some (.slice none 0 0), aS (L2 2).b 0 2 2, aI 1, aP (L13 3).b 0, aU, aI 0, aS b1 0 2 2, aI 2, aS (L2 2).b 0 2 2, aS b1 0 2 2, aI 2, aI 2, aF, aI 1, aP b1 8, some (.agg #[.string (ByteArray.mk #[103, 97, 105, 110]), aN 50, aN 50, .slice (some ⟨b2, 0, none⟩) (1) (1), .bool (false), aN 0, aN 0, aN 0]), aS (L2 2).b 0 2 2, aI 1, aP (L2 2).b 1, aP (L13 3).b 4, aF, aS (L2 2).b 0 2 2, aI 0, aP (L5 3).b 5, aP (L5 3).b 5, aI 0, aP (L5 3).b 0, aP (L5 3).b 1, aI 100, aI 100, aP (L2 2).b 0, aP (L13 3).b 0, aP (L13 3).b 3, aS b2 0 1 1, aI 1, aI 1, aF, aP b2 0, aI 0, aS (L2 2).b 0 2 2, aI 1, aS (L2 2).b 0 2 2, aI 1, aP (L2 2).b 1, aI (-1), aS (L2 2).b 0 2 2, aI 0, aP (L2 2).b 0, aI 100, aI (-1), aP (L2 2).b 1, aI 1, aI 2, aU], [.blk (b1) [.string (ByteArray.mk #[119, 101, 100, 103, 101]), aN 100, aN 50, .slice none 0 0, .bool (true), aN 0, aN 0, aN 200, .string (ByteArray.mk #[103, 97, 105, 110]), aN 50, aN 50, .slice (some ⟨b2, 0, none⟩) (1) (1), .bool (false), aN 0, aN 0, aN 0] 179 false, .blk (b2) [aN 0] 3 false, .blk ((L2 2).b) [aN 100, aN (-1)] 3 true, .blk ((L5 3).b) [.string (ByteArray.mk #[119, 101, 100, 103, 101]), aN 100, aN 50, .slice none 0 0, .bool (true), aN 0, aN 0, aN 200] 179 true, .blk ((L13 3).b) [.string (ByteArray.mk #[103, 97, 105, 110]), aN 50, aN 50, .slice (some ⟨b2, 0, none⟩) (1) (1), .bool (false), aN 0, aN 0, aN 0] 179 true], []⟩)
    (fun L23 => [])
    fol (by kernel_rfl) (fun _ => by kernel_rfl) (fun L23 => trivial) (fun L23 => ?_)
  refine aw_seq ?_
  refine aw_false (false) rfl rfl ?_
  refine aw_exit ?_
  refine ex_thn ?_
  refine ex_thn ?_
  refine ex_hit ?_
  refine nrm_thn ?_
  refine aw_sr [⟨.pure, [], none, true⟩, ⟨.pure, [0], none, true⟩]
    (fun L24 => ⟨[aS b1 0 2 2, aU, aS (L2 2).b 0 2 2, aS (L2 2).b 0 2 2, aI 1, aP (L13 3).b 0, aU, aI 0, aS b1 0 2 2, aI 2, aS (L2 2).b 0 2 2, aS b1 0 2 2, aI 2, aI 2, aF, aI 1, aP b1 8, some (.agg #[.string (ByteArray.mk #[103, 97, 105, 110]), aN 50, aN 50, .slice (some ⟨b2, 0, none⟩) (1) (1), .bool (false), aN 0, aN 0, aN 0]), aS (L2 2).b 0 2 2, aI 1, aP (L2 2).b 1, aP (L13 3).b 4, aF, aS (L2 2).b 0 2 2, aI 0, aP (L5 3).b 5, aP (L5 3).b 5, aI 0, aP (L5 3).b 0, aP (L5 3).b 1, aI 100, aI 100, aP (L2 2).b 0, aP (L13 3).b 0, aP (L13 3).b 3, aS b2 0 1 1, aI 1, aI 1, aF, aP b2 0, aI 0, aS (L2 2).b 0 2 2, aI 1, aS (L2 2).b 0 2 2, aI 1, aP (L2 2).b 1, aI (-1), aS (L2 2).b 0 2 2, aI 0, aP (L2 2).b 0, aI 100, aI (-1), aP (L2 2).b 1, aI 1, aI 2, aS (L2 2).b 0 2 2], [.blk (b1) [.string (ByteArray.mk #[119, 101, 100, 103, 101]), aN 100, aN 50, .slice none 0 0, .bool (true), aN 0, aN 0, aN 200, .string (ByteArray.mk #[103, 97, 105, 110]), aN 50, aN 50, .slice (some ⟨b2, 0, none⟩) (1) (1), .bool (false), aN 0, aN 0, aN 0] 179 false, .blk (b2) [aN 0] 3 false, .blk ((L2 2).b) [aN 100, aN (-1)] 3 true, .blk ((L5 3).b) [.string (ByteArray.mk #[119, 101, 100, 103, 101]), aN 100, aN 50, .slice none 0 0, .bool (true), aN 0, aN 0, aN 200] 179 true, .blk ((L13 3).b) [.string (ByteArray.mk #[103, 97, 105, 110]), aN 50, aN 50, .slice (some ⟨b2, 0, none⟩) (1) (1), .bool (false), aN 0, aN 0, aN 0] 179 true], []⟩)
    (fun L24 => [])
    fol (by kernel_rfl) (fun _ => by kernel_rfl) (fun L24 => trivial) (fun L24 => ?_)
  refine aw_ret ?_
  exact fin_new none [0] (.slice (some ⟨(L2 2).b, 0, none⟩) (2) (2)) [] (⟨(L2 2).b, none, 0⟩) (fun l => .slice (some ⟨l.b, 0, none⟩) (2) (2)) (fun l => .blk (l.b) [aN 100, aN (-1)] 3 true) 2 (.inr rfl) rfl (by kernel_rfl) trivial rfl rfl rfl

-- (couplant/tune.procedure).happen$2
set_option maxRecDepth 100000 in
set_option maxHeartbeats 400000 in
theorem UA.i_141 (b1 b2 b3 : Nat) : CallOb Try.prog 156 #[aN 0, .pointer (some ⟨b1, 0, none⟩), .pointer (some ⟨b3, 0, none⟩)] [.blk (b1) [.slice (some ⟨b2, 0, none⟩) (2) (2)] 46 false, .blk (b2) [aN 100, aN (-1)] 3 false, .blk (b3) [aN 10, aN 1, aN 210] 110 false] (.bool (false)) := by
  intro w hw
  refine calls_aw [aI 0, aP b1 0, aP b3 0, aU, aU, aU, aU, aU, aU, aU, aU, aU] [.blk (b1) [.slice (some ⟨b2, 0, none⟩) (2) (2)] 46 false, .blk (b2) [aN 100, aN (-1)] 3 false, .blk (b3) [aN 10, aN 1, aN 210] 110 false] Try.func156 rfl (by kernel_rfl) (esOk hw (by simp [Cel.mine])) ?_
  refine aw_sr [⟨.pure, [], none, true⟩]
    (fun L1 => ⟨[aI 0, aP b1 0, aP b3 0, aU, aF, aU, aU, aU, aU, aU, aU, aU], [.blk (b1) [.slice (some ⟨b2, 0, none⟩) (2) (2)] 46 false, .blk (b2) [aN 100, aN (-1)] 3 false, .blk (b3) [aN 10, aN 1, aN 210] 110 false], []⟩)
    (fun L1 => [])
    fol (by kernel_rfl) (fun _ => by kernel_rfl) (fun L1 => trivial) (fun L1 => ?_)
  refine aw_sr [⟨(.read 0), [], none, true⟩, ⟨.pure, [], none, true⟩, ⟨.pure, [0, 1], none, true⟩, ⟨(.read 1), [0, 1, 2], none, true⟩, ⟨.pure, [], none, true⟩, ⟨(.read 2), [4], none, true⟩, ⟨.pure, [0, 1, 2, 3, 4, 5], none, true⟩, ⟨.pure, [0, 1, 2, 3, 4, 5, 6], none, true⟩]
    (fun L2 => ⟨[aI 0, aP b1 0, aP b3 0, aU, aF, aS b2 0 2 2, aI 0, aP b2 0, aI 100, aP b3 0, aI 10, aF], [.blk (b1) [.slice (some ⟨b2, 0, none⟩) (2) (2)] 46 false, .blk (b2) [aN 100, aN (-1)] 3 false, .blk (b3) [aN 10, aN 1, aN 210] 110 false], []⟩)
    (fun L2 => [b1 = b1, b2 = b2, b3 = b3])
    fol (by kernel_rfl) (fun _ => by kernel_rfl) (fun L2 => ⟨rfl, rfl, rfl, trivial⟩) (fun L2 => ?_)
  refine aw_ret ?_
  exact fin_ret none [0] (.bool (false)) [] (.inr rfl) rfl (by kernel_rfl) trivial (fun w' hb => ⟨rfl, hb⟩)

end Go.Proofs.Ytipckfokanlcoaa
