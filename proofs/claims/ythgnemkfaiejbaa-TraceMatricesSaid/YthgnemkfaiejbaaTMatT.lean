/-
  MATRICES: what a right sample stands for; cleared of any right words; part, at; TraceOf, both.
-/
import Derived.Test.YthgnemkfaiejbaaTMatC
import Derived.Test.YthgnemkfaiejbaaTMade
set_option linter.unusedVariables false
set_option linter.unusedSimpArgs false
namespace Go.Proofs.Ythgnemkfaiejbaa
open Go.RowKit
open Ieee (Format Datum)

/-- what a single stands for, if it is whole -/
def vS (x : Nat) : Int := match Ieee.single.read x with
  | .number s m e => sg s (mg m e / Z)
  | _ => 0
theorem eS_zero {x : Nat} (h : eS x = 0) : ∃ s m e, Ieee.single.read x = .number s m e ∧ mg m e % Z = 0 ∧ mg m e ≤ 2047 * Z := by
  unfold eS at h
  cases hr : Ieee.single.read x with
  | number s m e =>
    rw [hr] at h
    simp only at h
    by_cases c : mg m e % Z = 0
    · rw [if_pos c] at h
      by_cases d : mg m e ≤ 2047 * Z
      · exact ⟨s, m, e, rfl, c, d⟩
      · rw [if_neg d] at h; simp at h
    · rw [if_neg c] at h; simp at h
  | infinity s => rw [hr] at h; simp at h
  | nan s t => rw [hr] at h; simp at h
theorem vS_bd {x : Nat} (h : eS x = 0) : (vS x).natAbs ≤ 2047 := by
  obtain ⟨s, m, e, hr, _, hb⟩ := eS_zero h
  unfold vS
  rw [hr]
  simp only
  have : mg m e / Z ≤ 2047 := Nat.div_le_of_le_mul (by rw [Nat.mul_comm]; exact hb)
  unfold sg
  generalize mg m e / Z = q at *
  split <;> omega
theorem run_int_w {x : Nat} (h : eS x = 0) (w : World) : (convert 24 3 (.float .f32 x)).run Try.prog w = .ok (.int .i64 (vS x)) w := by
  refine run_convert_float_int w _ _ _ _ _ _ (by rw [Try.underlying24]; rfl) Try.underlying3 ?_
  have hb := vS_bd h
  obtain ⟨s, m, e, hr, _, _⟩ := eS_zero h
  have e1 : (FloatKind.f32.decode x).toInt .zero = some (vS x) := by
    show (Ieee.single.read x).toInt .zero = _
    unfold vS
    rw [hr]
    unfold Datum.toInt
    rw [integral_num _ _ (by have := single_bd hr; omega)]
    show some (Ieee.signed s (mg m e / Z) 0) = _
    unfold Ieee.signed sg
    rw [Nat.shiftLeft_eq, Nat.pow_zero, Nat.mul_one]
  unfold floatToIntVal
  rw [e1]
  show (if _ then _ else _) = _
  rw [if_pos]
  exact ⟨by show (-9223372036854775808 : Int) ≤ _; omega, by show _ ≤ (9223372036854775807 : Int); omega⟩
theorem cleared1_w (x : Nat) (b k : Nat) (w : World) (hk : k < 64) (hx : eS x = 0) (hc : w.cell? ⟨b, k, none⟩ = some (.float .f32 x)) :
    Calls Try.prog 164 #[.int .i64 (k : Int), .pointer (some ⟨b, 0, none⟩)] w fun e w' => e = .returned (.int .i64 (vS x)) ∧ w = w' := by
  have hcv : ∀ w, _ := fun w => run_int_w hx w
  clear hx
  have e0 : (0 : Int) ≤ (k : Int) := by omega
  have e1 : (k : Int) < 64 := by omega
  go_enter Try.func164, Try.ntmps164
  go_wp2
  go_ret
  exact ⟨rfl, rfl⟩
set_option maxRecDepth 100000 in
set_option maxHeartbeats 1000000 in
theorem cleared_w (u : Nat → Nat) (w : World) (hx : Hid (∀ k, k < 64 → eS (u k) = 0)) :
    Calls Try.prog 108 #[.agg (fC u 64)] w fun e w' => e = .returned (.agg (tC fun k => vS (u k))) ∧ Below w.heap.size w w' := by
  have hmf : ∀ (fn : Fn) (first cap : Array Value) (w : World), (Instr.makeFunc fn first cap).run Try.prog w = .ok (.func fn first cap) w := fun _ _ _ _ => rfl
  have HF : Hid (Enters Try.prog 164) := Lib.hid (enters_of Try.func164 (by kernel_rfl) rfl)
  have hs := Lib.hid (tC_size fun k => vS (u k))
  have hs0 := Lib.hid (tC_size fun _ => 0)
  have ho := Lib.hid (tC_one fun k => vS (u k))
  have HT : Hid (∀ W, W.heap[w.heap.size]? = some (.cells (fC u 64) 26 (0, 0)) → w.heap.size < W.heap.size → Calls Try.prog 127 #[.func (.func 164) #[] #[.pointer (some ⟨w.heap.size, 0, none⟩)]] W fun e w' => e = .returned (.agg (tC fun k => vS (u k))) ∧ Below W.heap.size W w') :=
    Lib.hid fun W hg hz => traceWith_any (fun k => vS (u k)) _ _ W HF (Lib.hid fun k hk W' hB => cleared1_w (u k) w.heap.size k W' hk (hx.out k hk) ((cell_block (block_below hB hz hg)).trans (fC_get u hk)))
  clear hx HF
  go_enter Try.func108, Try.ntmps108
  go_wp2_with (refine wpl_alloc rfl 26 (tC fun _ => 0) rfl (zero_trace _) ?_)
  refine (HT.out _ (block_alloc (heap_alloc_last w _)) (by simp)).mono ?_
  rintro e w1 ⟨rfl, hw1⟩
  have hz1 := hw1.size
  simp only [World.size_alloc] at hz1
  have hg0 : w1.heap[w.heap.size + 1]? = some (.cells (tC fun _ => 0) 26 (0, 0)) := by
    refine block_below hw1 (by simp) ?_
    have := heap_alloc_last (w.alloc (.cells (fC u 64) 26)) (.cells (tC fun _ => 0) 26)
    rwa [show (w.alloc (.cells (fC u 64) 26)).heap.size = w.heap.size + 1 by simp] at this
  have hb1 : Below w.heap.size w w1 := by (repeat' (first | (with_reducible exact Below.refl _ _) | (with_reducible assumption) | (with_reducible refine Below.alloc ?_ ?_ _) | (with_reducible refine Below.drew ?_) | (with_reducible refine below_drewN ?_ _) | (with_reducible refine Below.setCell ?_ ?_ _) | (with_reducible refine below_step (by with_reducible assumption) ?_ ?_) | (with_reducible exact Below.size (by with_reducible assumption)) | go_size))
  clear HT hw1
  generalize hc : (tC fun k => vS (u k)) = c at *
  have HC := Lib.hid hc
  clear hc
  generalize (tC fun _ => 0) = z at *
  go_wp2_with (refine wpl_store rfl 26 26 _ _ (w.heap.size + 1) z c rfl rfl rfl (by rw [hs.out]; exact infoTrace) (by rw [hs.out, hs0.out]) ho.out hg0 ?_)
  refine bodyPost_ret (v := .agg c) ?_ rfl ⟨by rw [HC.out], below_setRow hb1 c (by omega)⟩
  rw [results_cell1 (p := 2) (ty := 26) rfl]
  change (loadVar 26 ⟨w.heap.size + 1, 0, none⟩).run Try.prog _ = _
  exact run_loadVar_row _ _ 26 26 c (0, 0) _ (block_setRow hg0) Try.underlying26 rfl (by rw [hs.out]; exact infoTrace)
/-- where the trace of a pair begins -/
def frm (a b E : Int) : Nat := ((a * E + b) * 64).toNat
theorem frm_bd {a b E : Int} {N : Nat} (hE : 1 ≤ E ∧ E ≤ 16) (ha : 0 ≤ a ∧ a < E) (hb : 0 ≤ b ∧ b < E) (hN : (N : Int) = E * E * 64) : (frm a b E : Int) = (a * E + b) * 64 ∧ frm a b E + 64 ≤ N ∧ 0 ≤ a * E ∧ a * E ≤ 256 ∧ N ≤ 16384 := by
  have h1 : 0 ≤ a * E := Int.mul_nonneg ha.1 (by omega)
  have h2 : a * E ≤ (E - 1) * E := Int.mul_le_mul_of_nonneg_right (by omega) (by omega)
  have h3 : (E - 1) * E = E * E - E := by rw [Int.sub_mul, Int.one_mul]
  have h4 : E * E ≤ 16 * 16 := Int.mul_le_mul hE.2 hE.2 (by omega) (by omega)
  unfold frm
  omega
set_option maxRecDepth 100000 in
set_option maxHeartbeats 1000000 in
theorem part_any (E a b : Int) (g N cap : Nat) (w : World) (hE : 1 ≤ E ∧ E ≤ 16) (ha : 0 ≤ a ∧ a < E) (hb : 0 ≤ b ∧ b < E) (hN : (N : Int) = E * E * 64) (hc : N ≤ cap ∧ cap ≤ maxLen) :
    Calls Try.prog 162 #[.agg #[.int .i64 E, .slice (some ⟨g, 0, none⟩) N cap], .agg #[.int .i64 a, .int .i64 b]] w fun e w' => e = .returned (.slice (some ⟨g, frm a b E, none⟩) 64 (cap - frm a b E)) ∧ Below w.heap.size w w' := by
  obtain ⟨f1, f2, f3, f4, f5⟩ := frm_bd hE ha hb hN
  have hmax := hc.2
  have hc1 := hc.1
  unfold maxLen at hmax
  have wr1 : IntKind.i64.wrap (a * E) = a * E := IntWalk.i64_in _ (by omega)
  have wr2 : IntKind.i64.wrap (a * E + b) = a * E + b := IntWalk.i64_in _ (by omega)
  have wr3 : IntKind.i64.wrap ((a * E + b) * 64) = (frm a b E : Int) := by rw [f1]; exact IntWalk.i64_in _ (by omega)
  clear hN hE ha hb f1
  generalize frm a b E = F at *
  go_enter Try.func162, Try.ntmps162
  have q0 : (0 : Int) ≤ (F : Int) := by omega
  have q1 : (F : Int) ≤ (F : Int) + 64 := by omega
  have q2 : (F : Int) + 64 ≤ (cap : Int) := by omega
  have wr4 : IntKind.i64.wrap ((F : Int) + 64) = (F : Int) + 64 := IntWalk.i64_in _ (by omega)
  go_wp2
  go_ret
  exact ⟨by show Ending.returned (Value.slice (some ⟨g, F, none⟩) (F + 64 - F) (cap - F)) = _; rw [Nat.add_sub_cancel_left], by (repeat' (first | (with_reducible exact Below.refl _ _) | (with_reducible assumption) | (with_reducible refine Below.alloc ?_ ?_ _) | (with_reducible refine Below.drew ?_) | (with_reducible refine below_drewN ?_ _) | (with_reducible refine Below.setCell ?_ ?_ _) | (with_reducible refine below_step (by with_reducible assumption) ?_ ?_) | (with_reducible exact Below.size (by with_reducible assumption)) | go_size))⟩
theorem run_loadVar_at {P : Program} (w : World) (ty : TypeId) (a : Addr) (cs : List Value) (d : TypeDesc) (h : ∀ j v, cs[j]? = some v → w.cell? (a.add j) = some v) (hu : P.underlying ty = some d) (hd : (match d with | .struct _ | .array _ _ => true | _ => false) = true) (hi : (P.info? ty).map (·.size) = some cs.length) :
    (loadVar ty a).run P w = .ok (.agg cs.toArray) w := by
  have hl := run_loadCells_list (P := P) w a cs h
  cases hq : P.info? ty with
  | none => simp [hq] at hi
  | some i =>
    have hs : i.size = cs.length := by simpa [hq] using hi
    have hagg : (isAgg ty).run P w = .ok true w := by
      unfold isAgg
      rw [Sem.run_bind, run_underlying hu w]
      cases d <;> simp_all
    simp [loadVar, Sem.run_bind, hagg, sizeOf, typeInfo, hq, hs, hl]
theorem wpl_loadat {P : Program} {w : World} {o : Oper} {a : Act} {Q : Exit → Act → World → Prop} {ops : Array Oper} {rest : List Oper} (hgd : o.guard = none) (t : TypeId) (p : Operand) (ad : Addr) (cs : List Value) (d : TypeDesc) (ho : o.op = .load t p) (hp : a.eval p = .pointer (some ad)) (hu : P.underlying t = some d) (hd : (match d with | .struct _ | .array _ _ => true | _ => false) = true)
    (hi : (P.info? t).map (·.size) = some cs.length) (hc : ∀ j v, cs[j]? = some v → w.cell? (ad.add j) = some v) (h : wpList P ops Q rest (a.put o.dst (.agg cs.toArray)) w) : wpList P ops Q (o :: rest) a w :=
  wpList_plain hgd fun K hK => by
    have hl : (Instr.loadAt t (.pointer (some ad))).run P w = .ok (.agg cs.toArray) w := by
      simp only [Instr.loadAt, Instr.sureAddr, Sem.run_bind, Sem.run_pure, Result.andThen]
      exact run_loadVar_at w t ad cs d hc hu hd hi
    unfold Oper.wp execOp
    simp only [ho, hp, Sem.run_bind, Sem.run_pure, Result.andThen, hl]
    exact hK _ _ h
theorem fC_list (u : Nat → Nat) (n : Nat) : ((List.range n).map fun i => Value.float .f32 (u i)).toArray = fC u n := rfl
theorem buf_part {w : World} {g N cap F : Nat} {u : Nat → Nat} (h : Buf w g u N cap) (hF : F + 64 ≤ N) : ∀ (j : Nat) (v : Value), ((List.range 64).map fun i => Value.float .f32 (u (F + i)))[j]? = some v → w.cell? ((⟨g, F, none⟩ : Addr).add j) = some v := by
  intro j v hj
  rw [List.getElem?_map] at hj
  by_cases hjN : j < 64
  · rw [List.getElem?_range hjN] at hj
    simp only [Option.map_some, Option.some.injEq] at hj
    subst hj
    rw [Addr.add_lit]
    exact h.2.2.2 (F + j) (by omega)
  · rw [List.getElem?_eq_none (by simpa using hjN)] at hj
    cases hj
/-- the trace of a pair of a right matrix -/
def atX (u : Nat → Nat) (F : Nat) : Nat → Int := fun k => vS (u (F + k))
set_option maxRecDepth 100000 in
set_option maxHeartbeats 2000000 in
theorem at_any (E a b : Int) (u : Nat → Nat) (g N cap : Nat) (w : World) (hE : 1 ≤ E ∧ E ≤ 16) (ha : 0 ≤ a ∧ a < E) (hb : 0 ≤ b ∧ b < E) (hN : (N : Int) = E * E * 64) (hB : Hid (Buf w g u N cap)) (hx : Hid (∀ i, i < N → eS (u i) = 0)) :
    Calls Try.prog 102 #[.agg #[.int .i64 E, .slice (some ⟨g, 0, none⟩) N cap], .agg #[.int .i64 a, .int .i64 b]] w fun e w' => e = .returned (.agg (tC (atX u (frm a b E)))) ∧ Below w.heap.size w w' := by
  have hfb := frm_bd hE ha hb hN
  have KP := Lib.hid (fun W => part_any E a b g N cap W hE ha hb hN hB.out.1)
  have KC := Lib.hid (fun W => cleared_w (fun i => u (frm a b E + i)) W (Lib.hid fun k hk => hx.out _ (by omega)))
  rw [show (tC fun k => vS (u (frm a b E + k))) = tC (atX u (frm a b E)) from rfl] at KC
  have hap : ∀ (c : Nat) (w : World), (Instr.arrayAt 26 (.slice (some ⟨g, frm a b E, none⟩) 64 c)).run Try.prog w = .ok (.pointer (some ⟨g, frm a b E, none⟩)) w := fun c w => by
    unfold Instr.arrayAt
    rw [Sem.run_bind, run_underlying Try.underlying26 w]
    rfl
  have HP := Lib.hid (fun (W : World) (hW : Below w.heap.size w W) => buf_part (hB.out.below hW) hfb.2.1)
  have hs := Lib.hid (tC_size (atX u (frm a b E)))
  have hs0 := Lib.hid (tC_size fun _ => 0)
  have ho := Lib.hid (tC_one (atX u (frm a b E)))
  have HZ := Lib.hid zero_trace
  clear hfb hx hE ha hb hN
  generalize frm a b E = F at *
  have hln : ((List.range 64).map fun i => Value.float .f32 (u (F + i))).length = 64 := by simp
  rw [← fC_list] at KC
  generalize ((List.range 64).map fun i => Value.float .f32 (u (F + i))) = cs at *
  have HLN := Lib.hid hln
  clear hln
  generalize hcc : tC (atX u F) = cc at *
  have HCC := Lib.hid hcc
  clear hcc
  generalize (tC fun _ => 0) = z at *
  go_enter Try.func102, Try.ntmps102
  go_wp2_with (refine wpl_alloc rfl 26 z rfl (HZ.out _) ?_)
  refine (KP.out _).mono ?_
  rintro e w1 ⟨rfl, hw1⟩
  have hz1 := hw1.size
  simp only [World.size_alloc] at hz1
  have hb1 : Below w.heap.size w w1 := by (repeat' (first | (with_reducible exact Below.refl _ _) | (with_reducible assumption) | (with_reducible refine Below.alloc ?_ ?_ _) | (with_reducible refine Below.drew ?_) | (with_reducible refine below_drewN ?_ _) | (with_reducible refine Below.setCell ?_ ?_ _) | (with_reducible refine below_step (by with_reducible assumption) ?_ ?_) | (with_reducible exact Below.size (by with_reducible assumption)) | go_size))
  have hg0 : w1.heap[w.heap.size + 1 + 1]? = some (.cells z 26 (0, 0)) := by
    refine block_below hw1 (by simp) ?_
    exact heap_alloc_at (by simp)
  go_wp2_with (refine wpl_loadat rfl 26 _ ⟨g, F, none⟩ cs _ rfl rfl Try.underlying26 rfl (by rw [HLN.out]; exact infoTrace) (HP.out _ hb1) ?_)
  refine (KC.out _).mono ?_
  rintro e w2 ⟨rfl, hw2⟩
  have hz2 := hw2.size
  have hg2 := block_below0 hw2 hg0
  have hb2 : Below w.heap.size w w2 := by (repeat' (first | (with_reducible exact Below.refl _ _) | (with_reducible assumption) | (with_reducible refine Below.alloc ?_ ?_ _) | (with_reducible refine Below.drew ?_) | (with_reducible refine below_drewN ?_ _) | (with_reducible refine Below.setCell ?_ ?_ _) | (with_reducible refine below_step (by with_reducible assumption) ?_ ?_) | (with_reducible exact Below.size (by with_reducible assumption)) | go_size))
  go_wp2_with (refine wpl_store rfl 26 26 _ _ (w.heap.size + 1 + 1) z cc rfl rfl rfl (by rw [hs.out]; exact infoTrace) (by rw [hs.out, hs0.out]) ho.out hg2 ?_)
  refine bodyPost_ret (v := .agg cc) ?_ rfl ⟨rfl, below_setRow hb2 cc (by omega)⟩
  rw [results_cell1 (p := 4) (ty := 26) rfl]
  change (loadVar 26 ⟨w.heap.size + 1 + 1, 0, none⟩).run Try.prog _ = _
  exact run_loadVar_row _ _ 26 26 cc (0, 0) _ (block_setRow hg2) Try.underlying26 rfl (by rw [hs.out]; exact infoTrace)
/-- the error of a pair of a matrix -/
def tpE (E : Int) (u : Nat → Nat) (N : Nat) (a b : Int) : Int := frst [oE E u N, pE a b E]
set_option maxRecDepth 100000 in
set_option maxHeartbeats 2000000 in
theorem traceOf_err (E a b : Int) (u : Nat → Nat) (g N cap : Nat) (w : World) (hN : N ≤ 20000) (hB : Hid (Buf w g u N cap)) (h : tpE E u N a b ≠ 0) :
    Calls Try.prog 28 #[.agg #[.int .i64 E, .slice (some ⟨g, 0, none⟩) N cap], .agg #[.int .i64 a, .int .i64 b]] w fun e w' => e = .returned (.tuple #[.agg (tC fun _ => 0), .int .i64 (tpE E u N a b)]) ∧ Below w.heap.size w w' := by
  have HE := Lib.hid (show tpE E u N a b = frst [oE E u N, pE a b E] from rfl)
  have hT : (tpE E u N a b != 0) = true := by simpa using h
  have KM := Lib.hid (fun (W : World) (hW : Below w.heap.size w W) => matrixError_any E u g N cap W hN (Lib.hid (hB.out.below hW)))
  have KP := Lib.hid (fun W => pairError_any a b E W)
  have hs0 := Lib.hid (tC_size fun _ => 0)
  have ho0 := Lib.hid (tC_one fun _ => 0)
  have HZ := Lib.hid zero_trace
  clear h hB hN
  generalize tpE E u N a b = T at *
  generalize oE E u N = A at *
  generalize pE a b E = B at *
  generalize hcc : (tC fun _ => 0) = z at *
  have HCC := Lib.hid hcc
  clear hcc
  go_enter Try.func28, Try.ntmps28
  go_wp2_with (refine wpl_alloc rfl 26 z rfl (HZ.out _) ?_)
  first | refine abs_calls (fun w2 hw2 => ?_) | refine abs_last (fun w2 hw2 => ?_)
  have hw20 : Below w.heap.size w w2 := by rw [hw2]; (repeat' (first | (with_reducible exact Below.refl _ _) | (with_reducible assumption) | (with_reducible refine Below.alloc ?_ ?_ _) | (with_reducible refine Below.drew ?_) | (with_reducible refine below_drewN ?_ _) | (with_reducible refine Below.setCell ?_ ?_ _) | (with_reducible refine below_step (by with_reducible assumption) ?_ ?_) | (with_reducible exact Below.size (by with_reducible assumption)) | go_size))
  have hzz2 := hw20.size
  have cm2_0 : w2.cell? ⟨w.heap.size, 0, none⟩ = some (.int .i64 (E)) := by (first | (rw [hw2]; assumption) | (simp [go_sem, *]; done))
  have cm2_1 : w2.cell? ⟨w.heap.size, 1, none⟩ = some (.slice (some ⟨g, 0, none⟩) N cap) := by (first | (rw [hw2]; assumption) | (simp [go_sem, *]; done))
  have cp2_0 : w2.cell? ⟨w.heap.size + 1, 0, none⟩ = some (.int .i64 (a)) := by (first | (rw [hw2]; assumption) | (simp [go_sem, *]; done))
  have cp2_1 : w2.cell? ⟨w.heap.size + 1, 1, none⟩ = some (.int .i64 (b)) := by (first | (rw [hw2]; assumption) | (simp [go_sem, *]; done))
  have crt2_0 : w2.heap[w.heap.size + 1 + 1]? = some (.cells (z) 26 (0, 0)) := by rw [hw2]; (repeat (first | assumption | (refine heap_alloc_at ?_; (first | rfl | (simp only [World.size_alloc, World.size_drew, World.size_setCell, size_drewN]; done))) | refine block_alloc ?_))
  have hz20 : w.heap.size < w2.heap.size := by (first | (rw [hw2]; simp; omega) | (rw [hw2]; simp; done) | (rw [hw2]; omega))
  have hz21 : w.heap.size + 1 < w2.heap.size := by (first | (rw [hw2]; simp; omega) | (rw [hw2]; simp; done) | (rw [hw2]; omega))
  have hz22 : w.heap.size + 1 + 1 < w2.heap.size := by (first | (rw [hw2]; simp; omega) | (rw [hw2]; simp; done) | (rw [hw2]; omega))
  have hs2 : w2.heap.size = w.heap.size + 1 + 1 + 1 := by rw [hw2]; first | assumption | ((repeat' (first | (with_reducible exact Below.refl _ _) | (with_reducible assumption) | (with_reducible refine Below.alloc ?_ ?_ _) | (with_reducible refine Below.drew ?_) | (with_reducible refine below_drewN ?_ _) | (with_reducible refine Below.setCell ?_ ?_ _) | (with_reducible refine below_step (by with_reducible assumption) ?_ ?_) | (with_reducible exact Below.size (by with_reducible assumption)) | go_size)))
  clear hw2
  refine wp_region_held_drew (S := fun w' => w'.heap[w.heap.size + 1 + 1]? = some (.cells (z) 26 (0, 0)) ∧ w'.cell? ⟨w.heap.size, 0, none⟩ = some (.int .i64 (E)) ∧ w'.cell? ⟨w.heap.size, 1, none⟩ = some (.slice (some ⟨g, 0, none⟩) N cap) ∧ w'.cell? ⟨w.heap.size + 1, 0, none⟩ = some (.int .i64 (a)) ∧ w'.cell? ⟨w.heap.size + 1, 1, none⟩ = some (.int .i64 (b))) (by kernel_rfl) ?_ (fun hH1 => ?_)
  · (first | assumption | (refine ⟨?_, ?_, ?_, ?_, ?_⟩ <;> (first | assumption | ((repeat (first | assumption | (refine heap_alloc_at ?_; (first | rfl | (simp only [World.size_alloc, World.size_drew, World.size_setCell, size_drewN]; done))) | refine block_alloc ?_ | refine Buf.alloc ?_ _ | refine Buf.drew ?_ | refine Buf.setCell ?_ (by omega) _ _)); done) | (go_keep; done) | (simp [*, go_sem]; done))))
  refine wpAnyH_pure (i := 0) (v := ?_) rfl (by kernel_rfl) (by kernel_rfl) (by kernel_rfl) (fun _ _ _ h => h) (by rfl) (by assumption) ?_ ?_
  rotate_left
  · (intro w hSw; (try dsimp only at hSw); go_simp; (try with_reducible rfl))
  simp only [Act.put, List.getElem_toArray, List.getElem_cons_succ, List.getElem_cons_zero, List.setIfInBounds_toArray, List.set_cons_zero, List.set_cons_succ]
  refine wpAnyH_pure (i := 2) (v := ?_) rfl (by kernel_rfl) (by kernel_rfl) (by kernel_rfl) (fun _ _ _ h => h) (by rfl) (by assumption) ?_ ?_
  rotate_left
  · (intro w hSw; (try dsimp only at hSw); go_simp; (try with_reducible rfl))
  simp only [Act.put, List.getElem_toArray, List.getElem_cons_succ, List.getElem_cons_zero, List.setIfInBounds_toArray, List.set_cons_zero, List.set_cons_succ]
  refine wpAnyH_pure (i := 3) (v := ?_) rfl (by kernel_rfl) (by kernel_rfl) (by kernel_rfl) (fun _ _ _ h => h) (by rfl) (by assumption) ?_ ?_
  rotate_left
  · (intro w hSw; (try dsimp only at hSw); go_simp; (try with_reducible rfl))
  simp only [Act.put, List.getElem_toArray, List.getElem_cons_succ, List.getElem_cons_zero, List.setIfInBounds_toArray, List.set_cons_zero, List.set_cons_succ]
  refine wpAnyH_pure (i := 4) (v := ?_) rfl (by kernel_rfl) (by kernel_rfl) (by kernel_rfl) (fun _ _ _ h => h) (by rfl) (by assumption) ?_ ?_
  rotate_left
  · (intro w hSw; (try dsimp only at hSw); go_simp; (try with_reducible rfl))
  simp only [Act.put, List.getElem_toArray, List.getElem_cons_succ, List.getElem_cons_zero, List.setIfInBounds_toArray, List.set_cons_zero, List.set_cons_succ]
  refine wpAnyH_ready (rs := [1]) (by kernel_rfl) (by simp) ?_
  refine AllReadyH.cons rfl (fun Kq hKq => ?_) AllReadyH.nil
  go_simp
  refine (KM.out _ (by (repeat' (first | (with_reducible exact Below.refl _ _) | (with_reducible assumption) | (with_reducible refine Below.alloc ?_ ?_ _) | (with_reducible refine Below.drew ?_) | (with_reducible refine below_drewN ?_ _) | (with_reducible refine Below.setCell ?_ ?_ _) | (with_reducible refine below_step (by with_reducible assumption) ?_ ?_) | (with_reducible exact Below.size (by with_reducible assumption)) | go_size)))).mono ?_
  (rintro e w3 ⟨rfl, hw3⟩)
  obtain ⟨hcw3, hfw3, hlw3, hmw3, hnw3⟩ := bcell3 hw3
  have hzw3 := hw3.size
  (try simp only [World.size_alloc, World.size_setCell, World.size_drew, size_drewN] at hzw3)
  have cm3_0 : w3.cell? ⟨w.heap.size, 0, none⟩ = some (.int .i64 (E)) := (hcw3 (w.heap.size) (0) (by first | omega | (simp only [World.size_alloc, World.size_drew, World.size_setCell, size_drewN]; omega))).trans (by first | assumption | (simp [go_sem, *]; done)); have cm3_1 : w3.cell? ⟨w.heap.size, 1, none⟩ = some (.slice (some ⟨g, 0, none⟩) N cap) := (hcw3 (w.heap.size) (1) (by first | omega | (simp only [World.size_alloc, World.size_drew, World.size_setCell, size_drewN]; omega))).trans (by first | assumption | (simp [go_sem, *]; done)); have om3 : w.heap.size < w3.heap.size := (by omega)
  clear cm2_0 cm2_1
  have cp3_0 : w3.cell? ⟨w.heap.size + 1, 0, none⟩ = some (.int .i64 (a)) := (hcw3 (w.heap.size + 1) (0) (by first | omega | (simp only [World.size_alloc, World.size_drew, World.size_setCell, size_drewN]; omega))).trans (by first | assumption | (simp [go_sem, *]; done)); have cp3_1 : w3.cell? ⟨w.heap.size + 1, 1, none⟩ = some (.int .i64 (b)) := (hcw3 (w.heap.size + 1) (1) (by first | omega | (simp only [World.size_alloc, World.size_drew, World.size_setCell, size_drewN]; omega))).trans (by first | assumption | (simp [go_sem, *]; done)); have op3 : w.heap.size + 1 < w3.heap.size := (by omega)
  clear cp2_0 cp2_1
  have crt3_0 : w3.heap[w.heap.size + 1 + 1]? = some (.cells (z) 26 (0, 0)) := block_below0 hw3 (by first | assumption | (repeat (first | assumption | (refine heap_alloc_at ?_; (first | rfl | (simp only [World.size_alloc, World.size_drew, World.size_setCell, size_drewN]; done))) | refine block_alloc ?_)))
  clear crt2_0
  clear hcw3 hfw3 hlw3 hmw3 hnw3
  refine hKq.out _ _ ?_ (fun hH2 => ?_)
  · (first | assumption | (refine ⟨?_, ?_, ?_, ?_, ?_⟩ <;> (first | assumption | ((repeat (first | assumption | (refine heap_alloc_at ?_; (first | rfl | (simp only [World.size_alloc, World.size_drew, World.size_setCell, size_drewN]; done))) | refine block_alloc ?_ | refine Buf.alloc ?_ _ | refine Buf.drew ?_ | refine Buf.setCell ?_ (by omega) _ _)); done) | (go_keep; done) | (simp [*, go_sem]; done))))
  clear hKq Kq
  clear hH1
  refine wpAnyH_ready (rs := [5]) (by kernel_rfl) (by simp) ?_
  refine AllReadyH.cons rfl (fun Kq hKq => ?_) AllReadyH.nil
  go_simp
  refine (KP.out _).mono ?_
  (rintro e w4 ⟨rfl, hw4⟩)
  obtain ⟨hcw4, hfw4, hlw4, hmw4, hnw4⟩ := bcell3 hw4
  have hzw4 := hw4.size
  (try simp only [World.size_alloc, World.size_setCell, World.size_drew, size_drewN] at hzw4)
  have cm4_0 : w4.cell? ⟨w.heap.size, 0, none⟩ = some (.int .i64 (E)) := (hcw4 (w.heap.size) (0) (by first | omega | (simp only [World.size_alloc, World.size_drew, World.size_setCell, size_drewN]; omega))).trans (by first | assumption | (simp [go_sem, *]; done)); have cm4_1 : w4.cell? ⟨w.heap.size, 1, none⟩ = some (.slice (some ⟨g, 0, none⟩) N cap) := (hcw4 (w.heap.size) (1) (by first | omega | (simp only [World.size_alloc, World.size_drew, World.size_setCell, size_drewN]; omega))).trans (by first | assumption | (simp [go_sem, *]; done)); have om4 : w.heap.size < w4.heap.size := (by omega)
  clear cm3_0 cm3_1
  have cp4_0 : w4.cell? ⟨w.heap.size + 1, 0, none⟩ = some (.int .i64 (a)) := (hcw4 (w.heap.size + 1) (0) (by first | omega | (simp only [World.size_alloc, World.size_drew, World.size_setCell, size_drewN]; omega))).trans (by first | assumption | (simp [go_sem, *]; done)); have cp4_1 : w4.cell? ⟨w.heap.size + 1, 1, none⟩ = some (.int .i64 (b)) := (hcw4 (w.heap.size + 1) (1) (by first | omega | (simp only [World.size_alloc, World.size_drew, World.size_setCell, size_drewN]; omega))).trans (by first | assumption | (simp [go_sem, *]; done)); have op4 : w.heap.size + 1 < w4.heap.size := (by omega)
  clear cp3_0 cp3_1
  have crt4_0 : w4.heap[w.heap.size + 1 + 1]? = some (.cells (z) 26 (0, 0)) := block_below0 hw4 (by first | assumption | (repeat (first | assumption | (refine heap_alloc_at ?_; (first | rfl | (simp only [World.size_alloc, World.size_drew, World.size_setCell, size_drewN]; done))) | refine block_alloc ?_)))
  clear crt3_0
  clear hcw4 hfw4 hlw4 hmw4 hnw4
  refine hKq.out _ _ ?_ (fun hH3 => ?_)
  · (first | assumption | (refine ⟨?_, ?_, ?_, ?_, ?_⟩ <;> (first | assumption | ((repeat (first | assumption | (refine heap_alloc_at ?_; (first | rfl | (simp only [World.size_alloc, World.size_drew, World.size_setCell, size_drewN]; done))) | refine block_alloc ?_ | refine Buf.alloc ?_ _ | refine Buf.drew ?_ | refine Buf.setCell ?_ (by omega) _ _)); done) | (go_keep; done) | (simp [*, go_sem]; done))))
  clear hKq Kq
  clear hH2
  refine wpAnyH_ready (rs := [6]) (by kernel_rfl) (by simp) ?_
  refine AllReadyH.cons rfl (fun Kq hKq => ?_) AllReadyH.nil
  go_simp
  refine hKq.out _ _ ?_ (fun hH4 => ?_)
  · (first | assumption | (refine ⟨?_, ?_, ?_, ?_, ?_⟩ <;> (first | assumption | ((repeat (first | assumption | (refine heap_alloc_at ?_; (first | rfl | (simp only [World.size_alloc, World.size_drew, World.size_setCell, size_drewN]; done))) | refine block_alloc ?_ | refine Buf.alloc ?_ _ | refine Buf.drew ?_ | refine Buf.setCell ?_ (by omega) _ _)); done) | (go_keep; done) | (simp [*, go_sem]; done))))
  clear hKq Kq
  clear hH3
  refine wpAnyH_ready (rs := [7]) (by kernel_rfl) (by simp) ?_
  refine AllReadyH.cons rfl (fun Kq hKq => ?_) AllReadyH.nil
  go_simp
  apply Calls.mono
  focus ((apply first2 <;> exact cell_fresh _ _ _ _ _ _ (by first | rfl | simp) rfl); done)
  (rintro e w' ⟨rfl, rfl⟩)
  refine hKq.out _ _ ?_ (fun hH5 => ?_)
  · (first | assumption | (refine ⟨?_, ?_, ?_, ?_, ?_⟩ <;> (first | assumption | ((repeat (first | assumption | (refine heap_alloc_at ?_; (first | rfl | (simp only [World.size_alloc, World.size_drew, World.size_setCell, size_drewN]; done))) | refine block_alloc ?_ | refine Buf.alloc ?_ _ | refine Buf.drew ?_ | refine Buf.setCell ?_ (by omega) _ _)); done) | (go_keep; done) | (simp [*, go_sem]; done))))
  clear hKq Kq
  clear hH4
  refine wpAnyH_pure (i := 8) (v := ?_) rfl (by kernel_rfl) (by kernel_rfl) (by kernel_rfl) (fun _ _ _ h => h) (by rfl) (by assumption) ?_ ?_
  rotate_left
  · (intro w hSw; (try dsimp only at hSw); go_simp; (try with_reducible rfl))
  simp only [Act.put, List.getElem_toArray, List.getElem_cons_succ, List.getElem_cons_zero, List.setIfInBounds_toArray, List.set_cons_zero, List.set_cons_succ]
  refine wpAnyH_done (by kernel_rfl) ?_ _
  rw [← HE.out]
  first | refine abs_calls (fun w5 hw5 => ?_) | refine abs_last (fun w5 hw5 => ?_)
  have hw50 : Below w.heap.size w w5 := by rw [hw5]; (repeat' (first | (with_reducible exact Below.refl _ _) | (with_reducible assumption) | (with_reducible refine Below.alloc ?_ ?_ _) | (with_reducible refine Below.drew ?_) | (with_reducible refine below_drewN ?_ _) | (with_reducible refine Below.setCell ?_ ?_ _) | (with_reducible refine below_step (by with_reducible assumption) ?_ ?_) | (with_reducible exact Below.size (by with_reducible assumption)) | go_size))
  have hzz5 := hw50.size
  have cm5_0 : w5.cell? ⟨w.heap.size, 0, none⟩ = some (.int .i64 (E)) := by (first | (rw [hw5]; assumption) | (simp [go_sem, *]; done))
  have cm5_1 : w5.cell? ⟨w.heap.size, 1, none⟩ = some (.slice (some ⟨g, 0, none⟩) N cap) := by (first | (rw [hw5]; assumption) | (simp [go_sem, *]; done))
  have cp5_0 : w5.cell? ⟨w.heap.size + 1, 0, none⟩ = some (.int .i64 (a)) := by (first | (rw [hw5]; assumption) | (simp [go_sem, *]; done))
  have cp5_1 : w5.cell? ⟨w.heap.size + 1, 1, none⟩ = some (.int .i64 (b)) := by (first | (rw [hw5]; assumption) | (simp [go_sem, *]; done))
  have crt5_0 : w5.heap[w.heap.size + 1 + 1]? = some (.cells (z) 26 (0, 0)) := by rw [hw5]; (repeat (first | assumption | (refine heap_alloc_at ?_; (first | rfl | (simp only [World.size_alloc, World.size_drew, World.size_setCell, size_drewN]; done))) | refine block_alloc ?_))
  clear cm4_0 cm4_1
  clear cp4_0 cp4_1
  clear crt4_0
  clear hw5
  go_wp2_with (first | (refine wpl_build0 rfl 26 z rfl (HZ.out _) Try.underlying26 (sz := 1) (by kernel_rfl) ?_) | (refine wpl_store rfl 26 26 _ _ (w.heap.size + 1 + 1) z z rfl rfl rfl (by rw [hs0.out]; exact infoTrace) rfl ho0.out crt5_0 ?_))
  refine bodyPost_ret (v := .tuple #[.agg z, .int .i64 T]) ?_ rfl ⟨rfl, below_setRow (by (repeat' (first | (with_reducible exact Below.refl _ _) | (with_reducible assumption) | (with_reducible refine Below.alloc ?_ ?_ _) | (with_reducible refine Below.drew ?_) | (with_reducible refine below_drewN ?_ _) | (with_reducible refine Below.setCell ?_ ?_ _) | (with_reducible refine below_step (by with_reducible assumption) ?_ ?_) | (with_reducible exact Below.size (by with_reducible assumption)) | go_size))) z (by omega)⟩
  rw [results_cell_tmp (p := 4) (u := 5) (ty := 26) rfl]
  have hl : (loadVar 26 ⟨w.heap.size + 1 + 1, 0, none⟩).run Try.prog (w5.setRow (w.heap.size + 1 + 1) z) = .ok (.agg z) _ := run_loadVar_row _ _ 26 26 z (0, 0) _ (block_setRow crt5_0) Try.underlying26 rfl (by rw [hs0.out]; exact infoTrace)
  change ((loadVar 26 ⟨w.heap.size + 1 + 1, 0, none⟩).run Try.prog _).andThen _ = _
  rw [hl]
  rfl
set_option maxRecDepth 100000 in
set_option maxHeartbeats 2000000 in
theorem traceOf_ok (E a b : Int) (u : Nat → Nat) (g N cap : Nat) (w : World) (hN : N ≤ 20000) (hB : Hid (Buf w g u N cap)) (h : tpE E u N a b = 0) (hE : 1 ≤ E ∧ E ≤ 16) (ha : 0 ≤ a ∧ a < E) (hb : 0 ≤ b ∧ b < E) (hN2 : (N : Int) = E * E * 64) (hx : Hid (∀ i, i < N → eS (u i) = 0)) :
    Calls Try.prog 28 #[.agg #[.int .i64 E, .slice (some ⟨g, 0, none⟩) N cap], .agg #[.int .i64 a, .int .i64 b]] w fun e w' => e = .returned (.tuple #[.agg (tC (atX u (frm a b E))), .int .i64 0]) ∧ Below w.heap.size w w' := by
  have HE := Lib.hid (show 0 = frst [oE E u N, pE a b E] from h.symm)
  have KM := Lib.hid (fun (W : World) (hW : Below w.heap.size w W) => matrixError_any E u g N cap W hN (Lib.hid (hB.out.below hW)))
  have KP := Lib.hid (fun W => pairError_any a b E W)
  have KA := Lib.hid (fun (W : World) (hW : Below w.heap.size w W) => at_any E a b u g N cap W hE ha hb hN2 (Lib.hid (hB.out.below hW)) hx)
  have hs0 := Lib.hid (tC_size fun _ => 0)
  have hsc := Lib.hid (tC_size (atX u (frm a b E)))
  have hoc := Lib.hid (tC_one (atX u (frm a b E)))
  have HZ := Lib.hid zero_trace
  clear h hB hN hE ha hb hN2 hx
  generalize oE E u N = A at *
  generalize pE a b E = B at *
  generalize tC (atX u (frm a b E)) = c at *
  generalize hcc : (tC fun _ => 0) = z at *
  have HCC := Lib.hid hcc
  clear hcc
  go_enter Try.func28, Try.ntmps28
  go_wp2_with (refine wpl_alloc rfl 26 z rfl (HZ.out _) ?_)
  first | refine abs_calls (fun w2 hw2 => ?_) | refine abs_last (fun w2 hw2 => ?_)
  have hw20 : Below w.heap.size w w2 := by rw [hw2]; (repeat' (first | (with_reducible exact Below.refl _ _) | (with_reducible assumption) | (with_reducible refine Below.alloc ?_ ?_ _) | (with_reducible refine Below.drew ?_) | (with_reducible refine below_drewN ?_ _) | (with_reducible refine Below.setCell ?_ ?_ _) | (with_reducible refine below_step (by with_reducible assumption) ?_ ?_) | (with_reducible exact Below.size (by with_reducible assumption)) | go_size))
  have hzz2 := hw20.size
  have cm2_0 : w2.cell? ⟨w.heap.size, 0, none⟩ = some (.int .i64 (E)) := by (first | (rw [hw2]; assumption) | (simp [go_sem, *]; done))
  have cm2_1 : w2.cell? ⟨w.heap.size, 1, none⟩ = some (.slice (some ⟨g, 0, none⟩) N cap) := by (first | (rw [hw2]; assumption) | (simp [go_sem, *]; done))
  have cp2_0 : w2.cell? ⟨w.heap.size + 1, 0, none⟩ = some (.int .i64 (a)) := by (first | (rw [hw2]; assumption) | (simp [go_sem, *]; done))
  have cp2_1 : w2.cell? ⟨w.heap.size + 1, 1, none⟩ = some (.int .i64 (b)) := by (first | (rw [hw2]; assumption) | (simp [go_sem, *]; done))
  have crt2_0 : w2.heap[w.heap.size + 1 + 1]? = some (.cells (z) 26 (0, 0)) := by rw [hw2]; (repeat (first | assumption | (refine heap_alloc_at ?_; (first | rfl | (simp only [World.size_alloc, World.size_drew, World.size_setCell, size_drewN]; done))) | refine block_alloc ?_))
  have hz20 : w.heap.size < w2.heap.size := by (first | (rw [hw2]; simp; omega) | (rw [hw2]; simp; done) | (rw [hw2]; omega))
  have hz21 : w.heap.size + 1 < w2.heap.size := by (first | (rw [hw2]; simp; omega) | (rw [hw2]; simp; done) | (rw [hw2]; omega))
  have hz22 : w.heap.size + 1 + 1 < w2.heap.size := by (first | (rw [hw2]; simp; omega) | (rw [hw2]; simp; done) | (rw [hw2]; omega))
  have hs2 : w2.heap.size = w.heap.size + 1 + 1 + 1 := by rw [hw2]; first | assumption | ((repeat' (first | (with_reducible exact Below.refl _ _) | (with_reducible assumption) | (with_reducible refine Below.alloc ?_ ?_ _) | (with_reducible refine Below.drew ?_) | (with_reducible refine below_drewN ?_ _) | (with_reducible refine Below.setCell ?_ ?_ _) | (with_reducible refine below_step (by with_reducible assumption) ?_ ?_) | (with_reducible exact Below.size (by with_reducible assumption)) | go_size)))
  clear hw2
  refine wp_region_held_drew (S := fun w' => w'.heap[w.heap.size + 1 + 1]? = some (.cells (z) 26 (0, 0)) ∧ w'.cell? ⟨w.heap.size, 0, none⟩ = some (.int .i64 (E)) ∧ w'.cell? ⟨w.heap.size, 1, none⟩ = some (.slice (some ⟨g, 0, none⟩) N cap) ∧ w'.cell? ⟨w.heap.size + 1, 0, none⟩ = some (.int .i64 (a)) ∧ w'.cell? ⟨w.heap.size + 1, 1, none⟩ = some (.int .i64 (b))) (by kernel_rfl) ?_ (fun hH1 => ?_)
  · (first | assumption | (refine ⟨?_, ?_, ?_, ?_, ?_⟩ <;> (first | assumption | ((repeat (first | assumption | (refine heap_alloc_at ?_; (first | rfl | (simp only [World.size_alloc, World.size_drew, World.size_setCell, size_drewN]; done))) | refine block_alloc ?_ | refine Buf.alloc ?_ _ | refine Buf.drew ?_ | refine Buf.setCell ?_ (by omega) _ _)); done) | (go_keep; done) | (simp [*, go_sem]; done))))
  refine wpAnyH_pure (i := 0) (v := ?_) rfl (by kernel_rfl) (by kernel_rfl) (by kernel_rfl) (fun _ _ _ h => h) (by rfl) (by assumption) ?_ ?_
  rotate_left
  · (intro w hSw; (try dsimp only at hSw); go_simp; (try with_reducible rfl))
  simp only [Act.put, List.getElem_toArray, List.getElem_cons_succ, List.getElem_cons_zero, List.setIfInBounds_toArray, List.set_cons_zero, List.set_cons_succ]
  refine wpAnyH_pure (i := 2) (v := ?_) rfl (by kernel_rfl) (by kernel_rfl) (by kernel_rfl) (fun _ _ _ h => h) (by rfl) (by assumption) ?_ ?_
  rotate_left
  · (intro w hSw; (try dsimp only at hSw); go_simp; (try with_reducible rfl))
  simp only [Act.put, List.getElem_toArray, List.getElem_cons_succ, List.getElem_cons_zero, List.setIfInBounds_toArray, List.set_cons_zero, List.set_cons_succ]
  refine wpAnyH_pure (i := 3) (v := ?_) rfl (by kernel_rfl) (by kernel_rfl) (by kernel_rfl) (fun _ _ _ h => h) (by rfl) (by assumption) ?_ ?_
  rotate_left
  · (intro w hSw; (try dsimp only at hSw); go_simp; (try with_reducible rfl))
  simp only [Act.put, List.getElem_toArray, List.getElem_cons_succ, List.getElem_cons_zero, List.setIfInBounds_toArray, List.set_cons_zero, List.set_cons_succ]
  refine wpAnyH_pure (i := 4) (v := ?_) rfl (by kernel_rfl) (by kernel_rfl) (by kernel_rfl) (fun _ _ _ h => h) (by rfl) (by assumption) ?_ ?_
  rotate_left
  · (intro w hSw; (try dsimp only at hSw); go_simp; (try with_reducible rfl))
  simp only [Act.put, List.getElem_toArray, List.getElem_cons_succ, List.getElem_cons_zero, List.setIfInBounds_toArray, List.set_cons_zero, List.set_cons_succ]
  refine wpAnyH_ready (rs := [1]) (by kernel_rfl) (by simp) ?_
  refine AllReadyH.cons rfl (fun Kq hKq => ?_) AllReadyH.nil
  go_simp
  refine (KM.out _ (by (repeat' (first | (with_reducible exact Below.refl _ _) | (with_reducible assumption) | (with_reducible refine Below.alloc ?_ ?_ _) | (with_reducible refine Below.drew ?_) | (with_reducible refine below_drewN ?_ _) | (with_reducible refine Below.setCell ?_ ?_ _) | (with_reducible refine below_step (by with_reducible assumption) ?_ ?_) | (with_reducible exact Below.size (by with_reducible assumption)) | go_size)))).mono ?_
  (rintro e w3 ⟨rfl, hw3⟩)
  obtain ⟨hcw3, hfw3, hlw3, hmw3, hnw3⟩ := bcell3 hw3
  have hzw3 := hw3.size
  (try simp only [World.size_alloc, World.size_setCell, World.size_drew, size_drewN] at hzw3)
  have cm3_0 : w3.cell? ⟨w.heap.size, 0, none⟩ = some (.int .i64 (E)) := (hcw3 (w.heap.size) (0) (by first | omega | (simp only [World.size_alloc, World.size_drew, World.size_setCell, size_drewN]; omega))).trans (by first | assumption | (simp [go_sem, *]; done)); have cm3_1 : w3.cell? ⟨w.heap.size, 1, none⟩ = some (.slice (some ⟨g, 0, none⟩) N cap) := (hcw3 (w.heap.size) (1) (by first | omega | (simp only [World.size_alloc, World.size_drew, World.size_setCell, size_drewN]; omega))).trans (by first | assumption | (simp [go_sem, *]; done)); have om3 : w.heap.size < w3.heap.size := (by omega)
  clear cm2_0 cm2_1
  have cp3_0 : w3.cell? ⟨w.heap.size + 1, 0, none⟩ = some (.int .i64 (a)) := (hcw3 (w.heap.size + 1) (0) (by first | omega | (simp only [World.size_alloc, World.size_drew, World.size_setCell, size_drewN]; omega))).trans (by first | assumption | (simp [go_sem, *]; done)); have cp3_1 : w3.cell? ⟨w.heap.size + 1, 1, none⟩ = some (.int .i64 (b)) := (hcw3 (w.heap.size + 1) (1) (by first | omega | (simp only [World.size_alloc, World.size_drew, World.size_setCell, size_drewN]; omega))).trans (by first | assumption | (simp [go_sem, *]; done)); have op3 : w.heap.size + 1 < w3.heap.size := (by omega)
  clear cp2_0 cp2_1
  have crt3_0 : w3.heap[w.heap.size + 1 + 1]? = some (.cells (z) 26 (0, 0)) := block_below0 hw3 (by first | assumption | (repeat (first | assumption | (refine heap_alloc_at ?_; (first | rfl | (simp only [World.size_alloc, World.size_drew, World.size_setCell, size_drewN]; done))) | refine block_alloc ?_)))
  clear crt2_0
  clear hcw3 hfw3 hlw3 hmw3 hnw3
  refine hKq.out _ _ ?_ (fun hH2 => ?_)
  · (first | assumption | (refine ⟨?_, ?_, ?_, ?_, ?_⟩ <;> (first | assumption | ((repeat (first | assumption | (refine heap_alloc_at ?_; (first | rfl | (simp only [World.size_alloc, World.size_drew, World.size_setCell, size_drewN]; done))) | refine block_alloc ?_ | refine Buf.alloc ?_ _ | refine Buf.drew ?_ | refine Buf.setCell ?_ (by omega) _ _)); done) | (go_keep; done) | (simp [*, go_sem]; done))))
  clear hKq Kq
  clear hH1
  refine wpAnyH_ready (rs := [5]) (by kernel_rfl) (by simp) ?_
  refine AllReadyH.cons rfl (fun Kq hKq => ?_) AllReadyH.nil
  go_simp
  refine (KP.out _).mono ?_
  (rintro e w4 ⟨rfl, hw4⟩)
  obtain ⟨hcw4, hfw4, hlw4, hmw4, hnw4⟩ := bcell3 hw4
  have hzw4 := hw4.size
  (try simp only [World.size_alloc, World.size_setCell, World.size_drew, size_drewN] at hzw4)
  have cm4_0 : w4.cell? ⟨w.heap.size, 0, none⟩ = some (.int .i64 (E)) := (hcw4 (w.heap.size) (0) (by first | omega | (simp only [World.size_alloc, World.size_drew, World.size_setCell, size_drewN]; omega))).trans (by first | assumption | (simp [go_sem, *]; done)); have cm4_1 : w4.cell? ⟨w.heap.size, 1, none⟩ = some (.slice (some ⟨g, 0, none⟩) N cap) := (hcw4 (w.heap.size) (1) (by first | omega | (simp only [World.size_alloc, World.size_drew, World.size_setCell, size_drewN]; omega))).trans (by first | assumption | (simp [go_sem, *]; done)); have om4 : w.heap.size < w4.heap.size := (by omega)
  clear cm3_0 cm3_1
  have cp4_0 : w4.cell? ⟨w.heap.size + 1, 0, none⟩ = some (.int .i64 (a)) := (hcw4 (w.heap.size + 1) (0) (by first | omega | (simp only [World.size_alloc, World.size_drew, World.size_setCell, size_drewN]; omega))).trans (by first | assumption | (simp [go_sem, *]; done)); have cp4_1 : w4.cell? ⟨w.heap.size + 1, 1, none⟩ = some (.int .i64 (b)) := (hcw4 (w.heap.size + 1) (1) (by first | omega | (simp only [World.size_alloc, World.size_drew, World.size_setCell, size_drewN]; omega))).trans (by first | assumption | (simp [go_sem, *]; done)); have op4 : w.heap.size + 1 < w4.heap.size := (by omega)
  clear cp3_0 cp3_1
  have crt4_0 : w4.heap[w.heap.size + 1 + 1]? = some (.cells (z) 26 (0, 0)) := block_below0 hw4 (by first | assumption | (repeat (first | assumption | (refine heap_alloc_at ?_; (first | rfl | (simp only [World.size_alloc, World.size_drew, World.size_setCell, size_drewN]; done))) | refine block_alloc ?_)))
  clear crt3_0
  clear hcw4 hfw4 hlw4 hmw4 hnw4
  refine hKq.out _ _ ?_ (fun hH3 => ?_)
  · (first | assumption | (refine ⟨?_, ?_, ?_, ?_, ?_⟩ <;> (first | assumption | ((repeat (first | assumption | (refine heap_alloc_at ?_; (first | rfl | (simp only [World.size_alloc, World.size_drew, World.size_setCell, size_drewN]; done))) | refine block_alloc ?_ | refine Buf.alloc ?_ _ | refine Buf.drew ?_ | refine Buf.setCell ?_ (by omega) _ _)); done) | (go_keep; done) | (simp [*, go_sem]; done))))
  clear hKq Kq
  clear hH2
  refine wpAnyH_ready (rs := [6]) (by kernel_rfl) (by simp) ?_
  refine AllReadyH.cons rfl (fun Kq hKq => ?_) AllReadyH.nil
  go_simp
  refine hKq.out _ _ ?_ (fun hH4 => ?_)
  · (first | assumption | (refine ⟨?_, ?_, ?_, ?_, ?_⟩ <;> (first | assumption | ((repeat (first | assumption | (refine heap_alloc_at ?_; (first | rfl | (simp only [World.size_alloc, World.size_drew, World.size_setCell, size_drewN]; done))) | refine block_alloc ?_ | refine Buf.alloc ?_ _ | refine Buf.drew ?_ | refine Buf.setCell ?_ (by omega) _ _)); done) | (go_keep; done) | (simp [*, go_sem]; done))))
  clear hKq Kq
  clear hH3
  refine wpAnyH_ready (rs := [7]) (by kernel_rfl) (by simp) ?_
  refine AllReadyH.cons rfl (fun Kq hKq => ?_) AllReadyH.nil
  go_simp
  apply Calls.mono
  focus ((apply first2 <;> exact cell_fresh _ _ _ _ _ _ (by first | rfl | simp) rfl); done)
  (rintro e w' ⟨rfl, rfl⟩)
  refine hKq.out _ _ ?_ (fun hH5 => ?_)
  · (first | assumption | (refine ⟨?_, ?_, ?_, ?_, ?_⟩ <;> (first | assumption | ((repeat (first | assumption | (refine heap_alloc_at ?_; (first | rfl | (simp only [World.size_alloc, World.size_drew, World.size_setCell, size_drewN]; done))) | refine block_alloc ?_ | refine Buf.alloc ?_ _ | refine Buf.drew ?_ | refine Buf.setCell ?_ (by omega) _ _)); done) | (go_keep; done) | (simp [*, go_sem]; done))))
  clear hKq Kq
  clear hH4
  refine wpAnyH_pure (i := 8) (v := ?_) rfl (by kernel_rfl) (by kernel_rfl) (by kernel_rfl) (fun _ _ _ h => h) (by rfl) (by assumption) ?_ ?_
  rotate_left
  · (intro w hSw; (try dsimp only at hSw); go_simp; (try with_reducible rfl))
  simp only [Act.put, List.getElem_toArray, List.getElem_cons_succ, List.getElem_cons_zero, List.setIfInBounds_toArray, List.set_cons_zero, List.set_cons_succ]
  refine wpAnyH_done (by kernel_rfl) ?_ _
  rw [← HE.out]
  first | refine abs_calls (fun w5 hw5 => ?_) | refine abs_last (fun w5 hw5 => ?_)
  have hw50 : Below w.heap.size w w5 := by rw [hw5]; (repeat' (first | (with_reducible exact Below.refl _ _) | (with_reducible assumption) | (with_reducible refine Below.alloc ?_ ?_ _) | (with_reducible refine Below.drew ?_) | (with_reducible refine below_drewN ?_ _) | (with_reducible refine Below.setCell ?_ ?_ _) | (with_reducible refine below_step (by with_reducible assumption) ?_ ?_) | (with_reducible exact Below.size (by with_reducible assumption)) | go_size))
  have hzz5 := hw50.size
  have cm5_0 : w5.cell? ⟨w.heap.size, 0, none⟩ = some (.int .i64 (E)) := by (first | (rw [hw5]; assumption) | (simp [go_sem, *]; done))
  have cm5_1 : w5.cell? ⟨w.heap.size, 1, none⟩ = some (.slice (some ⟨g, 0, none⟩) N cap) := by (first | (rw [hw5]; assumption) | (simp [go_sem, *]; done))
  have cp5_0 : w5.cell? ⟨w.heap.size + 1, 0, none⟩ = some (.int .i64 (a)) := by (first | (rw [hw5]; assumption) | (simp [go_sem, *]; done))
  have cp5_1 : w5.cell? ⟨w.heap.size + 1, 1, none⟩ = some (.int .i64 (b)) := by (first | (rw [hw5]; assumption) | (simp [go_sem, *]; done))
  have crt5_0 : w5.heap[w.heap.size + 1 + 1]? = some (.cells (z) 26 (0, 0)) := by rw [hw5]; (repeat (first | assumption | (refine heap_alloc_at ?_; (first | rfl | (simp only [World.size_alloc, World.size_drew, World.size_setCell, size_drewN]; done))) | refine block_alloc ?_))
  clear cm4_0 cm4_1
  clear cp4_0 cp4_1
  clear crt4_0
  clear hw5
  go_wp2_with fail
  refine (KA.out _ (by (repeat' (first | (with_reducible exact Below.refl _ _) | (with_reducible assumption) | (with_reducible refine Below.alloc ?_ ?_ _) | (with_reducible refine Below.drew ?_) | (with_reducible refine below_drewN ?_ _) | (with_reducible refine Below.setCell ?_ ?_ _) | (with_reducible refine below_step (by with_reducible assumption) ?_ ?_) | (with_reducible exact Below.size (by with_reducible assumption)) | go_size)))).mono ?_
  rintro e w6 ⟨rfl, hw6⟩
  have hz6 := hw6.size
  have crt6 := block_below0 hw6 crt5_0
  go_wp2_with (refine wpl_store rfl 26 26 _ _ (w.heap.size + 1 + 1) z c rfl rfl rfl (by rw [hsc.out]; exact infoTrace) (by rw [hsc.out, hs0.out]) hoc.out crt6 ?_)
  refine bodyPost_ret (v := .tuple #[.agg c, .int .i64 0]) ?_ rfl ⟨rfl, below_setRow (by (repeat' (first | (with_reducible exact Below.refl _ _) | (with_reducible assumption) | (with_reducible refine Below.alloc ?_ ?_ _) | (with_reducible refine Below.drew ?_) | (with_reducible refine below_drewN ?_ _) | (with_reducible refine Below.setCell ?_ ?_ _) | (with_reducible refine below_step (by with_reducible assumption) ?_ ?_) | (with_reducible exact Below.size (by with_reducible assumption)) | go_size))) c (by omega)⟩
  rw [results_cell_tmp (p := 4) (u := 5) (ty := 26) rfl]
  have hl : (loadVar 26 ⟨w.heap.size + 1 + 1, 0, none⟩).run Try.prog (w6.setRow (w.heap.size + 1 + 1) c) = .ok (.agg c) _ := run_loadVar_row _ _ 26 26 c (0, 0) _ (block_setRow crt6) Try.underlying26 rfl (by rw [hsc.out]; exact infoTrace)
  change ((loadVar 26 ⟨w.heap.size + 1 + 1, 0, none⟩).run Try.prog _).andThen _ = _
  rw [hl]
  rfl
end Go.Proofs.Ythgnemkfaiejbaa
