/-
  TraceLags: the walk without an error.
-/
import Derived.Test.YthgnemkfaiejbaaTraceLags
set_option linter.unusedVariables false
set_option linter.unusedSimpArgs false
namespace Go.Proofs.Ythgnemkfaiejbaa
open Go.RowKit

section
variable {P : Program} {w : World} {o : Oper} {a : Act} {Q : Exit → Act → World → Prop} {ops : Array Oper} {rest : List Oper}
theorem wpl_loadg (hw : Region.wanted o (yielded ops a.tmps) = true) (t et : TypeId) (p : Operand) (g : Nat) (c : Array Value) (fr : Nat × Nat) (d : TypeDesc) (ho : o.op = .load t p) (hp : a.eval p = .pointer (some ⟨g, 0, none⟩)) (hu : P.underlying t = some d) (hd : (match d with | .struct _ | .array _ _ => true | _ => false) = true)
    (hi : (P.info? t).map (·.size) = some c.size) (hg : w.heap[g]? = some (.cells c et fr)) (h : wpList P ops Q rest (a.put o.dst (.agg c)) w) : wpList P ops Q (o :: rest) a w :=
  wpList_step fun K hK => by rw [if_pos hw]; exact wp_load_row t et p g c fr d ho hp hu hd hi hg (hK _ _ h)
end
/-- is there a sample that is not 0 -/
def sB (x : Nat → Int) : Nat → Bool
  | 0 => false
  | k + 1 => sB x k || decide (x k ≠ 0)
theorem sB_false {x : Nat → Int} : ∀ {n : Nat}, sB x n = false → ∀ i, i < n → x i = 0
  | 0, _, i, h => absurd h (Nat.not_lt_zero _)
  | n + 1, hs, i, h => by
    unfold sB at hs
    rw [Bool.or_eq_false_iff] at hs
    by_cases e : i = n
    · have := hs.2
      rw [e]
      simpa using this
    · exact sB_false hs.1 i (by omega)
theorem sB_true {x : Nat → Int} : ∀ {n : Nat}, sB x n = true → ∃ i, i < n ∧ x i ≠ 0
  | 0, hs => by cases hs
  | n + 1, hs => by
    unfold sB at hs
    rw [Bool.or_eq_true] at hs
    rcases hs with h | h
    · obtain ⟨i, a, b⟩ := sB_true h
      exact ⟨i, by omega, b⟩
    · exact ⟨n, by omega, by simpa using h⟩
theorem lk_congr (x : Nat → Int) {y y' : Nat → Int} (h : ∀ j, j < 64 → y j = y' j) (l : Int) : ∀ k, lk x y l k = lk x y' l k
  | 0 => rfl
  | k + 1 => by
    show lk x y l k + _ = lk x y' l k + _
    rw [lk_congr x h l k]
    congr 1
    split
    · rw [h _ (by omega)]
    · rfl
theorem bl_const {L : Int → Int} (h : ∀ l, L l = 0) : ∀ s, bl L s = (0, 0)
  | 0 => by unfold bl; rw [h]
  | s + 1 => by
    rw [bl_step, bl_const h s]
    simp [h]
theorem lag_none {x y : Nat → Int} (h : sB x 64 = false) (s : Nat) : (bl (fun l => lk x y l 64) s).1 = 0 := by
  rw [bl_const fun l => lk_zero x y l (sB_false h) 64 (Nat.le_refl _)]
theorem lag_some {x : Nat → Int} {b : Nat} (hb : b ≤ 32) (h : sB x 64 = true) (hz : ∀ i, i < 64 → x i ≠ 0 → i + b < 64) : (bl (fun l => lk x (shT x (b : Int)) l 64) b).1 = b := by
  have e : (fun l => lk x (shT x (b : Int)) l 64) = fun l => lk x (sh x b) l 64 := by
    funext l
    refine lk_congr x (fun j hj => ?_) l 64
    unfold sh
    by_cases c : b ≤ j
    · rw [if_pos c, shT_at x b c hj]
    · rw [if_neg c]
      unfold shT
      rw [if_neg (by unfold inB; rw [decide_eq_false (by omega)]; decide)]
  rw [e]
  refine bl_only _ b b (by omega) (by omega) fun l l1 l2 l3 => ?_
  refine lag_sh x b (by omega) (fun i hi h2 => ?_) (sB_true h) l l1 l2 l3
  by_cases c : x i = 0
  · exact c
  · have := hz i hi c; omega
theorem order_zero {n : Int} (h : n.natAbs < 2 ^ 24) : FloatKind.f32.format.order (wd Ieee.single n) 0 = some (compare n 0) := by
  have := order_wd fine_single (a := n) (b := 0) h (by decide)
  rw [show wd Ieee.single 0 = 0 by decide +kernel] at this
  exact this
set_option maxRecDepth 100000 in
set_option maxHeartbeats 4000000 in
theorem traceLags_ok (v0 v1 : Value) (x y : Nat → Int) (n m b : Nat) (w : World) (hr0 : Hid (IRow w v0 x n)) (hr1 : Hid (IRow w v1 y m)) (hn : n ≤ 64) (hm : m ≤ 64) (hb : b ≤ 32)
    (hx : Hid (∀ k, k < 64 → (mkT x n k).natAbs ≤ 2047)) (hy : Hid (∀ k, k < 64 → (mkT y m k).natAbs ≤ 2047)) :
    Calls Try.prog 15 #[v0, v1, .int .i64 (b : Int)] w fun e w' => e = .returned (.bool true) ∧ Below w.heap.size w w' := by
  have KD := Lib.hid (fun W => lagOf_ok (mkT x n) (mkT y m) b W hx hy hb)
  have KR := Lib.hid (fun W => lagOfR_any (mkT x n) (mkT y m) b W hx hy hb)
  have kx : ∀ W, _ := fun W => checkTraceR_any (mkT x n) W (mkT_24 x n)
  have ky : ∀ W, _ := fun W => checkTraceR_any (mkT y m) W (mkT_24 y m)
  rw [tE_ok hx.out, tN_ok hx.out] at kx
  rw [tE_ok hy.out, tN_ok hy.out] at ky
  have KX := Lib.hid kx
  have KY := Lib.hid ky
  clear kx ky
  have k0 : ∀ W, _ := fun W => bwithin_any (b : Int) 0 32 W
  rw [show inB (b : Int) 0 32 = true by unfold inB; exact decide_eq_true (by omega)] at k0
  have K := Lib.hid k0
  clear k0
  have KS := Lib.hid (fun W => shifted_ok (mkT x n) (b : Int) W hx (by omega))
  have KQ := Lib.hid (fun W => lagOf_ok (mkT x n) (shT (mkT x n) (b : Int)) b W hx (Lib.hid fun k _ => shT_bd hx.out k) hb)
  have hst := Lib.hid (tC_size (shT (mkT x n) (b : Int)))
  have hot := Lib.hid (tC_one (shT (mkT x n) (b : Int)))
  have HN := Lib.hid (fun (h : sB (mkT x n) 64 = false) => lag_none (y := shT (mkT x n) (b : Int)) h b)
  have HS := Lib.hid (fun (h : sB (mkT x n) 64 = true) hz => lag_some hb h hz)
  have HGx := Lib.hid (fun k (h : k < 64) => tC_get (mkT x n) h)
  generalize tC (shT (mkT x n) (b : Int)) = t at *
  generalize (bl (fun l => lk (mkT x n) (mkT y m) l 64) b).1 = nn at *
  generalize (bl (fun l => lk (mkT x n) (shT (mkT x n) (b : Int)) l 64) b).1 = ss at *
  have KA := Lib.hid awake3_any
  have KM0 := Lib.hid (fun W (hB : Below w.heap.size w W) => made_any v0 x n W (by omega) (Lib.hid (hr0.out.below hB)))
  have KM1 := Lib.hid (fun W (hB : Below w.heap.size w W) => made_any v1 y m W (by omega) (Lib.hid (hr1.out.below hB)))
  obtain ⟨q0, c0, rfl, hc0, -⟩ := hr0.out
  obtain ⟨q1, c1, rfl, hc1, -⟩ := hr1.out
  have d0 : decide (64 < (n : Int)) = false := decide_eq_false (by omega)
  have d1 : decide (64 < (m : Int)) = false := decide_eq_false (by omega)
  have HZ := Lib.hid zero_trace
  have hs0 := Lib.hid (tC_size fun _ => 0)
  have hsc := Lib.hid (tC_size (mkT x n))
  have hsd := Lib.hid (tC_size (mkT y m))
  have hoc := Lib.hid (tC_one (mkT x n))
  have hod := Lib.hid (tC_one (mkT y m))
  clear hr0 hr1 hc0 hc1
  generalize tC (mkT x n) = c at *
  generalize tC (mkT y m) = d at *
  generalize (tC fun _ => 0) = z at *
  go_enter Try.func15, Try.ntmps15
  go_wp2_with fail; (refine (KA.out _).mono ?_; rintro e w1 ⟨rfl, hw1⟩; obtain ⟨hcw1, hfw1, hlw1, hmw1, hnw1⟩ := bcell3 hw1; have hzw1 := hw1.size; (try simp only [World.size_alloc, World.size_setCell, World.size_drew, size_drewN] at hzw1))
  clear hcw1 hfw1 hlw1 hmw1 hnw1
  have hB1 : Below w.heap.size w w1 := by (repeat' (first | (with_reducible exact Below.refl _ _) | (with_reducible assumption) | (with_reducible refine Below.alloc ?_ ?_ _) | (with_reducible refine Below.drew ?_) | (with_reducible refine below_drewN ?_ _) | (with_reducible refine Below.setCell ?_ ?_ _) | (with_reducible refine below_step (by with_reducible assumption) ?_ ?_) | (with_reducible exact Below.size (by with_reducible assumption)) | go_size))
  go_wp2_with fail; (refine (KM0.out _ hB1).mono ?_; rintro e w2 ⟨rfl, hw2⟩; obtain ⟨hcw2, hfw2, hlw2, hmw2, hnw2⟩ := bcell3 hw2; have hzw2 := hw2.size; (try simp only [World.size_alloc, World.size_setCell, World.size_drew, size_drewN] at hzw2))
  clear hcw2 hfw2 hlw2 hmw2 hnw2
  have hB2 : Below w.heap.size w w2 := by (repeat' (first | (with_reducible exact Below.refl _ _) | (with_reducible assumption) | (with_reducible refine Below.alloc ?_ ?_ _) | (with_reducible refine Below.drew ?_) | (with_reducible refine below_drewN ?_ _) | (with_reducible refine Below.setCell ?_ ?_ _) | (with_reducible refine below_step (by with_reducible assumption) ?_ ?_) | (with_reducible exact Below.size (by with_reducible assumption)) | go_size))
  go_wp2_with fail; (refine (KM1.out _ hB2).mono ?_; rintro e w3 ⟨rfl, hw3⟩; obtain ⟨hcw3, hfw3, hlw3, hmw3, hnw3⟩ := bcell3 hw3; have hzw3 := hw3.size; (try simp only [World.size_alloc, World.size_setCell, World.size_drew, size_drewN] at hzw3))
  clear hcw3 hfw3 hlw3 hmw3 hnw3
  have hB3 : Below w.heap.size w w3 := by (repeat' (first | (with_reducible exact Below.refl _ _) | (with_reducible assumption) | (with_reducible refine Below.alloc ?_ ?_ _) | (with_reducible refine Below.drew ?_) | (with_reducible refine below_drewN ?_ _) | (with_reducible refine Below.setCell ?_ ?_ _) | (with_reducible refine below_step (by with_reducible assumption) ?_ ?_) | (with_reducible exact Below.size (by with_reducible assumption)) | go_size))
  go_upto_region 6 with (first | (refine wpl_alloc rfl 26 z rfl (HZ.out _) ?_) | (refine wpl_store rfl 26 26 _ _ w3.heap.size z c rfl rfl rfl (by rw [hsc.out]; exact infoTrace) (by rw [hs0.out, hsc.out]) hoc.out (block_alloc (heap_alloc_last w3 _)) ?_) | (refine wpl_store rfl 26 26 _ _ (w3.alloc (.cells z 26)).heap.size z d rfl rfl rfl (by rw [hsd.out]; exact infoTrace) (by rw [hs0.out, hsd.out]) hod.out ((block_setRow_other (show ¬ w3.heap.size = (w3.alloc (.cells z 26)).heap.size by simp)).trans (heap_alloc_last _ _)) ?_))
  have hlt2 : w3.heap.size < (w3.alloc (.cells z 26)).heap.size := by simp
  generalize hb2 : (w3.alloc (.cells z 26)).heap.size = b2 at *
  refine abs_last (fun w4 hw4 => ?_)
  have hw40 : Below w.heap.size w w4 := by rw [hw4]; exact below_setRow (below_setRow (by have := hB3.size; (repeat' (first | (with_reducible exact Below.refl _ _) | (with_reducible assumption) | (with_reducible refine Below.alloc ?_ ?_ _) | (with_reducible refine Below.drew ?_) | (with_reducible refine below_drewN ?_ _) | (with_reducible refine Below.setCell ?_ ?_ _) | (with_reducible refine below_step (by with_reducible assumption) ?_ ?_) | (with_reducible exact Below.size (by with_reducible assumption)) | go_size))) c hB3.size) d (by have := hB3.size; omega)
  have ca4_0 : w4.heap[w3.heap.size]? = some (.cells c 26 (0, 0)) := by rw [hw4, block_setRow_other (by omega)]; exact block_setRow (block_alloc (heap_alloc_last w3 _))
  have cb4_0 : w4.heap[b2]? = some (.cells d 26 (0, 0)) := by rw [hw4]; exact block_setRow ((block_setRow_other (by omega)).trans (hb2 ▸ heap_alloc_last _ _))
  clear hw4 hb2
  have hz40 := hw40.size
  go_wp2_with (first | (refine wpl_load rfl 26 26 _ w3.heap.size c (0, 0) _ rfl rfl Try.underlying26 rfl (by rw [hsc.out]; exact infoTrace) ca4_0 ?_) | (refine wpl_load rfl 26 26 _ b2 d (0, 0) _ rfl rfl Try.underlying26 rfl (by rw [hsd.out]; exact infoTrace) cb4_0 ?_))
  go_wp2_with fail; (refine (KD.out _).mono ?_; rintro e w5 ⟨rfl, hw5⟩; obtain ⟨hcw5, hfw5, hlw5, hmw5, hnw5⟩ := bcell3 hw5; have hzw5 := hw5.size; (try simp only [World.size_alloc, World.size_setCell, World.size_drew, size_drewN] at hzw5))
  have ca5_0 : w5.heap[w3.heap.size]? = some (.cells (c) 26 (0, 0)) := block_below0 hw5 (by first | assumption | (repeat (first | assumption | (refine heap_alloc_at ?_; (first | rfl | (simp only [World.size_alloc, World.size_drew, World.size_setCell, size_drewN]; done))) | refine block_alloc ?_)))
  clear ca4_0
  have cb5_0 : w5.heap[b2]? = some (.cells (d) 26 (0, 0)) := block_below0 hw5 (by first | assumption | (repeat (first | assumption | (refine heap_alloc_at ?_; (first | rfl | (simp only [World.size_alloc, World.size_drew, World.size_setCell, size_drewN]; done))) | refine block_alloc ?_)))
  clear cb4_0
  clear hcw5 hfw5 hlw5 hmw5 hnw5
  go_wp2_with (first | (refine wpl_load rfl 26 26 _ w3.heap.size c (0, 0) _ rfl rfl Try.underlying26 rfl (by rw [hsc.out]; exact infoTrace) (ca5_0) ?_))
  go_wp2_with fail; (refine (KX.out _).mono ?_; rintro e w6 ⟨rfl, hw6⟩; obtain ⟨hcw6, hfw6, hlw6, hmw6, hnw6⟩ := bcell3 hw6; have hzw6 := hw6.size; (try simp only [World.size_alloc, World.size_setCell, World.size_drew, size_drewN] at hzw6))
  have ca6_0 : w6.heap[w3.heap.size]? = some (.cells (c) 26 (0, 0)) := block_below0 hw6 (by first | assumption | (repeat (first | assumption | (refine heap_alloc_at ?_; (first | rfl | (simp only [World.size_alloc, World.size_drew, World.size_setCell, size_drewN]; done))) | refine block_alloc ?_)))
  clear ca5_0
  have cb6_0 : w6.heap[b2]? = some (.cells (d) 26 (0, 0)) := block_below0 hw6 (by first | assumption | (repeat (first | assumption | (refine heap_alloc_at ?_; (first | rfl | (simp only [World.size_alloc, World.size_drew, World.size_setCell, size_drewN]; done))) | refine block_alloc ?_)))
  clear cb5_0
  clear hcw6 hfw6 hlw6 hmw6 hnw6
  go_wp2_with (first | (refine wpl_load rfl 26 26 _ b2 d (0, 0) _ rfl rfl Try.underlying26 rfl (by rw [hsd.out]; exact infoTrace) (cb6_0) ?_))
  go_wp2_with fail; (refine (KY.out _).mono ?_; rintro e w7 ⟨rfl, hw7⟩; obtain ⟨hcw7, hfw7, hlw7, hmw7, hnw7⟩ := bcell3 hw7; have hzw7 := hw7.size; (try simp only [World.size_alloc, World.size_setCell, World.size_drew, size_drewN] at hzw7))
  have ca7_0 : w7.heap[w3.heap.size]? = some (.cells (c) 26 (0, 0)) := block_below0 hw7 (by first | assumption | (repeat (first | assumption | (refine heap_alloc_at ?_; (first | rfl | (simp only [World.size_alloc, World.size_drew, World.size_setCell, size_drewN]; done))) | refine block_alloc ?_)))
  clear ca6_0
  have cb7_0 : w7.heap[b2]? = some (.cells (d) 26 (0, 0)) := block_below0 hw7 (by first | assumption | (repeat (first | assumption | (refine heap_alloc_at ?_; (first | rfl | (simp only [World.size_alloc, World.size_drew, World.size_setCell, size_drewN]; done))) | refine block_alloc ?_)))
  clear cb6_0
  clear hcw7 hfw7 hlw7 hmw7 hnw7
  go_wp2_with fail
  refine (K.out _).mono ?_
  rintro e w' ⟨rfl, rfl⟩
  go_wp2_with (first | (refine wpl_loadg rfl 26 26 _ w3.heap.size c (0, 0) _ rfl rfl Try.underlying26 rfl (by rw [hsc.out]; exact infoTrace) (ca7_0) ?_) | (refine wpl_loadg rfl 26 26 _ b2 d (0, 0) _ rfl rfl Try.underlying26 rfl (by rw [hsd.out]; exact infoTrace) (cb7_0) ?_))
  go_wp2_with fail; (refine (KR.out _).mono ?_; rintro e w8 ⟨rfl, hw8⟩; obtain ⟨hcw8, hfw8, hlw8, hmw8, hnw8⟩ := bcell3 hw8; have hzw8 := hw8.size; (try simp only [World.size_alloc, World.size_setCell, World.size_drew, size_drewN] at hzw8))
  have ca8_0 : w8.heap[w3.heap.size]? = some (.cells (c) 26 (0, 0)) := block_below0 hw8 (by first | assumption | (repeat (first | assumption | (refine heap_alloc_at ?_; (first | rfl | (simp only [World.size_alloc, World.size_drew, World.size_setCell, size_drewN]; done))) | refine block_alloc ?_)))
  clear ca7_0
  have cb8_0 : w8.heap[b2]? = some (.cells (d) 26 (0, 0)) := block_below0 hw8 (by first | assumption | (repeat (first | assumption | (refine heap_alloc_at ?_; (first | rfl | (simp only [World.size_alloc, World.size_drew, World.size_setCell, size_drewN]; done))) | refine block_alloc ?_)))
  clear cb7_0
  clear hcw8 hfw8 hlw8 hmw8 hnw8
  have hB8 : Below w.heap.size w w8 := by (repeat' (first | (with_reducible exact Below.refl _ _) | (with_reducible assumption) | (with_reducible refine Below.alloc ?_ ?_ _) | (with_reducible refine Below.drew ?_) | (with_reducible refine below_drewN ?_ _) | (with_reducible refine Below.setCell ?_ ?_ _) | (with_reducible refine below_step (by with_reducible assumption) ?_ ?_) | (with_reducible exact Below.size (by with_reducible assumption)) | go_size))
  go_wp2
  generalize w3.heap.size = bx at *
  have HX := Lib.hid hx
  go_loopw [15, 16] (fun so i wr => ∃ k : Nat, k ≤ 64 ∧ i = .int .i64 (k : Int) ∧ so = .bool (sB (mkT x n) k) ∧ Below w.heap.size w wr ∧ wr.heap[bx]? = some (.cells c 26 (0, 0)) ∧ Hid (∀ i, i < k → mkT x n i ≠ 0 → i + b < 64)) (fun _ i _ => 64 - (intOf i).toNat)
  case atStart => exact ⟨0, Nat.zero_le _, rfl, rfl, hB8, ca8_0, Lib.hid fun i hi => absurd hi (Nat.not_lt_zero _)⟩
  case round =>
    clear hB8 ca8_0
    obtain ⟨k, hk, rfl, rfl, hB, g0, hz⟩ := hrel
    have HB := Lib.hid hB
    have G0 := Lib.hid g0
    clear hB g0
    by_cases hlt : k < 64
    · have d0 := (cell_block (i := k) G0.out).trans (HGx.out k hlt)
      have hO := order_zero (n := mkT x n k) (by have := hx.out k hlt; omega)
      have e0 : (0 : Int) ≤ (k : Int) := by omega
      have e1 : (k : Int) < 64 := by omega
      have wr1 : IntKind.i64.wrap ((k : Int) + (b : Int)) = (k : Int) + (b : Int) := IntWalk.i64_in _ (by omega)
      have HSB := Lib.hid (show sB (mkT x n) (k + 1) = (sB (mkT x n) k || decide (mkT x n k ≠ 0)) from rfl)
      unfold f32 at d0
      by_cases h0 : mkT x n k = 0
      · rw [h0, Int.compare_eq_eq.2 rfl] at hO
        have hO1 : (FloatKind.f32.format.order (wd Ieee.single (mkT x n k)) 0 == some .eq) = true := by rw [h0, hO]; rfl
        have hO2 : (FloatKind.f32.format.order (wd Ieee.single (mkT x n k)) 0 != some .eq) = false := by rw [h0, hO]; rfl
        clear hO
        have HZ2 : Hid (∀ i, i < k + 1 → mkT x n i ≠ 0 → i + b < 64) := Lib.hid fun i hi hne => by
          by_cases e : i = k
          · rw [e] at hne; exact absurd h0 hne
          · exact hz.out i (by omega) hne
        have hSB2 : sB (mkT x n) (k + 1) = sB (mkT x n) k := by rw [HSB.out, h0]; simp
        have HSB2 := Lib.hid hSB2
        clear hSB2 HSB h0
        generalize wd Ieee.single (mkT x n k) = v at *
        generalize sB (mkT x n) k = sb at *
        cases sb
        all_goals
          go_wp2
          go_roundw
          case rel => exact ⟨k + 1, by omega, by go_num, by rw [HSB2.out], by have := HB.out; (repeat' (first | (with_reducible exact Below.refl _ _) | (with_reducible assumption) | (with_reducible refine Below.alloc ?_ ?_ _) | (with_reducible refine Below.drew ?_) | (with_reducible refine below_drewN ?_ _) | (with_reducible refine Below.setCell ?_ ?_ _) | (with_reducible refine below_step (by with_reducible assumption) ?_ ?_) | (with_reducible exact Below.size (by with_reducible assumption)) | go_size)), G0.out, HZ2⟩
          case measure => simp [intOf]; omega
      · have hO1 : (FloatKind.f32.format.order (wd Ieee.single (mkT x n k)) 0 == some .eq) = false := by
          rw [hO]
          cases hh : compare (mkT x n k) 0
          · rfl
          · exact absurd (Int.compare_eq_eq.1 hh) h0
          · rfl
        have hO2 : (FloatKind.f32.format.order (wd Ieee.single (mkT x n k)) 0 != some .eq) = true := by
          unfold bne
          rw [hO1]; rfl
        clear hO
        have hSB2 : sB (mkT x n) (k + 1) = true := by rw [HSB.out]; simp [h0]
        have HSB2 := Lib.hid hSB2
        by_cases hge : 64 ≤ k + b
        · have hd : decide ((64 : Int) ≤ (k : Int) + (b : Int)) = true := decide_eq_true (by omega)
          clear hSB2 HSB h0 hge
          generalize wd Ieee.single (mkT x n k) = v at *
          generalize sB (mkT x n) k = sb at *
          go_wp2
          go_ret
          exact ⟨rfl, HB.out⟩
        · have hd : decide ((64 : Int) ≤ (k : Int) + (b : Int)) = false := decide_eq_false (by omega)
          have HZ2 : Hid (∀ i, i < k + 1 → mkT x n i ≠ 0 → i + b < 64) := Lib.hid fun i hi hne => by
            by_cases e : i = k
            · omega
            · exact hz.out i (by omega) hne
          clear hSB2 HSB h0 hge
          generalize wd Ieee.single (mkT x n k) = v at *
          generalize sB (mkT x n) k = sb at *
          cases sb
          all_goals
            go_wp2
            go_roundw
            case rel => exact ⟨k + 1, by omega, by go_num, by rw [HSB2.out], by have := HB.out; (repeat' (first | (with_reducible exact Below.refl _ _) | (with_reducible assumption) | (with_reducible refine Below.alloc ?_ ?_ _) | (with_reducible refine Below.drew ?_) | (with_reducible refine below_drewN ?_ _) | (with_reducible refine Below.setCell ?_ ?_ _) | (with_reducible refine below_step (by with_reducible assumption) ?_ ?_) | (with_reducible exact Below.size (by with_reducible assumption)) | go_size)), G0.out, HZ2⟩
            case measure => simp [intOf]; omega
    · obtain rfl : k = 64 := by omega
      have hzz := HB.out.size
      have HN2 := Lib.hid HN.out
      have hres : sB (mkT x n) 64 = true → ss = (b : Int) := fun h => HS.out h hz.out
      have hre0 : sB (mkT x n) 64 = false → ss = 0 := HN.out
      have HR1 := Lib.hid hres
      have HR0 := Lib.hid hre0
      clear hres hre0 HN HS HN2 hz
      generalize sB (mkT x n) 64 = sb at *
      go_wp2_with (first | (refine wpl_load rfl 26 26 _ bx c (0, 0) _ rfl rfl Try.underlying26 rfl (by rw [hsc.out]; exact infoTrace) G0.out ?_))
      refine (KS.out _).mono ?_
      rintro e w9 ⟨rfl, hw9⟩
      have ca9_0 := block_below0 hw9 G0.out
      have hB9 := below_step hw9 HB.out HB.out.size
      clear hw9
      go_wp2_with (first | (refine wpl_alloc rfl 26 z rfl (HZ.out _) ?_) | (refine wpl_store_new rfl 26 _ _ z t rfl rfl rfl (by rw [hst.out]; exact infoTrace) (by rw [hs0.out, hst.out]) hot.out ?_) | (refine wpl_load rfl 26 26 _ bx c (0, 0) _ rfl rfl Try.underlying26 rfl (by rw [hsc.out]; exact infoTrace) (block_alloc ca9_0) ?_) | (refine wpl_load rfl 26 26 _ w9.heap.size t (0, 0) _ rfl rfl Try.underlying26 rfl (by rw [hst.out]; exact infoTrace) (heap_alloc_last w9 _) ?_))
      refine (KQ.out _).mono ?_
      rintro e w10 ⟨rfl, hw10⟩
      have hz9 := hB9.size
      have hB10 : Below w.heap.size w w10 := below_step hw10 (by (repeat' (first | (with_reducible exact Below.refl _ _) | (with_reducible assumption) | (with_reducible refine Below.alloc ?_ ?_ _) | (with_reducible refine Below.drew ?_) | (with_reducible refine below_drewN ?_ _) | (with_reducible refine Below.setCell ?_ ?_ _) | (with_reducible refine below_step (by with_reducible assumption) ?_ ?_) | (with_reducible exact Below.size (by with_reducible assumption)) | go_size))) (by simp; omega)
      clear hw10
      cases sb
      · have e := HR0.out rfl
        subst e
        go_wp2
        go_ret
        exact ⟨rfl, hB10⟩
      · have e := HR1.out rfl
        subst e
        go_wp2
        go_ret
        exact ⟨rfl, hB10⟩
end Go.Proofs.Ythgnemkfaiejbaa
