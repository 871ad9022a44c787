/-
  ADDED, as the reference has it.
-/
import Derived.Test.YthgnemkfaiejbaaTSumR
import Derived.Test.YthgnemkfaiejbaaTAdded
import Derived.Test.YthgnemkfaiejbaaTOwn
set_option linter.unusedVariables false
set_option linter.unusedSimpArgs false
namespace Go.Proofs.Ythgnemkfaiejbaa
open Go.RowKit

/-- a row whose first are sums already -/
def mixS (x y : Nat → Int) (k : Nat) : Nat → Int := fun i => if i < k then x i + y i else x i
theorem iL_set (x y : Nat → Int) (k : Nat) (v : Int) (h : ∀ i, y i = if i = k then v else x i) (n : Nat) : (iL x n).set k (.int .i64 v) = iL y n := by
  apply List.ext_getElem?
  intro i
  unfold iL
  by_cases c : k = i
  · subst c
    by_cases hk : k < n
    · rw [List.getElem?_set_self (by simpa using hk), List.getElem?_map, List.getElem?_range hk, Option.map_some, h, if_pos rfl]
    · rw [List.set_eq_of_length_le (by simp; omega), List.getElem?_eq_none (by simp; omega), List.getElem?_eq_none (by simp; omega)]
  · rw [List.getElem?_set_ne c, List.getElem?_map, List.getElem?_map]
    by_cases hi : i < n
    · rw [List.getElem?_range hi, Option.map_some, Option.map_some, h, if_neg (fun e => c e.symm)]
    · rw [List.getElem?_eq_none (by simp; omega)]; rfl
theorem mixS_step (x y : Nat → Int) (k n : Nat) : (iL (mixS x y k) n).set k (.int .i64 (x k + y k)) = iL (mixS x y (k + 1)) n := iL_set _ _ _ _ (fun i => by
  unfold mixS
  by_cases e : i = k
  · subst e; rw [if_pos rfl, if_pos (by omega)]
  · rw [if_neg e]
    by_cases c : i < k
    · rw [if_pos c, if_pos (by omega)]
    · rw [if_neg c, if_neg (by omega)]) _
theorem mixS_at (x y : Nat → Int) (k : Nat) : mixS x y k k = x k := by unfold mixS; rw [if_neg (by omega)]
theorem mixS_zero (x y : Nat → Int) (n : Nat) : iL (mixS x y 0) n = iL x n := by
  unfold iL mixS
  simp
theorem iL_get (x : Nat → Int) {k n : Nat} (h : k < n) : (iL x n)[k]? = some (.int .i64 (x k)) := by
  unfold iL
  rw [List.getElem?_map, List.getElem?_range h]; rfl
theorem bsizeT_any (n : Int) (w : World) (h : n.natAbs < 2 ^ 62) :
    Calls Try.prog 116 #[.int .i64 n] w fun e w' => e = .returned (.int .i64 (n.natAbs : Int)) ∧ w = w' := by
  have wr1 : IntKind.i64.wrap (-n) = -n := IntWalk.i64_in _ (by omega)
  go_enter Try.func116, Try.ntmps116
  go_wp2
  go_ret
  exact ⟨ri (by first | omega | (simp only [wr1]; omega)), rfl⟩
theorem own_below {w w' : World} {base : Nat} {t : TypeId} {v : Value} {n : Nat} {xs : List Value} (h : w.ownsRow base t 1 v n xs) (hb : Below w.heap.size w w') : w'.ownsRow base t 1 v n xs := by
  obtain ⟨a, h⟩ := h
  refine ⟨a, ?_⟩
  rcases h with h | ⟨g, cap, cur, e, h1, hg, r⟩
  · exact .inl h
  · exact .inr ⟨g, cap, cur, e, h1, block_below0 hb hg, r⟩
theorem own_slice {w : World} {base : Nat} {t : TypeId} {v : Value} {n : Nat} {xs : List Value} (h : w.ownsRow base t 1 v n xs) (hn : 0 < n) : ∃ g cap, v = .slice (some ⟨g, 0, none⟩) n cap ∧ base ≤ g ∧ g < w.heap.size ∧ n ≤ cap ∧ cap ≤ maxLen := by
  obtain ⟨a, h⟩ := h
  rcases h with ⟨rfl, rfl⟩ | ⟨g, cap, cur, rfl, h1, hg, h2, h3, -⟩
  · simp at a; omega
  · exact ⟨g, cap, rfl, h1, (Array.getElem?_eq_some_iff.1 hg).1, h2, h3⟩
set_option maxRecDepth 100000 in
set_option maxHeartbeats 4000000 in
theorem addedR_any (x y : Nat → Int) (R : Value) (w : World) (hx : Hid (∀ k, k < 64 → (x k).natAbs ≤ 2047)) (hy : Hid (∀ k, k < 64 → (y k).natAbs ≤ 2047))
    (hl : Hid ((∃ k, k < 64 ∧ 2047 < (x k + y k).natAbs) → R = .tuple #[.agg (tC fun _ => 0), .int .i64 8])) (hs : Hid ((∀ k, k < 64 → (x k + y k).natAbs ≤ 2047) → R = .tuple #[.agg (tC (sumT x y)), .int .i64 0])) :
    Calls Try.prog 55 #[.agg (tC x), .agg (tC y)] w fun e w' => e = .returned R ∧ Below w.heap.size w w' := by
  have K1 := Lib.hid (fun W => ints_any x W (Lib.hid fun k hk => by have := hx.out k hk; omega))
  have K2 := Lib.hid (fun W => ints_any y W (Lib.hid fun k hk => by have := hy.out k hk; omega))
  have KT := Lib.hid (fun (u : Value) W h => traceR_any u (mixS x y 64) 64 W h)
  rw [show tC (rz (mixS x y 64) 64) = tC (sumT x y) from tC_congr fun i hi => by unfold rz mixS sumT; rw [if_pos hi, if_pos hi]] at KT
  have hC := Lib.hid (show (Try.prog.info? 26).map (·.size) = some (tC x).size by rw [tC_size]; exact infoTrace)
  have hD := Lib.hid (show (Try.prog.info? 26).map (·.size) = some (tC y).size by rw [tC_size]; exact infoTrace)
  have HZT := Lib.hid zero_trace
  have hs0 := Lib.hid (tC_size fun _ => 0)
  have ho0 := Lib.hid (tC_one fun _ => 0)
  have hs1 := Lib.hid (tC_size (sumT x y))
  have ho1 := Lib.hid (tC_one (sumT x y))
  unfold IntsPost at K1 K2
  generalize tC x = c at *
  generalize tC y = d at *
  generalize tC (sumT x y) = s at *
  generalize (tC fun _ => 0) = z at *
  go_enter Try.func55, Try.ntmps55
  go_wp2_with (refine wpl_alloc rfl 26 z rfl (HZT.out _) ?_)
  refine wp_region_held_drew (S := fun w' => w'.heap[w.heap.size]? = some (.cells (c) 26 (0, 0)) ∧ w'.heap[w.heap.size + 1]? = some (.cells (d) 26 (0, 0)) ∧ w'.heap[w.heap.size + 1 + 1]? = some (.cells (z) 26 (0, 0))) (by kernel_rfl) ?_ (fun hH1 => ?_)
  · (first | assumption | (refine ⟨?_, ?_, ?_⟩ <;> (first | assumption | ((repeat (first | assumption | (refine heap_alloc_at ?_; (first | rfl | (simp only [World.size_alloc, World.size_drew, World.size_setCell, size_drewN]; done))) | refine block_alloc ?_ | refine Buf.alloc ?_ _ | refine Buf.drew ?_ | refine Buf.setCell ?_ (by omega) _ _)); done) | (go_keep; done) | (simp [*, go_sem]; done))))
  refine wpAnyH_pure (i := 0) (v := ?_) rfl (by kernel_rfl) (by kernel_rfl) (by kernel_rfl) (fun _ _ _ h => h) (by rfl) (by assumption) ?_ ?_
  rotate_left
  · (intro w hSw; (try dsimp only at hSw); refine exec_load_arr 26 (p := .tmp 2) ?_ ?_ Try.underlying26 (hC.out) (by repeat (first | exact hSw | exact hSw.1 | replace hSw := hSw.2)) <;> rfl)
  simp only [Act.put, List.getElem_toArray, List.getElem_cons_succ, List.getElem_cons_zero, List.setIfInBounds_toArray, List.set_cons_zero, List.set_cons_succ]
  refine wpAnyH_pure (i := 2) (v := ?_) rfl (by kernel_rfl) (by kernel_rfl) (by kernel_rfl) (fun _ _ _ h => h) (by rfl) (by assumption) ?_ ?_
  rotate_left
  · (intro w hSw; (try dsimp only at hSw); refine exec_load_arr 26 (p := .tmp 3) ?_ ?_ Try.underlying26 (hD.out) (by repeat (first | exact hSw | exact hSw.1 | replace hSw := hSw.2)) <;> rfl)
  simp only [Act.put, List.getElem_toArray, List.getElem_cons_succ, List.getElem_cons_zero, List.setIfInBounds_toArray, List.set_cons_zero, List.set_cons_succ]
  refine wpAnyH_ready (rs := [1]) (by kernel_rfl) (by simp) ?_
  refine AllReadyH.cons rfl (fun Kq hKq => ?_) AllReadyH.nil
  go_simp
  refine (K1.out _).mono ?_
  rintro e w1 ⟨va, rfl, hoa, hw1⟩
  have ca1 := block_below0 hw1 hH1.1
  have cb1 := block_below0 hw1 hH1.2.1
  have cr1 := block_below0 hw1 hH1.2.2
  have hB1 : Below w.heap.size w w1 := by (repeat' (first | (with_reducible exact Below.refl _ _) | (with_reducible assumption) | (with_reducible refine Below.alloc ?_ ?_ _) | (with_reducible refine Below.drew ?_) | (with_reducible refine below_drewN ?_ _) | (with_reducible refine Below.setCell ?_ ?_ _) | (with_reducible refine below_step (by with_reducible assumption) ?_ ?_) | (with_reducible exact Below.size (by with_reducible assumption)) | go_size))
  have hz1 := hw1.size
  (try simp only [World.size_alloc, World.size_drew] at hz1)
  have HOA := Lib.hid (World.ownsRow.mono hoa (show w.heap.size + 3 ≤ _ by simp))
  clear hw1 hoa
  refine hKq.out _ _ ?_ (fun hH2 => ?_)
  · (first | assumption | (refine ⟨?_, ?_, ?_⟩ <;> (first | assumption | ((repeat (first | assumption | (refine heap_alloc_at ?_; (first | rfl | (simp only [World.size_alloc, World.size_drew, World.size_setCell, size_drewN]; done))) | refine block_alloc ?_ | refine Buf.alloc ?_ _ | refine Buf.drew ?_ | refine Buf.setCell ?_ (by omega) _ _)); done) | (go_keep; done) | (simp [*, go_sem]; done))))
  clear hKq Kq
  clear hH1
  refine wpAnyH_ready (rs := [3]) (by kernel_rfl) (by simp) ?_
  refine AllReadyH.cons rfl (fun Kq hKq => ?_) AllReadyH.nil
  go_simp
  refine (K2.out _).mono ?_
  rintro e w2 ⟨vb, rfl, hob, hw2⟩
  have ca2 := block_below0 hw2 ca1
  have cb2 := block_below0 hw2 cb1
  have cr2 := block_below0 hw2 cr1
  have HOA2 := Lib.hid (own_below HOA.out hw2)
  have HOB2 := Lib.hid hob
  have hB2 := Lib.hid (below_step hw2 hB1 hB1.size)
  have hz2 := hw2.size
  have HOA1 := HOA
  clear HOA hw2 hob hB1
  refine hKq.out _ _ ?_ (fun hH3 => ?_)
  · (first | assumption | (refine ⟨?_, ?_, ?_⟩ <;> (first | assumption | ((repeat (first | assumption | (refine heap_alloc_at ?_; (first | rfl | (simp only [World.size_alloc, World.size_drew, World.size_setCell, size_drewN]; done))) | refine block_alloc ?_ | refine Buf.alloc ?_ _ | refine Buf.drew ?_ | refine Buf.setCell ?_ (by omega) _ _)); done) | (go_keep; done) | (simp [*, go_sem]; done))))
  clear hKq Kq
  clear hH2
  refine wpAnyH_pure (i := 4) (v := ?_) rfl (by kernel_rfl) (by kernel_rfl) (by kernel_rfl) (fun _ _ _ h => h) (by rfl) (by assumption) ?_ ?_
  rotate_left
  · (intro w hSw; (try dsimp only at hSw); go_simp; (try with_reducible rfl))
  simp only [Act.put, List.getElem_toArray, List.getElem_cons_succ, List.getElem_cons_zero, List.setIfInBounds_toArray, List.set_cons_zero, List.set_cons_succ]
  refine wpAnyH_pure (i := 5) (v := ?_) rfl (by kernel_rfl) (by kernel_rfl) (by kernel_rfl) (fun _ _ _ h => h) (by rfl) (by assumption) ?_ ?_
  rotate_left
  · (intro w hSw; (try dsimp only at hSw); go_simp; (try with_reducible rfl))
  simp only [Act.put, List.getElem_toArray, List.getElem_cons_succ, List.getElem_cons_zero, List.setIfInBounds_toArray, List.set_cons_zero, List.set_cons_succ]
  refine wpAnyH_done (by kernel_rfl) ?_ _
  obtain ⟨g1, e1, rfl, hg1, hg1s, he1, he1m⟩ := own_slice HOA1.out (by decide)
  obtain ⟨g2, e2, rfl, hg2, hg2s, he2, he2m⟩ := own_slice HOB2.out (by decide)
  have hne : g2 ≠ g1 := by omega
  have hy2 : ∀ i, i < 64 → w2.cell? ⟨g2, i, none⟩ = some (.int .i64 (y i)) := fun i hi => (HOB2.out.cellAt i (by omega)).trans (iL_get y hi)
  have HY2 := Lib.hid hy2
  have HOA3 := Lib.hid ((mixS_zero x y 64).symm ▸ HOA2.out)
  clear hy2 HOA1 HOA2 HOB2 ca2 cb2 hC hD K1 K2
  unfold maxLen at he1m he2m
  go_wp2
  go_loopw [8] (fun i wr => ∃ k : Nat, k ≤ 64 ∧ i = .int .i64 (k : Int) ∧ Hid (wr.ownsRow (w.heap.size + 3) 3 1 (.slice (some ⟨g1, 0, none⟩) 64 e1) 64 (iL (mixS x y k) 64)) ∧ Hid (∀ i, i < 64 → wr.cell? ⟨g2, i, none⟩ = some (.int .i64 (y i))) ∧ Hid (Below w.heap.size w wr) ∧ wr.heap[w.heap.size + 1 + 1]? = some (.cells z 26 (0, 0)) ∧ Hid (∀ i, i < k → (x i + y i).natAbs ≤ 2047)) (fun i _ => 64 - (intOf i).toNat)
  case atStart => exact ⟨0, Nat.zero_le _, rfl, HOA3, HY2, hB2, cr2, Lib.hid fun i hi => absurd hi (Nat.not_lt_zero _)⟩
  case round =>
    clear HOA3 HY2 hB2 cr2
    obtain ⟨k, hk, rfl, HO, HY, HB, hr, hall⟩ := hrel
    have HR := Lib.hid hr
    clear hr
    by_cases hlt : k < 64
    · have e0 : (0 : Int) ≤ (k : Int) := by omega
      have e1' : (k : Int) < 64 := by omega
      have d0 := (HO.out.cellAt k (by omega)).trans ((iL_get (mixS x y k) hlt).trans (by rw [mixS_at]))
      have f0 := HO.out.frozenAt k
      have d1 := HY.out k hlt
      have hbx := hx.out k hlt
      have hby := hy.out k hlt
      have wr1 : IntKind.i64.wrap (x k + y k) = x k + y k := IntWalk.i64_in _ (by omega)
      have HS := Lib.hid (mixS_step x y k 64)
      have HA := Lib.hid (fun (h : (x k + y k).natAbs ≤ 2047) i (hi : i < k + 1) => show (x i + y i).natAbs ≤ 2047 by
        by_cases e : i = k
        · rw [e]; exact h
        · exact hall.out i (by omega))
      have HL := Lib.hid (fun (h : ¬ (x k + y k).natAbs ≤ 2047) => hl.out ⟨k, hlt, by omega⟩)
      have HG := Lib.hid (show mixS x y (k + 1) k = x k + y k by unfold mixS; rw [if_pos (by omega)])
      generalize x k = xk at *
      generalize y k = yk at *
      go_wp2
      refine wp_region_last 12 (fun w' => w'.cell? ⟨g1, k, none⟩ = some (.int .i64 (xk)) ∧ w'.cell? ⟨g2, k, none⟩ = some (.int .i64 (yk)) ∧ w'.frozen? ⟨g1, k, none⟩ = false) (by kernel_rfl) ?_ (fun hH4 => ?_)
      · (first | assumption | (refine ⟨?_, ?_, ?_⟩ <;> assumption) | (go_keep; done) | (simp [*, go_sem]; done))
      refine wpAnyL_pure (i := 0) (v := ?_) rfl (by kernel_rfl) (by kernel_rfl) (by kernel_rfl) (by kernel_rfl) (fun _ _ _ h => h) (by rfl) (by assumption) ?_ ?_
      rotate_left
      · (intro w hSw; (try dsimp only at hSw); go_simp; (try with_reducible rfl))
      simp only [Act.put, List.getElem_toArray, List.getElem_cons_succ, List.getElem_cons_zero, List.setIfInBounds_toArray, List.set_cons_zero, List.set_cons_succ]
      refine wpAnyL_pure (i := 1) (v := ?_) rfl (by kernel_rfl) (by kernel_rfl) (by kernel_rfl) (by kernel_rfl) (fun _ _ _ h => h) (by rfl) (by assumption) ?_ ?_
      rotate_left
      · (intro w hSw; (try dsimp only at hSw); go_simp; (try with_reducible rfl))
      simp only [Act.put, List.getElem_toArray, List.getElem_cons_succ, List.getElem_cons_zero, List.setIfInBounds_toArray, List.set_cons_zero, List.set_cons_succ]
      refine wpAnyL_pure (i := 2) (v := ?_) rfl (by kernel_rfl) (by kernel_rfl) (by kernel_rfl) (by kernel_rfl) (fun _ _ _ h => h) (by rfl) (by assumption) ?_ ?_
      rotate_left
      · (intro w hSw; (try dsimp only at hSw); go_simp; (try with_reducible rfl))
      simp only [Act.put, List.getElem_toArray, List.getElem_cons_succ, List.getElem_cons_zero, List.setIfInBounds_toArray, List.set_cons_zero, List.set_cons_succ]
      refine wpAnyL_pure (i := 3) (v := ?_) rfl (by kernel_rfl) (by kernel_rfl) (by kernel_rfl) (by kernel_rfl) (fun _ _ _ h => h) (by rfl) (by assumption) ?_ ?_
      rotate_left
      · (intro w hSw; (try dsimp only at hSw); go_simp; (try with_reducible rfl))
      simp only [Act.put, List.getElem_toArray, List.getElem_cons_succ, List.getElem_cons_zero, List.setIfInBounds_toArray, List.set_cons_zero, List.set_cons_succ]
      refine wpAnyL_pure (i := 4) (v := ?_) rfl (by kernel_rfl) (by kernel_rfl) (by kernel_rfl) (by kernel_rfl) (fun _ _ _ h => h) (by rfl) (by assumption) ?_ ?_
      rotate_left
      · (intro w hSw; (try dsimp only at hSw); go_simp; (try with_reducible rfl))
      simp only [Act.put, List.getElem_toArray, List.getElem_cons_succ, List.getElem_cons_zero, List.setIfInBounds_toArray, List.set_cons_zero, List.set_cons_succ]
      refine wpAnyL_pure (i := 5) (v := ?_) rfl (by kernel_rfl) (by kernel_rfl) (by kernel_rfl) (by kernel_rfl) (fun _ _ _ h => h) (by rfl) (by assumption) ?_ ?_
      rotate_left
      · (intro w hSw; (try dsimp only at hSw); go_simp; (try with_reducible rfl))
      simp only [Act.put, List.getElem_toArray, List.getElem_cons_succ, List.getElem_cons_zero, List.setIfInBounds_toArray, List.set_cons_zero, List.set_cons_succ]
      refine wpAnyL_pure (i := 6) (v := ?_) rfl (by kernel_rfl) (by kernel_rfl) (by kernel_rfl) (by kernel_rfl) (fun _ _ _ h => h) (by rfl) (by assumption) ?_ ?_
      rotate_left
      · (intro w hSw; (try dsimp only at hSw); go_simp; (try with_reducible rfl))
      simp only [Act.put, List.getElem_toArray, List.getElem_cons_succ, List.getElem_cons_zero, List.setIfInBounds_toArray, List.set_cons_zero, List.set_cons_succ]
      refine wpAnyL_pure (i := 7) (v := ?_) rfl (by kernel_rfl) (by kernel_rfl) (by kernel_rfl) (by kernel_rfl) (fun _ _ _ h => h) (by rfl) (by assumption) ?_ ?_
      rotate_left
      · (intro w hSw; (try dsimp only at hSw); go_simp; (try with_reducible rfl))
      simp only [Act.put, List.getElem_toArray, List.getElem_cons_succ, List.getElem_cons_zero, List.setIfInBounds_toArray, List.set_cons_zero, List.set_cons_succ]
      refine wpAnyL_pure (i := 8) (v := ?_) rfl (by kernel_rfl) (by kernel_rfl) (by kernel_rfl) (by kernel_rfl) (fun _ _ _ h => h) (by rfl) (by assumption) ?_ ?_
      rotate_left
      · (intro w hSw; (try dsimp only at hSw); go_simp; (try with_reducible rfl))
      simp only [Act.put, List.getElem_toArray, List.getElem_cons_succ, List.getElem_cons_zero, List.setIfInBounds_toArray, List.set_cons_zero, List.set_cons_succ]
      refine wpAnyL_pure (i := 9) (v := ?_) rfl (by kernel_rfl) (by kernel_rfl) (by kernel_rfl) (by kernel_rfl) (fun _ _ _ h => h) (by rfl) (by assumption) ?_ ?_
      rotate_left
      · (intro w hSw; (try dsimp only at hSw); go_simp; (try with_reducible rfl))
      simp only [Act.put, List.getElem_toArray, List.getElem_cons_succ, List.getElem_cons_zero, List.setIfInBounds_toArray, List.set_cons_zero, List.set_cons_succ]
      refine wpAnyL_pure (i := 10) (v := ?_) rfl (by kernel_rfl) (by kernel_rfl) (by kernel_rfl) (by kernel_rfl) (fun _ _ _ h => h) (by rfl) (by assumption) ?_ ?_
      rotate_left
      · (intro w hSw; (try dsimp only at hSw); go_simp; (try with_reducible rfl))
      simp only [Act.put, List.getElem_toArray, List.getElem_cons_succ, List.getElem_cons_zero, List.setIfInBounds_toArray, List.set_cons_zero, List.set_cons_succ]
      refine wpAnyL_pure (i := 11) (v := ?_) rfl (by kernel_rfl) (by kernel_rfl) (by kernel_rfl) (by kernel_rfl) (fun _ _ _ h => h) (by rfl) (by assumption) ?_ ?_
      rotate_left
      · (intro w hSw; (try dsimp only at hSw); go_simp; (try with_reducible rfl))
      simp only [Act.put, List.getElem_toArray, List.getElem_cons_succ, List.getElem_cons_zero, List.setIfInBounds_toArray, List.set_cons_zero, List.set_cons_succ]
      refine wpAnyL_store (w' := wr.drew.setCell ⟨g1, k, none⟩ (.int .i64 (xk + yk))) rfl (by kernel_rfl) (by kernel_rfl) (by rfl) rfl ?_ ?_
      · (try dsimp only at hH4); go_simp
      have hWo := (World.ownsRow.stored (HO.out.drew) k (.int .i64 (xk + yk))).1
      rw [HS.out] at hWo
      have hWy : ∀ i, i < 64 → (wr.drew.setCell ⟨g1, k, none⟩ (.int .i64 (xk + yk))).cell? ⟨g2, i, none⟩ = some (.int .i64 (y i)) := fun i hi => (World.cell?_setCell_far _ _ _ _ (by dsimp only; omega)).trans (HY.out i hi)
      have hWr : (wr.drew.setCell ⟨g1, k, none⟩ (.int .i64 (xk + yk))).heap[w.heap.size + 1 + 1]? = some (.cells z 26 (0, 0)) := by rw [block_setCell_other (by omega)]; exact HR.out
      have hWB : Below w.heap.size w (wr.drew.setCell ⟨g1, k, none⟩ (.int .i64 (xk + yk))) := by have := HB.out; (repeat' (first | (with_reducible exact Below.refl _ _) | (with_reducible assumption) | (with_reducible refine Below.alloc ?_ ?_ _) | (with_reducible refine Below.drew ?_) | (with_reducible refine below_drewN ?_ _) | (with_reducible refine Below.setCell ?_ ?_ _) | (with_reducible refine below_step (by with_reducible assumption) ?_ ?_) | (with_reducible exact Below.size (by with_reducible assumption)) | go_size))
      have hWg := hWo.cellAt k (by omega)
      rw [iL_get _ hlt, HG.out] at hWg
      refine abs_last (fun w5 hw5 => ?_)
      have HO5 := Lib.hid (hw5.symm ▸ hWo)
      have HY5 : Hid (∀ i, i < 64 → w5.cell? ⟨g2, i, none⟩ = some (.int .i64 (y i))) := Lib.hid (by rw [hw5]; exact hWy)
      have hr5 : w5.heap[w.heap.size + 1 + 1]? = some (.cells z 26 (0, 0)) := by rw [hw5]; exact hWr
      have HB5 : Hid (Below w.heap.size w w5) := Lib.hid (by rw [hw5]; exact hWB)
      have d5 : w5.cell? ⟨g1, k, none⟩ = some (.int .i64 (xk + yk)) := by rw [hw5]; exact hWg
      have KS := Lib.hid (fun W => bsizeT_any (xk + yk) W (by omega))
      clear hWo hWy hWr hWB hWg hw5 d0 f0 d1 HO HY HB HR HS HG wr1 hbx hby
      generalize xk + yk = v at *
      generalize v.natAbs = S at *
      by_cases hgt : S ≤ 2047
      · have hd : decide ((2047 : Int) < (S : Int)) = false := decide_eq_false (by omega)
        have HA2 := Lib.hid (HA.out hgt)
        have HR5 := Lib.hid hr5
        clear hgt HA HL hr5
        go_wp2_with fail
        refine (KS.out _).mono ?_
        rintro e w' ⟨rfl, rfl⟩
        clear d5
        go_wp2
        go_roundw
        case rel => exact ⟨k + 1, by omega, by go_num, HO5, HY5, HB5, HR5.out, HA2⟩
        case measure => simp [intOf]; omega
      · have hd : decide ((2047 : Int) < (S : Int)) = true := decide_eq_true (by omega)
        have hRR := HL.out hgt
        have HRR := Lib.hid hRR
        clear hgt HA HL hRR HO5 HY5 KT
        go_wp2_with fail
        refine (KS.out _).mono ?_
        rintro e w' ⟨rfl, rfl⟩
        clear d5
        go_wp2_with (first | (refine wpl_build0 rfl 26 z rfl (HZT.out _) Try.underlying26 (sz := 1) (by kernel_rfl) ?_) | (refine wpl_store rfl 26 26 _ _ (w.heap.size + 1 + 1) z z rfl rfl rfl (by rw [hs0.out]; exact infoTrace) rfl ho0.out hr5 ?_))
        refine bodyPost_ret (v := .tuple #[.agg z, .int .i64 8]) ?_ rfl ⟨by rw [HRR.out], below_setRow HB5.out z (by omega)⟩
        rw [results_cell_tmp (p := 4) (u := 5) (ty := 26) rfl]
        have hl : (loadVar 26 ⟨w.heap.size + 1 + 1, 0, none⟩).run Try.prog (w5.setRow (w.heap.size + 1 + 1) z) = .ok (.agg z) _ := run_loadVar_row _ _ 26 26 z (0, 0) _ (block_setRow hr5) Try.underlying26 rfl (by rw [hs0.out]; exact infoTrace)
        change ((loadVar 26 ⟨w.heap.size + 1 + 1, 0, none⟩).run Try.prog _).andThen _ = _
        rw [hl]
        rfl
    · obtain rfl : k = 64 := by omega
      have HIR := Lib.hid (Lib.hid (irow_own HO.out))
      have HRR := Lib.hid (hs.out hall.out)
      clear HO HY hall hl hs
      go_wp2_with fail
      refine (KT.out _ _ HIR.out).mono ?_
      rintro e w6 ⟨rfl, hw6⟩
      have hg : w6.heap[w.heap.size + 1 + 1]? = some (.cells z 26 (0, 0)) := block_below0 hw6 HR.out
      have HB3 := Lib.hid (below_step hw6 HB.out HB.out.size)
      clear hw6 HR HB
      go_wp2_with (refine wpl_store rfl 26 26 _ _ (w.heap.size + 1 + 1) z s rfl rfl rfl (by rw [hs1.out]; exact infoTrace) (by rw [hs1.out, hs0.out]) ho1.out hg ?_)
      refine bodyPost_ret (v := .tuple #[.agg s, .int .i64 0]) ?_ rfl ⟨by rw [HRR.out], below_setRow HB3.out s (by omega)⟩
      rw [results_cell_tmp (p := 4) (u := 5) (ty := 26) rfl]
      have hl : (loadVar 26 ⟨w.heap.size + 1 + 1, 0, none⟩).run Try.prog (w6.setRow (w.heap.size + 1 + 1) s) = .ok (.agg s) _ := run_loadVar_row _ _ 26 26 s (0, 0) _ (block_setRow hg) Try.underlying26 rfl (by rw [hs1.out]; exact infoTrace)
      change ((loadVar 26 ⟨w.heap.size + 1 + 1, 0, none⟩).run Try.prog _).andThen _ = _
      rw [hl]
      rfl
end Go.Proofs.Ythgnemkfaiejbaa
