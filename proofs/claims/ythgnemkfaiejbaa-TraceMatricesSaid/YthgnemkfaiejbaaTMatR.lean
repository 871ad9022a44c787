/-
  MATRICES, as the reference tells them: errors of pairs, TraceOf.
-/
import Derived.Test.YthgnemkfaiejbaaTMatT
set_option linter.unusedVariables false
set_option linter.unusedSimpArgs false
namespace Go.Proofs.Ythgnemkfaiejbaa
open Go.RowKit

theorem own_bel {W W' : World} {base : Nat} {e : TypeId} {size n : Nat} {v : Value} {xs : List Value} (h : W.ownsRow base e size v n xs) (hB : Below W.heap.size W W') : W'.ownsRow base e size v n xs := by
  obtain ⟨h1, h2⟩ := h
  refine ⟨h1, ?_⟩
  rcases h2 with h2 | ⟨g, cap, cur, a, b, c, d⟩
  · exact .inl h2
  · exact .inr ⟨g, cap, cur, a, b, (hB.block g (Array.getElem?_eq_some_iff.1 c).1).trans c, d⟩
theorem wrap_one {E : Int} (hE : 1 ≤ E ∧ E ≤ 16) : wrap64 (E - 1) = E - 1 := IntWalk.wrap64_in _ (by omega)
theorem pE_gen (E a b : Int) : pE a b E = if inB a 0 (wrap64 (E - 1)) = true ∧ inB b 0 (wrap64 (E - 1)) = true then 0 else 6 := by
  unfold pE lE
  cases inB a 0 (wrap64 (E - 1)) <;> cases inB b 0 (wrap64 (E - 1)) <;> rfl
theorem pE_ok {E a b : Int} (hE : 1 ≤ E ∧ E ≤ 16) : pE a b E = if inB a 0 (E - 1) = true ∧ inB b 0 (E - 1) = true then 0 else 6 := by
  rw [pE_gen, wrap_one hE]
theorem pE_in {E a b : Int} (hE : 1 ≤ E ∧ E ≤ 16) (h : pE a b E = 0) : (0 ≤ a ∧ a < E) ∧ 0 ≤ b ∧ b < E := by
  rw [pE_ok hE] at h
  by_cases c : inB a 0 (E - 1) = true ∧ inB b 0 (E - 1) = true
  · have h1 := c.1
    have h2 := c.2
    unfold inB at h1 h2
    simp only [decide_eq_true_eq] at h1 h2
    omega
  · rw [if_neg c] at h; simp at h
set_option maxRecDepth 100000 in
set_option maxHeartbeats 1000000 in
theorem pairErr_any (E a b : Int) (v : Value) (w : World) :
    Calls Try.prog 30 #[.agg #[.int .i64 E, v], .agg #[.int .i64 a, .int .i64 b]] w fun e w' => e = .returned (.int .i64 (pE a b E)) ∧ Below w.heap.size w w' := by
  rw [pE_gen]
  cases h1 : inB a 0 (wrap64 (E - 1)) with
  | false =>
    rw [if_neg (by simp)]
    go_enter Try.func30, Try.ntmps30
    go_wp2_with (go_at_call 42; refine (bwithin_any _ _ _ _).mono ?_; rintro e w' ⟨rfl, rfl⟩)
    go_ret
    exact ⟨rfl, by (repeat' (first | (with_reducible exact Below.refl _ _) | (with_reducible assumption) | (with_reducible refine Below.alloc ?_ ?_ _) | (with_reducible refine Below.drew ?_) | (with_reducible refine below_drewN ?_ _) | (with_reducible refine Below.setCell ?_ ?_ _) | (with_reducible refine below_step (by with_reducible assumption) ?_ ?_) | (with_reducible exact Below.size (by with_reducible assumption)) | go_size))⟩
  | true =>
    cases h2 : inB b 0 (wrap64 (E - 1)) with
    | false =>
      rw [if_neg (by simp)]
      go_enter Try.func30, Try.ntmps30
      go_wp2_with (go_at_call 42; refine (bwithin_any _ _ _ _).mono ?_; rintro e w' ⟨rfl, rfl⟩)
      go_ret
      exact ⟨rfl, by (repeat' (first | (with_reducible exact Below.refl _ _) | (with_reducible assumption) | (with_reducible refine Below.alloc ?_ ?_ _) | (with_reducible refine Below.drew ?_) | (with_reducible refine below_drewN ?_ _) | (with_reducible refine Below.setCell ?_ ?_ _) | (with_reducible refine below_step (by with_reducible assumption) ?_ ?_) | (with_reducible exact Below.size (by with_reducible assumption)) | go_size))⟩
    | true =>
      rw [if_pos (by simp)]
      go_enter Try.func30, Try.ntmps30
      go_wp2_with (go_at_call 42; refine (bwithin_any _ _ _ _).mono ?_; rintro e w' ⟨rfl, rfl⟩)
      go_ret
      exact ⟨rfl, by (repeat' (first | (with_reducible exact Below.refl _ _) | (with_reducible assumption) | (with_reducible refine Below.alloc ?_ ?_ _) | (with_reducible refine Below.drew ?_) | (with_reducible refine below_drewN ?_ _) | (with_reducible refine Below.setCell ?_ ?_ _) | (with_reducible refine below_step (by with_reducible assumption) ?_ ?_) | (with_reducible exact Below.size (by with_reducible assumption)) | go_size))⟩
set_option maxRecDepth 100000 in
set_option maxHeartbeats 1000000 in
theorem atR_any (E a b : Int) (N : Nat) (v : Value) (w : World) (hE : 1 ≤ E ∧ E ≤ 16) (ha : 0 ≤ a ∧ a < E) (hb : 0 ≤ b ∧ b < E) (hN : (N : Int) = E * E * 64) :
    Calls Try.prog 104 #[.agg #[.int .i64 E, v], .int .i64 a, .int .i64 b] w fun e w' => e = .returned (.int .i64 (frm a b E : Int)) ∧ Below w.heap.size w w' := by
  obtain ⟨f1, f2, f3, f4, f5⟩ := frm_bd hE ha hb hN
  have wr1 : IntKind.i64.wrap (a * E) = a * E := IntWalk.i64_in _ (by omega)
  have wr2 : IntKind.i64.wrap (a * E + b) = a * E + b := IntWalk.i64_in _ (by omega)
  have wr3 : IntKind.i64.wrap ((a * E + b) * 64) = (frm a b E : Int) := by rw [f1]; exact IntWalk.i64_in _ (by omega)
  clear hN hE ha hb f1
  generalize frm a b E = F at *
  go_enter Try.func104, Try.ntmps104
  go_wp2
  go_ret
  exact ⟨rfl, by (repeat' (first | (with_reducible exact Below.refl _ _) | (with_reducible assumption) | (with_reducible refine Below.alloc ?_ ?_ _) | (with_reducible refine Below.drew ?_) | (with_reducible refine below_drewN ?_ _) | (with_reducible refine Below.setCell ?_ ?_ _) | (with_reducible refine below_step (by with_reducible assumption) ?_ ?_) | (with_reducible exact Below.size (by with_reducible assumption)) | go_size))⟩
theorem iL_congr {x y : Nat → Int} {n : Nat} (h : ∀ i, i < n → x i = y i) : iL x n = iL y n := by
  unfold iL
  apply List.map_congr_left
  intro i hi
  rw [h i (List.mem_range.1 hi)]
set_option maxRecDepth 100000 in
set_option maxHeartbeats 3000000 in
theorem traceOfR_any (E a b : Int) (u : Nat → Nat) (g N cap : Nat) (w : World) (hB : Hid (Buf w g u N cap)) (hE : 1 ≤ E ∧ E ≤ 16) (ha : 0 ≤ a ∧ a < E) (hb : 0 ≤ b ∧ b < E) (hN2 : (N : Int) = E * E * 64) (hx : Hid (∀ i, i < N → eS (u i) = 0)) :
    Calls Try.prog 32 #[.agg #[.int .i64 E, .slice (some ⟨g, 0, none⟩) N cap], .agg #[.int .i64 a, .int .i64 b]] w fun e w' => e = .returned (.agg (tC (atX u (frm a b E)))) ∧ Below w.heap.size w w' := by
  have hfb := frm_bd hE ha hb hN2
  have KA := Lib.hid (fun W => atR_any E a b N (.slice (some ⟨g, 0, none⟩) N cap) W hE ha hb hN2)
  have KT := Lib.hid (fun (v : Value) W h => traceR_any v (atX u (frm a b E)) 64 W h)
  rw [show tC (rz (atX u (frm a b E)) 64) = tC (atX u (frm a b E)) from tC_congr fun i hi => by unfold rz; rw [if_pos hi]] at KT
  have hbd := hB.out.1
  unfold maxLen at hbd
  have hgl := hB.out.2.1
  obtain ⟨-, hf2, -, -, hf5⟩ := hfb
  clear hE ha hb hN2
  generalize frm a b E = F at *
  have HCE := Lib.hid (fun k (hk : k < 64) => hB.out.2.2.2 (F + k) (by omega))
  have HEZ := Lib.hid (fun k (hk : k < 64) => hx.out (F + k) (by omega))
  have HU := Lib.hid (fun k => iL_succ (atX u F) k)
  have HAT := Lib.hid (fun k => show atX u F k = vS (u (F + k)) from rfl)
  have hs0 := Lib.hid (tC_size fun _ => 0)
  have hsc := Lib.hid (tC_size (atX u F))
  have hoc := Lib.hid (tC_one (atX u F))
  have HZ := Lib.hid zero_trace
  obtain ⟨i0, hi, hz0, hz1, hz2⟩ := info_parts1 infoInt
  have HI := Lib.hid hi
  have HZ0 := Lib.hid hz0
  have HZ1 := Lib.hid hz1
  have HZ2 := Lib.hid hz2
  clear hi hz0 hz1 hz2 hB hx
  generalize hcc : tC (atX u F) = c at *
  have HCC := Lib.hid hcc
  clear hcc
  generalize (tC fun _ => 0) = z at *
  go_enter Try.func32, Try.ntmps32
  go_wp2_with (refine wpl_alloc rfl 26 z rfl (HZ.out _) ?_)
  first | refine abs_calls (fun w2 hw2 => ?_) | refine abs_last (fun w2 hw2 => ?_)
  have hw20 : Below w.heap.size w w2 := by rw [hw2]; (repeat' (first | (with_reducible exact Below.refl _ _) | (with_reducible assumption) | (with_reducible refine Below.alloc ?_ ?_ _) | (with_reducible refine Below.drew ?_) | (with_reducible refine below_drewN ?_ _) | (with_reducible refine Below.setCell ?_ ?_ _) | (with_reducible refine below_step (by with_reducible assumption) ?_ ?_) | (with_reducible exact Below.size (by with_reducible assumption)) | go_size))
  have hzz2 := hw20.size
  have cm2_0 : w2.cell? ⟨w.heap.size, 0, none⟩ = some (.int .i64 (E)) := by (first | (rw [hw2]; assumption) | (simp [go_sem, *]; done))
  have cm2_1 : w2.cell? ⟨w.heap.size, 1, none⟩ = some (.slice (some ⟨g, 0, none⟩) N cap) := by (first | (rw [hw2]; assumption) | (simp [go_sem, *]; done))
  have cp2_0 : w2.cell? ⟨w.heap.size + 1, 0, none⟩ = some (.int .i64 (a)) := by (first | (rw [hw2]; assumption) | (simp [go_sem, *]; done))
  have cp2_1 : w2.cell? ⟨w.heap.size + 1, 1, none⟩ = some (.int .i64 (b)) := by (first | (rw [hw2]; assumption) | (simp [go_sem, *]; done))
  have crt2_0 : w2.heap[w.heap.size + 1 + 1]? = some (.cells (z) 26 (0, 0)) := by rw [hw2]; (repeat (first | assumption | (refine heap_alloc_at ?_; (first | rfl | (simp only [World.size_alloc, World.size_drew, World.size_setCell, size_drewN]; done))) | refine block_alloc ?_))
  have hz20 : w.heap.size < w2.heap.size := by (first | (rw [hw2]; simp; omega) | (rw [hw2]; simp; done) | (rw [hw2]; omega))
  have hz21 : w.heap.size + 1 < w2.heap.size := by (first | (rw [hw2]; simp; omega) | (rw [hw2]; simp; done) | (rw [hw2]; omega))
  have hz22 : w.heap.size + 1 + 1 < w2.heap.size := by (first | (rw [hw2]; simp; omega) | (rw [hw2]; simp; done) | (rw [hw2]; omega))
  have hs2 : w2.heap.size = w.heap.size + 1 + 1 + 1 := by rw [hw2]; first | assumption | ((repeat' (first | (with_reducible exact Below.refl _ _) | (with_reducible assumption) | (with_reducible refine Below.alloc ?_ ?_ _) | (with_reducible refine Below.drew ?_) | (with_reducible refine below_drewN ?_ _) | (with_reducible refine Below.setCell ?_ ?_ _) | (with_reducible refine below_step (by with_reducible assumption) ?_ ?_) | (with_reducible exact Below.size (by with_reducible assumption)) | go_size)))
  clear hw2
  go_loopw [5, 6] (fun v i wr => ∃ k : Nat, k ≤ 64 ∧ i = .int .i64 (k : Int) ∧ wr.ownsRow w2.heap.size 3 1 v k (iL (atX u F) k) ∧ Below w2.heap.size w2 wr) (fun _ i _ => 64 - (intOf i).toNat)
  case atStart => exact ⟨0, Nat.zero_le _, rfl, World.ownsRow_nil _ _ _ _, Below.refl _ _⟩
  case round =>
    obtain ⟨k, hk, rfl, hown, hB2⟩ := hrel
    have hzr := hB2.size
    have cmr_0 : wr.cell? ⟨w.heap.size, 0, none⟩ = some (.int .i64 (E)) := ((bcell (hB2)).1 _ _ (by omega)).trans cm2_0
    have cmr_1 : wr.cell? ⟨w.heap.size, 1, none⟩ = some (.slice (some ⟨g, 0, none⟩) N cap) := ((bcell (hB2)).1 _ _ (by omega)).trans cm2_1
    have cpr_0 : wr.cell? ⟨w.heap.size + 1, 0, none⟩ = some (.int .i64 (a)) := ((bcell (hB2)).1 _ _ (by omega)).trans cp2_0
    have cpr_1 : wr.cell? ⟨w.heap.size + 1, 1, none⟩ = some (.int .i64 (b)) := ((bcell (hB2)).1 _ _ (by omega)).trans cp2_1
    have crtr_0 : wr.heap[w.heap.size + 1 + 1]? = some (.cells (z) 26 (0, 0)) := block_below0 (hB2) crt2_0
    have HO := Lib.hid hown
    have HB := Lib.hid hB2
    have HW := Lib.hid hw20
    clear hown hB2
    by_cases hlt : k < 64
    · have HL := Lib.hid (HU.out k)
      have d0 := (HB.out.cell (p := ⟨g, F + k, none⟩) (by exact Nat.lt_of_lt_of_le hgl hw20.size)).trans ((HW.out.cell (p := ⟨g, F + k, none⟩) hgl).trans (HCE.out k hlt))
      have EW := Lib.hid ((HW.out.cell (p := ⟨g, F + k, none⟩) hgl).trans (HCE.out k hlt))
      have hcv : ∀ w, _ := fun w => run_int_w (HEZ.out k hlt) w
      rw [← HAT.out k] at hcv
      generalize u (F + k) = x at *
      generalize atX u F k = y at *
      obtain ⟨j, hj⟩ : ∃ j, j = F + k := ⟨_, rfl⟩
      have v1 : IntKind.i64.wrap ((F : Int) + (k : Int)) = (j : Int) := (IntWalk.i64_in _ (by omega)).trans (by omega)
      rw [← hj] at d0 EW
      have p1 : (0 : Int) ≤ (j : Int) := by omega
      have q1 : (j : Int) < (N : Int) := by omega
      have e1 : (k : Int) < 64 := by omega
      clear hj
      have sm0 := cm2_0
      have sm1 := cm2_1
      have sp0 := cp2_0
      have sp1 := cp2_1
      have sr0 := crt2_0
      go_wp2
      refine wp_region_held_drew (S := fun w' => w'.heap[w.heap.size + 1 + 1]? = some (.cells (z) 26 (0, 0)) ∧ w'.cell? ⟨w.heap.size, 0, none⟩ = some (.int .i64 (E)) ∧ w'.cell? ⟨w.heap.size, 1, none⟩ = some (.slice (some ⟨g, 0, none⟩) N cap) ∧ w'.cell? ⟨w.heap.size + 1, 0, none⟩ = some (.int .i64 (a)) ∧ w'.cell? ⟨w.heap.size + 1, 1, none⟩ = some (.int .i64 (b)) ∧ w'.cell? ⟨g, j, none⟩ = some (.float .f32 x)) (by kernel_rfl) ?_ (fun hH1 => ?_)
      · (first | assumption | (refine ⟨?_, ?_, ?_, ?_, ?_, ?_⟩ <;> (first | assumption | ((repeat (first | assumption | (refine heap_alloc_at ?_; (first | rfl | (simp only [World.size_alloc, World.size_drew, World.size_setCell, size_drewN]; done))) | refine block_alloc ?_ | refine Buf.alloc ?_ _ | refine Buf.drew ?_ | refine Buf.setCell ?_ (by omega) _ _)); done) | (go_keep; done) | (simp [*, go_sem]; done))))
      refine wpAnyH_pure (i := 0) (v := ?_) rfl (by kernel_rfl) (by kernel_rfl) (by kernel_rfl) (fun _ _ _ h => h) (by rfl) (by assumption) ?_ ?_
      rotate_left
      · (intro w hSw; (try dsimp only at hSw); go_simp; (try with_reducible rfl))
      simp only [Act.put, List.getElem_toArray, List.getElem_cons_succ, List.getElem_cons_zero, List.setIfInBounds_toArray, List.set_cons_zero, List.set_cons_succ]
      refine wpAnyH_pure (i := 1) (v := ?_) rfl (by kernel_rfl) (by kernel_rfl) (by kernel_rfl) (fun _ _ _ h => h) (by rfl) (by assumption) ?_ ?_
      rotate_left
      · (intro w hSw; (try dsimp only at hSw); go_simp; (try with_reducible rfl))
      simp only [Act.put, List.getElem_toArray, List.getElem_cons_succ, List.getElem_cons_zero, List.setIfInBounds_toArray, List.set_cons_zero, List.set_cons_succ]
      refine wpAnyH_pure (i := 2) (v := ?_) rfl (by kernel_rfl) (by kernel_rfl) (by kernel_rfl) (fun _ _ _ h => h) (by rfl) (by assumption) ?_ ?_
      rotate_left
      · (intro w hSw; (try dsimp only at hSw); go_simp; (try with_reducible rfl))
      simp only [Act.put, List.getElem_toArray, List.getElem_cons_succ, List.getElem_cons_zero, List.setIfInBounds_toArray, List.set_cons_zero, List.set_cons_succ]
      refine wpAnyH_pure (i := 3) (v := ?_) rfl (by kernel_rfl) (by kernel_rfl) (by kernel_rfl) (fun _ _ _ h => h) (by rfl) (by assumption) ?_ ?_
      rotate_left
      · (intro w hSw; (try dsimp only at hSw); go_simp; (try with_reducible rfl))
      simp only [Act.put, List.getElem_toArray, List.getElem_cons_succ, List.getElem_cons_zero, List.setIfInBounds_toArray, List.set_cons_zero, List.set_cons_succ]
      refine wpAnyH_pure (i := 4) (v := ?_) rfl (by kernel_rfl) (by kernel_rfl) (by kernel_rfl) (fun _ _ _ h => h) (by rfl) (by assumption) ?_ ?_
      rotate_left
      · (intro w hSw; (try dsimp only at hSw); go_simp; (try with_reducible rfl))
      simp only [Act.put, List.getElem_toArray, List.getElem_cons_succ, List.getElem_cons_zero, List.setIfInBounds_toArray, List.set_cons_zero, List.set_cons_succ]
      refine wpAnyH_pure (i := 5) (v := ?_) rfl (by kernel_rfl) (by kernel_rfl) (by kernel_rfl) (fun _ _ _ h => h) (by rfl) (by assumption) ?_ ?_
      rotate_left
      · (intro w hSw; (try dsimp only at hSw); go_simp; (try with_reducible rfl))
      simp only [Act.put, List.getElem_toArray, List.getElem_cons_succ, List.getElem_cons_zero, List.setIfInBounds_toArray, List.set_cons_zero, List.set_cons_succ]
      refine wpAnyH_pure (i := 6) (v := ?_) rfl (by kernel_rfl) (by kernel_rfl) (by kernel_rfl) (fun _ _ _ h => h) (by rfl) (by assumption) ?_ ?_
      rotate_left
      · (intro w hSw; (try dsimp only at hSw); go_simp; (try with_reducible rfl))
      simp only [Act.put, List.getElem_toArray, List.getElem_cons_succ, List.getElem_cons_zero, List.setIfInBounds_toArray, List.set_cons_zero, List.set_cons_succ]
      refine wpAnyH_pure (i := 7) (v := ?_) rfl (by kernel_rfl) (by kernel_rfl) (by kernel_rfl) (fun _ _ _ h => h) (by rfl) (by assumption) ?_ ?_
      rotate_left
      · (intro w hSw; (try dsimp only at hSw); go_simp; (try with_reducible rfl))
      simp only [Act.put, List.getElem_toArray, List.getElem_cons_succ, List.getElem_cons_zero, List.setIfInBounds_toArray, List.set_cons_zero, List.set_cons_succ]
      refine wpAnyH_pure (i := 9) (v := ?_) rfl (by kernel_rfl) (by kernel_rfl) (by kernel_rfl) (fun _ _ _ h => h) (by rfl) (by assumption) ?_ ?_
      rotate_left
      · (intro w hSw; (try dsimp only at hSw); go_simp; (try with_reducible rfl))
      simp only [Act.put, List.getElem_toArray, List.getElem_cons_succ, List.getElem_cons_zero, List.setIfInBounds_toArray, List.set_cons_zero, List.set_cons_succ]
      refine wpAnyH_ready (rs := [8]) (by kernel_rfl) (by simp) ?_
      refine AllReadyH.cons rfl (fun Kq hKq => ?_) AllReadyH.nil
      go_simp
      refine (KA.out _).mono ?_
      (rintro e w5 ⟨rfl, hw5⟩)
      obtain ⟨hcw5, hfw5, hlw5, hmw5, hnw5⟩ := bcell3 hw5
      have hzw5 := hw5.size
      (try simp only [World.size_alloc, World.size_setCell, World.size_drew, size_drewN] at hzw5)
      have cm5_0 : w5.cell? ⟨w.heap.size, 0, none⟩ = some (.int .i64 (E)) := (hcw5 (w.heap.size) (0) (by first | omega | (simp only [World.size_alloc, World.size_drew, World.size_setCell, size_drewN]; omega))).trans (by first | assumption | (simp [go_sem, *]; done)); have cm5_1 : w5.cell? ⟨w.heap.size, 1, none⟩ = some (.slice (some ⟨g, 0, none⟩) N cap) := (hcw5 (w.heap.size) (1) (by first | omega | (simp only [World.size_alloc, World.size_drew, World.size_setCell, size_drewN]; omega))).trans (by first | assumption | (simp [go_sem, *]; done)); have om5 : w.heap.size < w5.heap.size := (by omega)
      clear cm2_0 cm2_1
      have cp5_0 : w5.cell? ⟨w.heap.size + 1, 0, none⟩ = some (.int .i64 (a)) := (hcw5 (w.heap.size + 1) (0) (by first | omega | (simp only [World.size_alloc, World.size_drew, World.size_setCell, size_drewN]; omega))).trans (by first | assumption | (simp [go_sem, *]; done)); have cp5_1 : w5.cell? ⟨w.heap.size + 1, 1, none⟩ = some (.int .i64 (b)) := (hcw5 (w.heap.size + 1) (1) (by first | omega | (simp only [World.size_alloc, World.size_drew, World.size_setCell, size_drewN]; omega))).trans (by first | assumption | (simp [go_sem, *]; done)); have op5 : w.heap.size + 1 < w5.heap.size := (by omega)
      clear cp2_0 cp2_1
      have crt5_0 : w5.heap[w.heap.size + 1 + 1]? = some (.cells (z) 26 (0, 0)) := block_below0 hw5 (by first | assumption | (repeat (first | assumption | (refine heap_alloc_at ?_; (first | rfl | (simp only [World.size_alloc, World.size_drew, World.size_setCell, size_drewN]; done))) | refine block_alloc ?_)))
      clear crt2_0
      have ca5_0 : w5.cell? ⟨g, j, none⟩ = some (.float .f32 x) := (hcw5 (g) (j) (by first | omega | (simp only [World.size_alloc, World.size_drew, World.size_setCell, size_drewN]; omega))).trans (by first | assumption | (simp [go_sem, *]; done)); have oa5 : g < w5.heap.size := (by omega)
      clear hcw5 hfw5 hlw5 hmw5 hnw5
      refine hKq.out _ _ ?_ (fun hH2 => ?_)
      · (first | assumption | (refine ⟨?_, ?_, ?_, ?_, ?_, ?_⟩ <;> (first | assumption | ((repeat (first | assumption | (refine heap_alloc_at ?_; (first | rfl | (simp only [World.size_alloc, World.size_drew, World.size_setCell, size_drewN]; done))) | refine block_alloc ?_ | refine Buf.alloc ?_ _ | refine Buf.drew ?_ | refine Buf.setCell ?_ (by omega) _ _)); done) | (go_keep; done) | (simp [*, go_sem]; done))))
      clear hKq Kq
      clear hH1
      refine wpAnyH_pure (i := 10) (v := ?_) rfl (by kernel_rfl) (by kernel_rfl) (by kernel_rfl) (fun _ _ _ h => h) (by rfl) (by assumption) ?_ ?_
      rotate_left
      · (intro w hSw; (try dsimp only at hSw); go_simp; (try with_reducible rfl))
      simp only [Act.put, List.getElem_toArray, List.getElem_cons_succ, List.getElem_cons_zero, List.setIfInBounds_toArray, List.set_cons_zero, List.set_cons_succ]
      refine wpAnyH_pure (i := 11) (v := ?_) rfl (by kernel_rfl) (by kernel_rfl) (by kernel_rfl) (fun _ _ _ h => h) (by rfl) (by assumption) ?_ ?_
      rotate_left
      · (intro w hSw; (try dsimp only at hSw); go_simp; (try with_reducible rfl))
      simp only [Act.put, List.getElem_toArray, List.getElem_cons_succ, List.getElem_cons_zero, List.setIfInBounds_toArray, List.set_cons_zero, List.set_cons_succ]
      refine wpAnyH_pure (i := 12) (v := ?_) rfl (by kernel_rfl) (by kernel_rfl) (by kernel_rfl) (fun _ _ _ h => h) (by rfl) (by assumption) ?_ ?_
      rotate_left
      · (intro w hSw; (try dsimp only at hSw); go_simp; (try with_reducible rfl))
      simp only [Act.put, List.getElem_toArray, List.getElem_cons_succ, List.getElem_cons_zero, List.setIfInBounds_toArray, List.set_cons_zero, List.set_cons_succ]
      refine wpAnyH_pure (i := 13) (v := ?_) rfl (by kernel_rfl) (by kernel_rfl) (by kernel_rfl) (fun _ _ _ h => h) (by rfl) (by assumption) ?_ ?_
      rotate_left
      · (intro w hSw; (try dsimp only at hSw); go_simp; (try with_reducible rfl))
      simp only [Act.put, List.getElem_toArray, List.getElem_cons_succ, List.getElem_cons_zero, List.setIfInBounds_toArray, List.set_cons_zero, List.set_cons_succ]
      refine wpAnyH_ready (rs := [14]) (by kernel_rfl) (by simp) ?_
      refine AllReadyH.cons rfl (fun Kq hKq => ?_) AllReadyH.nil
      go_simp
      refine hKq.out _ _ ?_ (fun hH3 => ?_)
      · (first | assumption | (refine ⟨?_, ?_, ?_, ?_, ?_, ?_⟩ <;> (first | assumption | ((repeat (first | assumption | (refine heap_alloc_at ?_; (first | rfl | (simp only [World.size_alloc, World.size_drew, World.size_setCell, size_drewN]; done))) | refine block_alloc ?_ | refine Buf.alloc ?_ _ | refine Buf.drew ?_ | refine Buf.setCell ?_ (by omega) _ _)); done) | (go_keep; done) | (simp [*, go_sem]; done))))
      clear hKq Kq
      clear hH2
      refine wpAnyH_ready (rs := [15]) (by kernel_rfl) (by simp) ?_
      refine AllReadyH.cons rfl (fun Kq hKq => ?_) AllReadyH.nil
      have hown := HO.out
      have hB := HB.out
      rw [if_pos (by rfl)]
      refine wp_append_own _ (.tmp 11) (.tmp 25) 50 rfl w2.heap.size 3 i0 (.int .i64 0) 1 8 Try.underlying50 HI.out HZ0.out HZ1.out HZ2.out rfl (by decide) _ k (iL (atX u F) k) rfl ((own_bel hown.drew hw5).drew.alloc _) ⟨w5.heap.size, 0, none⟩ 1 1 [.int .i64 y] rfl rfl ?_ ?_ ?_ ?_ ?_ ?_
      rotate_right
      intro v' wA hown' hgrow _
      rw [← HL.out] at hown'
      have hB' : Below w2.heap.size w2 wA := Below.grown (((Below.drew hB).trans (hw5.mono hzr)).alloc (by omega) _) hgrow (by simp; omega) (fun b hb => ((own_bel hown.drew hw5).lt b hb).1)
      have cA0 := (hB'.cell (p := ⟨g, j, none⟩) (by exact Nat.lt_of_lt_of_le hgl hw20.size)).trans EW.out
      have x0 := ((bcell hB').1 _ _ (by omega)).trans sm0
      have x1 := ((bcell hB').1 _ _ (by omega)).trans sm1
      have x2 := ((bcell hB').1 _ _ (by omega)).trans sp0
      have x3 := ((bcell hB').1 _ _ (by omega)).trans sp1
      have x4 := block_below0 hB' sr0
      have hO' := Lib.hid hown'
      have hBB' := Lib.hid hB'
      clear hown hB hown' hB' hgrow
      refine hKq.out _ _ ?_ (fun hH4 => ?_)
      · (first | assumption | (refine ⟨?_, ?_, ?_, ?_, ?_, ?_⟩ <;> (first | assumption | ((repeat (first | assumption | (refine heap_alloc_at ?_; (first | rfl | (simp only [World.size_alloc, World.size_drew, World.size_setCell, size_drewN]; done))) | refine block_alloc ?_ | refine Buf.alloc ?_ _ | refine Buf.drew ?_ | refine Buf.setCell ?_ (by omega) _ _)); done) | (go_keep; done) | (simp [*, go_sem]; done))))
      clear hKq Kq
      clear hH3
      refine wpAnyH_pure (i := 16) (v := ?_) rfl (by kernel_rfl) (by kernel_rfl) (by kernel_rfl) (fun _ _ _ h => h) (by rfl) (by assumption) ?_ ?_
      rotate_left
      · (intro w hSw; (try dsimp only at hSw); go_simp; (try with_reducible rfl))
      simp only [Act.put, List.getElem_toArray, List.getElem_cons_succ, List.getElem_cons_zero, List.setIfInBounds_toArray, List.set_cons_zero, List.set_cons_succ]
      refine wpAnyH_done (by kernel_rfl) ?_ _
      go_wp2
      go_roundw
      case rel => exact ⟨k + 1, by omega, by go_num, hO'.out, hBB'.out⟩
      case measure => simp [intOf]; omega
      · intro j v hj
        match j, hj with
        | 0, hj => simp at hj; subst hj; simp [Addr.add]
      · intro v hv; simp at hv; subst hv; rfl
      · unfold maxLen; omega
      · omega
      · simp; omega
    · obtain rfl : k = 64 := by omega
      have hown := HO.out
      have hB := HB.out
      have KR := Lib.hid (fun (W : World) (hW : Below wr.heap.size wr W) v (hv : wr.ownsRow w2.heap.size 3 1 v 64 (iL (atX u F) 64)) => KT.out v W (Lib.hid (IRow.below (irow_own hv) hW)))
      go_wp2_with fail
      refine (KR.out _ (Below.refl _ _) _ hown).mono ?_
      rintro e w6 ⟨rfl, hw6⟩
      have hz6 := hw6.size
      have crt6 := block_below0 hw6 crtr_0
      go_wp2_with (refine wpl_store rfl 26 26 _ _ (w.heap.size + 1 + 1) z c rfl rfl rfl (by rw [hsc.out]; exact infoTrace) (by rw [hsc.out, hs0.out]) hoc.out crt6 ?_)
      refine bodyPost_ret (v := .agg c) ?_ rfl ⟨rfl, below_setRow (by (repeat' (first | (with_reducible exact Below.refl _ _) | (with_reducible assumption) | (with_reducible refine Below.alloc ?_ ?_ _) | (with_reducible refine Below.drew ?_) | (with_reducible refine below_drewN ?_ _) | (with_reducible refine Below.setCell ?_ ?_ _) | (with_reducible refine below_step (by with_reducible assumption) ?_ ?_) | (with_reducible exact Below.size (by with_reducible assumption)) | go_size))) c (by omega)⟩
      rw [results_cell1 (p := 4) (ty := 26) rfl]
      change (loadVar 26 ⟨w.heap.size + 1 + 1, 0, none⟩).run Try.prog _ = _
      exact run_loadVar_row _ _ 26 26 c (0, 0) _ (block_setRow crt6) Try.underlying26 rfl (by rw [hsc.out]; exact infoTrace)
end Go.Proofs.Ythgnemkfaiejbaa
