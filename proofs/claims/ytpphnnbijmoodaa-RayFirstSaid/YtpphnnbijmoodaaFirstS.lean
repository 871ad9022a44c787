/-
  FIRST: MayBeFirst of the reference.
-/
import Derived.Test.YtpphnnbijmoodaaFirstR
import Derived.Test.YtpphnnbijmoodaaReg
set_option linter.unusedVariables false
set_option linter.unusedSimpArgs false
namespace Go.Proofs.Ytpphnnbijmoodaa
open Go.RowKit

theorem abs_calls {P : Program} {f : FuncId} {vs : Array Value} {w : World} {Q : Ending → World → Prop} (h : ∀ W, W = w → Calls P f vs W Q) : Calls P f vs w Q := h w rfl
set_option maxRecDepth 100000 in
set_option maxHeartbeats 1000000 in
theorem rmayBeFirst_len (p : Option Addr) (N cap : Nat) (fx fz tx tz : Int) (w : World) (hc : N ≤ cap ∧ cap ≤ maxLen) (h : ¬ lE8 (N : Int) 8 = 0) :
    Calls Try.prog 62 #[.slice p N cap, .agg #[.int .i64 fx, .int .i64 fz], .agg #[.int .i64 tx, .int .i64 tz]] w fun e w' => e = .returned (.tuple #[.slice none 0 0, .int .i64 (lE8 (N : Int) 8)]) ∧ Below w.heap.size w w' := by
  have hmax := hc.2
  unfold maxLen at hmax
  rcases Nat.eq_zero_or_pos N with h0 | h0
  · have HE := Lib.hid (show lE8 (N : Int) 8 = 10 by subst h0; rfl)
    have t0 : ((N : Int) == 0) = true := by simp; omega
    clear h
    go_enter Try.func62, Try.ntmps62
    go_wp2
    go_ret2
    exact ⟨by rw [HE.out]; rfl, by (repeat' (first | (with_reducible exact Below.refl _ _) | (with_reducible assumption) | (with_reducible refine Below.alloc ?_ ?_ _) | (with_reducible refine Below.drew ?_) | (with_reducible refine below_drewN ?_ _) | (with_reducible refine Below.setCell ?_ ?_ _) | (with_reducible refine below_step (by with_reducible assumption) ?_ ?_) | (with_reducible exact Below.size (by with_reducible assumption)) | go_size))⟩
  · have h8 : 8 < N := by
      rcases Nat.lt_or_ge 8 N with c | c
      · exact c
      · exact absurd (by unfold lE8; rw [decide_eq_true (by omega), decide_eq_true (by omega)]; rfl) h
    have HE := Lib.hid (show lE8 (N : Int) 8 = 8 by unfold lE8; rw [decide_eq_true (by omega), decide_eq_false (by omega)]; rfl)
    have t0 : ((N : Int) == 0) = false := by simp; omega
    have t8 : (8 : Int) < (N : Int) := by omega
    clear h
    go_enter Try.func62, Try.ntmps62
    go_wp2
    go_ret2
    exact ⟨by rw [HE.out]; rfl, by (repeat' (first | (with_reducible exact Below.refl _ _) | (with_reducible assumption) | (with_reducible refine Below.alloc ?_ ?_ _) | (with_reducible refine Below.drew ?_) | (with_reducible refine below_drewN ?_ _) | (with_reducible refine Below.setCell ?_ ?_ _) | (with_reducible refine below_step (by with_reducible assumption) ?_ ?_) | (with_reducible exact Below.size (by with_reducible assumption)) | go_size))⟩
set_option maxRecDepth 100000 in
set_option maxHeartbeats 8000000 in
theorem rmayBeFirst_walk (M : Nat → Md) (L H g c d : Nat → Int) (p : Option Addr) (N cap : Nat) (fx fz tx tz : Int) (w : World) (hc : N ≤ cap ∧ cap ≤ maxLen) (hN : 1 ≤ N ∧ N ≤ 8) (hrow : MRow w p N M)
    (HG : Hid (∀ k, g k = if c k = 0 then d k else c k))
    (KC : Hid (∀ k, k < N → ∀ W, Calls Try.prog 42 #[.agg #[.int .i64 (M k).Wedge, .int .i64 (M k).Metal, .int .i64 (M k).Skips, .int .i64 (M k).Thick]] W fun e w' => e = .returned (.int .i64 (c k)) ∧ Below W.heap.size W w'))
    (KW : Hid (∀ k, k < N → c k = 0 → ∀ W, Calls Try.prog 103 #[.agg #[.int .i64 (M k).Wedge, .int .i64 (M k).Metal, .int .i64 (M k).Skips, .int .i64 (M k).Thick], .agg #[.int .i64 fx, .int .i64 fz], .agg #[.int .i64 tx, .int .i64 tz]] W fun e w' => e = .returned (.int .i64 (d k)) ∧ Below W.heap.size W w'))
    (KT : Hid (∀ k, k < N → g k = 0 → ∀ W, Calls Try.prog 51 #[.agg #[.int .i64 (M k).Wedge, .int .i64 (M k).Metal, .int .i64 (M k).Skips, .int .i64 (M k).Thick], .agg #[.int .i64 fx, .int .i64 fz], .agg #[.int .i64 tx, .int .i64 tz]] W fun e w' => e = .returned (.agg #[.int .i64 (L k), .int .i64 (H k)]) ∧ Below W.heap.size W w')) :
    Calls Try.prog 62 #[.slice p N cap, .agg #[.int .i64 fx, .int .i64 fz], .agg #[.int .i64 tx, .int .i64 tz]] w (FPost w L H g N) := by
  have hmax := hc.2
  unfold maxLen at hmax
  obtain ⟨i0, hi, hz0, hz1, hz2⟩ := info_parts infoInt
  have HI := Lib.hid hi
  have HZ := Lib.hid hz0
  have HZ1 := Lib.hid hz1
  have HZ2 := Lib.hid hz2
  clear hi hz0 hz1 hz2
  obtain ⟨gg, o, rfl, hg, hcell0⟩ := hrow (by omega)
  have HC := Lib.hid hcell0
  clear hcell0 hrow
  have t0 : ((N : Int) == 0) = false := by simp; omega
  have t8 : ¬ (8 : Int) < (N : Int) := by omega
  have hfd0 : ∀ (a b : Int) (w : World), (Instr.field 26 (.agg #[.int .i64 a, .int .i64 b]) 0).run Try.prog w = .ok (.int .i64 a) w := fun _ _ _ => by kernel_rfl
  have hfd1 : ∀ (a b : Int) (w : World), (Instr.field 26 (.agg #[.int .i64 a, .int .i64 b]) 1).run Try.prog w = .ok (.int .i64 b) w := fun _ _ _ => by kernel_rfl
  go_enter Try.func62, Try.ntmps62
  go_wp2_with fail
  refine abs_last (fun w1 hw1 => ?_)
  have hW1 : w1.heap.size = w.heap.size + 1 + 1 := by rw [hw1]; simp
  have hb1 : Below w.heap.size w w1 := by rw [hw1]; (repeat' (first | (with_reducible exact Below.refl _ _) | (with_reducible assumption) | (with_reducible refine Below.alloc ?_ ?_ _) | (with_reducible refine Below.drew ?_) | (with_reducible refine below_drewN ?_ _) | (with_reducible refine Below.setCell ?_ ?_ _) | (with_reducible refine below_step (by with_reducible assumption) ?_ ?_) | (with_reducible exact Below.size (by with_reducible assumption)) | go_size))
  have cf1_0 : w1.cell? ⟨w.heap.size, 0, none⟩ = some (.int .i64 fx) := by rw [hw1]; simp [go_sem]
  have cf1_1 : w1.cell? ⟨w.heap.size, 1, none⟩ = some (.int .i64 fz) := by rw [hw1]; simp [go_sem]
  have ct1_0 : w1.cell? ⟨w.heap.size + 1, 0, none⟩ = some (.int .i64 tx) := by rw [hw1]; simp [go_sem]
  have ct1_1 : w1.cell? ⟨w.heap.size + 1, 1, none⟩ = some (.int .i64 tz) := by rw [hw1]; simp [go_sem]
  have HC1 := Lib.hid (show ∀ k, k < N → w1.cell? ⟨gg, o + k * 4, none⟩ = some (.int .i64 (M k).Wedge) ∧ w1.cell? ⟨gg, o + k * 4 + 1, none⟩ = some (.int .i64 (M k).Metal) ∧ w1.cell? ⟨gg, o + k * 4 + 2, none⟩ = some (.int .i64 (M k).Skips) ∧ w1.cell? ⟨gg, o + k * 4 + 3, none⟩ = some (.int .i64 (M k).Thick) from fun k hk => by
    have b := (bcell hb1).1
    have x := HC.out k hk
    exact ⟨(b _ _ hg).trans x.1, (b _ _ hg).trans x.2.1, (b _ _ hg).trans x.2.2.1, (b _ _ hg).trans x.2.2.2⟩)
  clear hw1
  have hs0 : w.heap.size < w1.heap.size := by omega
  have hs1 : w.heap.size + 1 < w1.heap.size := by omega
  have hs2 : gg < w1.heap.size := by omega
  clear hW1 HC
  go_loopw [8] (fun i wr => ∃ k : Nat, k ≤ N ∧ i = .int .i64 (k : Int) ∧ eF g k = 0 ∧ Below w1.heap.size w1 wr) (fun i _ => N - (intOf i).toNat)
  case atStart => exact ⟨0, Nat.zero_le _, rfl, rfl, Below.refl _ _⟩
  case round =>
    obtain ⟨k, hk, rfl, he, hB⟩ := hrel
    have hzr := hB.size
    have hbr : Below w.heap.size w wr := hb1.trans (hB.mono (by omega))
    have b := (bcell hB).1
    have cfr_0 := (b _ _ hs0).trans cf1_0
    have cfr_1 := (b _ _ hs0).trans cf1_1
    have ctr_0 := (b _ _ hs1).trans ct1_0
    have ctr_1 := (b _ _ hs1).trans ct1_1
    have ofr : w.heap.size < wr.heap.size := by omega
    have otr : w.heap.size + 1 < wr.heap.size := by omega
    have osr : gg < wr.heap.size := by omega
    have HE := Lib.hid he
    clear he
    by_cases hlt : k < N
    · obtain ⟨a0, a1, a2, a3⟩ := HC1.out k hlt
      have csr_0 := (b _ _ hs2).trans a0
      have csr_1 := (b _ _ hs2).trans a1
      have csr_2 := (b _ _ hs2).trans a2
      have csr_3 := (b _ _ hs2).trans a3
      clear a0 a1 a2 a3 b
      have e0 : (0 : Int) ≤ (k : Int) := by omega
      have e1 : (k : Int) < (N : Int) := by omega
      have K1 := Lib.hid (KC.out k hlt)
      have hgk := HG.out k
      by_cases hck : c k = 0
      · have K2 := Lib.hid (KW.out k hlt hck)
        rw [if_pos hck] at hgk
        have hck2 := hck
        rw [hck] at K1
        clear hck
        by_cases hdk : d k = 0
        · have HE2 := Lib.hid (eF_succ HE.out (hgk.trans hdk))
          rw [hdk] at K2
          clear hdk hgk hck2
          generalize (M k).Wedge = m0 at *
          generalize (M k).Metal = m1 at *
          generalize (M k).Skips = m2 at *
          generalize (M k).Thick = m3 at *
          go_wp2_with fail
          refine (K1.out _).mono ?_
          rintro e w9 ⟨rfl, hw9⟩
          obtain ⟨hcw9, hfw9, hlw9, hmw9, hnw9⟩ := bcell3 hw9
          have hzw9 := hw9.size
          have cf9_0 : w9.cell? ⟨w.heap.size, 0, none⟩ = some (.int .i64 (fx)) := (hcw9 (w.heap.size) (0) (by first | omega | (simp only [World.size_alloc, World.size_drew, World.size_setCell, size_drewN]; omega))).trans (by first | assumption | (simp [go_sem, *]; done)); have cf9_1 : w9.cell? ⟨w.heap.size, 1, none⟩ = some (.int .i64 (fz)) := (hcw9 (w.heap.size) (1) (by first | omega | (simp only [World.size_alloc, World.size_drew, World.size_setCell, size_drewN]; omega))).trans (by first | assumption | (simp [go_sem, *]; done)); have of9 : w.heap.size < w9.heap.size := (by omega)
          clear cfr_0 cfr_1
          have ct9_0 : w9.cell? ⟨w.heap.size + 1, 0, none⟩ = some (.int .i64 (tx)) := (hcw9 (w.heap.size + 1) (0) (by first | omega | (simp only [World.size_alloc, World.size_drew, World.size_setCell, size_drewN]; omega))).trans (by first | assumption | (simp [go_sem, *]; done)); have ct9_1 : w9.cell? ⟨w.heap.size + 1, 1, none⟩ = some (.int .i64 (tz)) := (hcw9 (w.heap.size + 1) (1) (by first | omega | (simp only [World.size_alloc, World.size_drew, World.size_setCell, size_drewN]; omega))).trans (by first | assumption | (simp [go_sem, *]; done)); have ot9 : w.heap.size + 1 < w9.heap.size := (by omega)
          clear ctr_0 ctr_1
          have cs9_0 : w9.cell? ⟨gg, o + k * 4, none⟩ = some (.int .i64 (m0)) := (hcw9 (gg) (o + k * 4) (by first | omega | (simp only [World.size_alloc, World.size_drew, World.size_setCell, size_drewN]; omega))).trans (by first | assumption | (simp [go_sem, *]; done)); have cs9_1 : w9.cell? ⟨gg, o + k * 4 + 1, none⟩ = some (.int .i64 (m1)) := (hcw9 (gg) (o + k * 4 + 1) (by first | omega | (simp only [World.size_alloc, World.size_drew, World.size_setCell, size_drewN]; omega))).trans (by first | assumption | (simp [go_sem, *]; done)); have cs9_2 : w9.cell? ⟨gg, o + k * 4 + 2, none⟩ = some (.int .i64 (m2)) := (hcw9 (gg) (o + k * 4 + 2) (by first | omega | (simp only [World.size_alloc, World.size_drew, World.size_setCell, size_drewN]; omega))).trans (by first | assumption | (simp [go_sem, *]; done)); have cs9_3 : w9.cell? ⟨gg, o + k * 4 + 3, none⟩ = some (.int .i64 (m3)) := (hcw9 (gg) (o + k * 4 + 3) (by first | omega | (simp only [World.size_alloc, World.size_drew, World.size_setCell, size_drewN]; omega))).trans (by first | assumption | (simp [go_sem, *]; done)); have os9 : gg < w9.heap.size := (by omega)
          clear csr_0 csr_1 csr_2 csr_3
          go_wp2
          refine wp_region_held_drew (S := fun w' => w'.cell? ⟨w.heap.size, 0, none⟩ = some (.int .i64 (fx)) ∧ w'.cell? ⟨w.heap.size, 1, none⟩ = some (.int .i64 (fz)) ∧ w'.cell? ⟨w.heap.size + 1, 0, none⟩ = some (.int .i64 (tx)) ∧ w'.cell? ⟨w.heap.size + 1, 1, none⟩ = some (.int .i64 (tz)) ∧ w'.cell? ⟨gg, o + k * 4, none⟩ = some (.int .i64 (m0)) ∧ w'.cell? ⟨gg, o + k * 4 + 1, none⟩ = some (.int .i64 (m1)) ∧ w'.cell? ⟨gg, o + k * 4 + 2, none⟩ = some (.int .i64 (m2)) ∧ w'.cell? ⟨gg, o + k * 4 + 3, none⟩ = some (.int .i64 (m3))) (by kernel_rfl) ?_ (fun hH1 => ?_)
          · (first | assumption | (refine ⟨?_, ?_, ?_, ?_, ?_, ?_, ?_, ?_⟩ <;> assumption) | (go_keep; done) | (simp [*, go_sem]; done))
          refine wpAnyH_pure (i := 0) (v := ?_) rfl (by kernel_rfl) (by kernel_rfl) (by kernel_rfl) (fun _ _ _ h => h) (by rfl) (by assumption) ?_ ?_
          rotate_left
          · (intro w hSw; (try dsimp only at hSw); go_simp; (try with_reducible rfl))
          simp only [Act.put, List.getElem_toArray, List.getElem_cons_succ, List.getElem_cons_zero, List.setIfInBounds_toArray, List.set_cons_zero, List.set_cons_succ]
          refine wpAnyH_pure (i := 1) (v := ?_) rfl (by kernel_rfl) (by kernel_rfl) (by kernel_rfl) (fun _ _ _ h => h) (by rfl) (by assumption) ?_ ?_
          rotate_left
          · (intro w hSw; (try dsimp only at hSw); go_simp; (try with_reducible rfl))
          simp only [Act.put, List.getElem_toArray, List.getElem_cons_succ, List.getElem_cons_zero, List.setIfInBounds_toArray, List.set_cons_zero, List.set_cons_succ]
          refine wpAnyH_pure (i := 2) (v := ?_) rfl (by kernel_rfl) (by kernel_rfl) (by kernel_rfl) (fun _ _ _ h => h) (by rfl) (by assumption) ?_ ?_
          rotate_left
          · (intro w hSw; (try dsimp only at hSw); go_simp; (try with_reducible rfl))
          simp only [Act.put, List.getElem_toArray, List.getElem_cons_succ, List.getElem_cons_zero, List.setIfInBounds_toArray, List.set_cons_zero, List.set_cons_succ]
          refine wpAnyH_pure (i := 3) (v := ?_) rfl (by kernel_rfl) (by kernel_rfl) (by kernel_rfl) (fun _ _ _ h => h) (by rfl) (by assumption) ?_ ?_
          rotate_left
          · (intro w hSw; (try dsimp only at hSw); go_simp; (try with_reducible rfl))
          simp only [Act.put, List.getElem_toArray, List.getElem_cons_succ, List.getElem_cons_zero, List.setIfInBounds_toArray, List.set_cons_zero, List.set_cons_succ]
          refine wpAnyH_pure (i := 4) (v := ?_) rfl (by kernel_rfl) (by kernel_rfl) (by kernel_rfl) (fun _ _ _ h => h) (by rfl) (by assumption) ?_ ?_
          rotate_left
          · (intro w hSw; (try dsimp only at hSw); go_simp; (try with_reducible rfl))
          simp only [Act.put, List.getElem_toArray, List.getElem_cons_succ, List.getElem_cons_zero, List.setIfInBounds_toArray, List.set_cons_zero, List.set_cons_succ]
          refine wpAnyH_pure (i := 5) (v := ?_) rfl (by kernel_rfl) (by kernel_rfl) (by kernel_rfl) (fun _ _ _ h => h) (by rfl) (by assumption) ?_ ?_
          rotate_left
          · (intro w hSw; (try dsimp only at hSw); go_simp; (try with_reducible rfl))
          simp only [Act.put, List.getElem_toArray, List.getElem_cons_succ, List.getElem_cons_zero, List.setIfInBounds_toArray, List.set_cons_zero, List.set_cons_succ]
          refine wpAnyH_ready (rs := [6]) (by kernel_rfl) (by simp) ?_
          refine AllReadyH.cons rfl (fun Kq hKq => ?_) AllReadyH.nil
          go_simp
          refine (K2.out _).mono ?_
          (rintro e w10 ⟨rfl, hw10⟩)
          obtain ⟨hcw10, hfw10, hlw10, hmw10, hnw10⟩ := bcell3 hw10
          have hzw10 := hw10.size
          (try simp only [World.size_alloc, World.size_setCell, World.size_drew, size_drewN] at hzw10)
          have cf10_0 : w10.cell? ⟨w.heap.size, 0, none⟩ = some (.int .i64 (fx)) := (hcw10 (w.heap.size) (0) (by first | omega | (simp only [World.size_alloc, World.size_drew, World.size_setCell, size_drewN]; omega))).trans (by first | assumption | (simp [go_sem, *]; done)); have cf10_1 : w10.cell? ⟨w.heap.size, 1, none⟩ = some (.int .i64 (fz)) := (hcw10 (w.heap.size) (1) (by first | omega | (simp only [World.size_alloc, World.size_drew, World.size_setCell, size_drewN]; omega))).trans (by first | assumption | (simp [go_sem, *]; done)); have of10 : w.heap.size < w10.heap.size := (by omega)
          clear cf9_0 cf9_1
          have ct10_0 : w10.cell? ⟨w.heap.size + 1, 0, none⟩ = some (.int .i64 (tx)) := (hcw10 (w.heap.size + 1) (0) (by first | omega | (simp only [World.size_alloc, World.size_drew, World.size_setCell, size_drewN]; omega))).trans (by first | assumption | (simp [go_sem, *]; done)); have ct10_1 : w10.cell? ⟨w.heap.size + 1, 1, none⟩ = some (.int .i64 (tz)) := (hcw10 (w.heap.size + 1) (1) (by first | omega | (simp only [World.size_alloc, World.size_drew, World.size_setCell, size_drewN]; omega))).trans (by first | assumption | (simp [go_sem, *]; done)); have ot10 : w.heap.size + 1 < w10.heap.size := (by omega)
          clear ct9_0 ct9_1
          have cs10_0 : w10.cell? ⟨gg, o + k * 4, none⟩ = some (.int .i64 (m0)) := (hcw10 (gg) (o + k * 4) (by first | omega | (simp only [World.size_alloc, World.size_drew, World.size_setCell, size_drewN]; omega))).trans (by first | assumption | (simp [go_sem, *]; done)); have cs10_1 : w10.cell? ⟨gg, o + k * 4 + 1, none⟩ = some (.int .i64 (m1)) := (hcw10 (gg) (o + k * 4 + 1) (by first | omega | (simp only [World.size_alloc, World.size_drew, World.size_setCell, size_drewN]; omega))).trans (by first | assumption | (simp [go_sem, *]; done)); have cs10_2 : w10.cell? ⟨gg, o + k * 4 + 2, none⟩ = some (.int .i64 (m2)) := (hcw10 (gg) (o + k * 4 + 2) (by first | omega | (simp only [World.size_alloc, World.size_drew, World.size_setCell, size_drewN]; omega))).trans (by first | assumption | (simp [go_sem, *]; done)); have cs10_3 : w10.cell? ⟨gg, o + k * 4 + 3, none⟩ = some (.int .i64 (m3)) := (hcw10 (gg) (o + k * 4 + 3) (by first | omega | (simp only [World.size_alloc, World.size_drew, World.size_setCell, size_drewN]; omega))).trans (by first | assumption | (simp [go_sem, *]; done)); have os10 : gg < w10.heap.size := (by omega)
          clear cs9_0 cs9_1 cs9_2 cs9_3
          refine hKq.out _ _ ?_ (fun hH2 => ?_)
          · (first | assumption | (refine ⟨?_, ?_, ?_, ?_, ?_, ?_, ?_, ?_⟩ <;> assumption) | (go_keep; done) | (simp [*, go_sem]; done))
          clear hKq Kq
          clear hH1
          refine wpAnyH_pure (i := 7) (v := ?_) rfl (by kernel_rfl) (by kernel_rfl) (by kernel_rfl) (fun _ _ _ h => h) (by rfl) (by assumption) ?_ ?_
          rotate_left
          · (intro w hSw; (try dsimp only at hSw); go_simp; (try with_reducible rfl))
          simp only [Act.put, List.getElem_toArray, List.getElem_cons_succ, List.getElem_cons_zero, List.setIfInBounds_toArray, List.set_cons_zero, List.set_cons_succ]
          refine wpAnyH_done (by kernel_rfl) ?_ _
          go_wp2
          go_roundw
          case rel => exact ⟨k + 1, by omega, by go_num, HE2.out, by (repeat' (first | (with_reducible exact Below.refl _ _) | (with_reducible assumption) | (with_reducible refine Below.alloc ?_ ?_ _) | (with_reducible refine Below.drew ?_) | (with_reducible refine below_drewN ?_ _) | (with_reducible refine Below.setCell ?_ ?_ _) | (with_reducible refine below_step (by with_reducible assumption) ?_ ?_) | (with_reducible exact Below.size (by with_reducible assumption)) | go_size))⟩
          case measure => simp [intOf]; omega
        · have HE2 := Lib.hid ((eF_is HE.out (by rw [hgk]; exact hdk) hlt).trans hgk)
          clear hgk hck2
          generalize (M k).Wedge = m0 at *
          generalize (M k).Metal = m1 at *
          generalize (M k).Skips = m2 at *
          generalize (M k).Thick = m3 at *
          generalize d k = er at *
          go_wp2_with fail
          refine (K1.out _).mono ?_
          rintro e w9 ⟨rfl, hw9⟩
          obtain ⟨hcw9, hfw9, hlw9, hmw9, hnw9⟩ := bcell3 hw9
          have hzw9 := hw9.size
          have cf9_0 : w9.cell? ⟨w.heap.size, 0, none⟩ = some (.int .i64 (fx)) := (hcw9 (w.heap.size) (0) (by first | omega | (simp only [World.size_alloc, World.size_drew, World.size_setCell, size_drewN]; omega))).trans (by first | assumption | (simp [go_sem, *]; done)); have cf9_1 : w9.cell? ⟨w.heap.size, 1, none⟩ = some (.int .i64 (fz)) := (hcw9 (w.heap.size) (1) (by first | omega | (simp only [World.size_alloc, World.size_drew, World.size_setCell, size_drewN]; omega))).trans (by first | assumption | (simp [go_sem, *]; done)); have of9 : w.heap.size < w9.heap.size := (by omega)
          clear cfr_0 cfr_1
          have ct9_0 : w9.cell? ⟨w.heap.size + 1, 0, none⟩ = some (.int .i64 (tx)) := (hcw9 (w.heap.size + 1) (0) (by first | omega | (simp only [World.size_alloc, World.size_drew, World.size_setCell, size_drewN]; omega))).trans (by first | assumption | (simp [go_sem, *]; done)); have ct9_1 : w9.cell? ⟨w.heap.size + 1, 1, none⟩ = some (.int .i64 (tz)) := (hcw9 (w.heap.size + 1) (1) (by first | omega | (simp only [World.size_alloc, World.size_drew, World.size_setCell, size_drewN]; omega))).trans (by first | assumption | (simp [go_sem, *]; done)); have ot9 : w.heap.size + 1 < w9.heap.size := (by omega)
          clear ctr_0 ctr_1
          have cs9_0 : w9.cell? ⟨gg, o + k * 4, none⟩ = some (.int .i64 (m0)) := (hcw9 (gg) (o + k * 4) (by first | omega | (simp only [World.size_alloc, World.size_drew, World.size_setCell, size_drewN]; omega))).trans (by first | assumption | (simp [go_sem, *]; done)); have cs9_1 : w9.cell? ⟨gg, o + k * 4 + 1, none⟩ = some (.int .i64 (m1)) := (hcw9 (gg) (o + k * 4 + 1) (by first | omega | (simp only [World.size_alloc, World.size_drew, World.size_setCell, size_drewN]; omega))).trans (by first | assumption | (simp [go_sem, *]; done)); have cs9_2 : w9.cell? ⟨gg, o + k * 4 + 2, none⟩ = some (.int .i64 (m2)) := (hcw9 (gg) (o + k * 4 + 2) (by first | omega | (simp only [World.size_alloc, World.size_drew, World.size_setCell, size_drewN]; omega))).trans (by first | assumption | (simp [go_sem, *]; done)); have cs9_3 : w9.cell? ⟨gg, o + k * 4 + 3, none⟩ = some (.int .i64 (m3)) := (hcw9 (gg) (o + k * 4 + 3) (by first | omega | (simp only [World.size_alloc, World.size_drew, World.size_setCell, size_drewN]; omega))).trans (by first | assumption | (simp [go_sem, *]; done)); have os9 : gg < w9.heap.size := (by omega)
          clear csr_0 csr_1 csr_2 csr_3
          go_wp2
          refine wp_region_held_drew (S := fun w' => w'.cell? ⟨w.heap.size, 0, none⟩ = some (.int .i64 (fx)) ∧ w'.cell? ⟨w.heap.size, 1, none⟩ = some (.int .i64 (fz)) ∧ w'.cell? ⟨w.heap.size + 1, 0, none⟩ = some (.int .i64 (tx)) ∧ w'.cell? ⟨w.heap.size + 1, 1, none⟩ = some (.int .i64 (tz)) ∧ w'.cell? ⟨gg, o + k * 4, none⟩ = some (.int .i64 (m0)) ∧ w'.cell? ⟨gg, o + k * 4 + 1, none⟩ = some (.int .i64 (m1)) ∧ w'.cell? ⟨gg, o + k * 4 + 2, none⟩ = some (.int .i64 (m2)) ∧ w'.cell? ⟨gg, o + k * 4 + 3, none⟩ = some (.int .i64 (m3))) (by kernel_rfl) ?_ (fun hH3 => ?_)
          · (first | assumption | (refine ⟨?_, ?_, ?_, ?_, ?_, ?_, ?_, ?_⟩ <;> assumption) | (go_keep; done) | (simp [*, go_sem]; done))
          refine wpAnyH_pure (i := 0) (v := ?_) rfl (by kernel_rfl) (by kernel_rfl) (by kernel_rfl) (fun _ _ _ h => h) (by rfl) (by assumption) ?_ ?_
          rotate_left
          · (intro w hSw; (try dsimp only at hSw); go_simp; (try with_reducible rfl))
          simp only [Act.put, List.getElem_toArray, List.getElem_cons_succ, List.getElem_cons_zero, List.setIfInBounds_toArray, List.set_cons_zero, List.set_cons_succ]
          refine wpAnyH_pure (i := 1) (v := ?_) rfl (by kernel_rfl) (by kernel_rfl) (by kernel_rfl) (fun _ _ _ h => h) (by rfl) (by assumption) ?_ ?_
          rotate_left
          · (intro w hSw; (try dsimp only at hSw); go_simp; (try with_reducible rfl))
          simp only [Act.put, List.getElem_toArray, List.getElem_cons_succ, List.getElem_cons_zero, List.setIfInBounds_toArray, List.set_cons_zero, List.set_cons_succ]
          refine wpAnyH_pure (i := 2) (v := ?_) rfl (by kernel_rfl) (by kernel_rfl) (by kernel_rfl) (fun _ _ _ h => h) (by rfl) (by assumption) ?_ ?_
          rotate_left
          · (intro w hSw; (try dsimp only at hSw); go_simp; (try with_reducible rfl))
          simp only [Act.put, List.getElem_toArray, List.getElem_cons_succ, List.getElem_cons_zero, List.setIfInBounds_toArray, List.set_cons_zero, List.set_cons_succ]
          refine wpAnyH_pure (i := 3) (v := ?_) rfl (by kernel_rfl) (by kernel_rfl) (by kernel_rfl) (fun _ _ _ h => h) (by rfl) (by assumption) ?_ ?_
          rotate_left
          · (intro w hSw; (try dsimp only at hSw); go_simp; (try with_reducible rfl))
          simp only [Act.put, List.getElem_toArray, List.getElem_cons_succ, List.getElem_cons_zero, List.setIfInBounds_toArray, List.set_cons_zero, List.set_cons_succ]
          refine wpAnyH_pure (i := 4) (v := ?_) rfl (by kernel_rfl) (by kernel_rfl) (by kernel_rfl) (fun _ _ _ h => h) (by rfl) (by assumption) ?_ ?_
          rotate_left
          · (intro w hSw; (try dsimp only at hSw); go_simp; (try with_reducible rfl))
          simp only [Act.put, List.getElem_toArray, List.getElem_cons_succ, List.getElem_cons_zero, List.setIfInBounds_toArray, List.set_cons_zero, List.set_cons_succ]
          refine wpAnyH_pure (i := 5) (v := ?_) rfl (by kernel_rfl) (by kernel_rfl) (by kernel_rfl) (fun _ _ _ h => h) (by rfl) (by assumption) ?_ ?_
          rotate_left
          · (intro w hSw; (try dsimp only at hSw); go_simp; (try with_reducible rfl))
          simp only [Act.put, List.getElem_toArray, List.getElem_cons_succ, List.getElem_cons_zero, List.setIfInBounds_toArray, List.set_cons_zero, List.set_cons_succ]
          refine wpAnyH_ready (rs := [6]) (by kernel_rfl) (by simp) ?_
          refine AllReadyH.cons rfl (fun Kq hKq => ?_) AllReadyH.nil
          go_simp
          refine (K2.out _).mono ?_
          (rintro e w10 ⟨rfl, hw10⟩)
          obtain ⟨hcw10, hfw10, hlw10, hmw10, hnw10⟩ := bcell3 hw10
          have hzw10 := hw10.size
          (try simp only [World.size_alloc, World.size_setCell, World.size_drew, size_drewN] at hzw10)
          have cf10_0 : w10.cell? ⟨w.heap.size, 0, none⟩ = some (.int .i64 (fx)) := (hcw10 (w.heap.size) (0) (by first | omega | (simp only [World.size_alloc, World.size_drew, World.size_setCell, size_drewN]; omega))).trans (by first | assumption | (simp [go_sem, *]; done)); have cf10_1 : w10.cell? ⟨w.heap.size, 1, none⟩ = some (.int .i64 (fz)) := (hcw10 (w.heap.size) (1) (by first | omega | (simp only [World.size_alloc, World.size_drew, World.size_setCell, size_drewN]; omega))).trans (by first | assumption | (simp [go_sem, *]; done)); have of10 : w.heap.size < w10.heap.size := (by omega)
          clear cf9_0 cf9_1
          have ct10_0 : w10.cell? ⟨w.heap.size + 1, 0, none⟩ = some (.int .i64 (tx)) := (hcw10 (w.heap.size + 1) (0) (by first | omega | (simp only [World.size_alloc, World.size_drew, World.size_setCell, size_drewN]; omega))).trans (by first | assumption | (simp [go_sem, *]; done)); have ct10_1 : w10.cell? ⟨w.heap.size + 1, 1, none⟩ = some (.int .i64 (tz)) := (hcw10 (w.heap.size + 1) (1) (by first | omega | (simp only [World.size_alloc, World.size_drew, World.size_setCell, size_drewN]; omega))).trans (by first | assumption | (simp [go_sem, *]; done)); have ot10 : w.heap.size + 1 < w10.heap.size := (by omega)
          clear ct9_0 ct9_1
          have cs10_0 : w10.cell? ⟨gg, o + k * 4, none⟩ = some (.int .i64 (m0)) := (hcw10 (gg) (o + k * 4) (by first | omega | (simp only [World.size_alloc, World.size_drew, World.size_setCell, size_drewN]; omega))).trans (by first | assumption | (simp [go_sem, *]; done)); have cs10_1 : w10.cell? ⟨gg, o + k * 4 + 1, none⟩ = some (.int .i64 (m1)) := (hcw10 (gg) (o + k * 4 + 1) (by first | omega | (simp only [World.size_alloc, World.size_drew, World.size_setCell, size_drewN]; omega))).trans (by first | assumption | (simp [go_sem, *]; done)); have cs10_2 : w10.cell? ⟨gg, o + k * 4 + 2, none⟩ = some (.int .i64 (m2)) := (hcw10 (gg) (o + k * 4 + 2) (by first | omega | (simp only [World.size_alloc, World.size_drew, World.size_setCell, size_drewN]; omega))).trans (by first | assumption | (simp [go_sem, *]; done)); have cs10_3 : w10.cell? ⟨gg, o + k * 4 + 3, none⟩ = some (.int .i64 (m3)) := (hcw10 (gg) (o + k * 4 + 3) (by first | omega | (simp only [World.size_alloc, World.size_drew, World.size_setCell, size_drewN]; omega))).trans (by first | assumption | (simp [go_sem, *]; done)); have os10 : gg < w10.heap.size := (by omega)
          clear cs9_0 cs9_1 cs9_2 cs9_3
          refine hKq.out _ _ ?_ (fun hH4 => ?_)
          · (first | assumption | (refine ⟨?_, ?_, ?_, ?_, ?_, ?_, ?_, ?_⟩ <;> assumption) | (go_keep; done) | (simp [*, go_sem]; done))
          clear hKq Kq
          clear hH3
          refine wpAnyH_pure (i := 7) (v := ?_) rfl (by kernel_rfl) (by kernel_rfl) (by kernel_rfl) (fun _ _ _ h => h) (by rfl) (by assumption) ?_ ?_
          rotate_left
          · (intro w hSw; (try dsimp only at hSw); go_simp; (try with_reducible rfl))
          simp only [Act.put, List.getElem_toArray, List.getElem_cons_succ, List.getElem_cons_zero, List.setIfInBounds_toArray, List.set_cons_zero, List.set_cons_succ]
          refine wpAnyH_done (by kernel_rfl) ?_ _
          go_wp2
          go_ret2
          exact .inr ⟨by rw [HE2.out]; exact hdk, by rw [HE2.out]; rfl, by (repeat' (first | (with_reducible exact Below.refl _ _) | (with_reducible assumption) | (with_reducible refine Below.alloc ?_ ?_ _) | (with_reducible refine Below.drew ?_) | (with_reducible refine below_drewN ?_ _) | (with_reducible refine Below.setCell ?_ ?_ _) | (with_reducible refine below_step (by with_reducible assumption) ?_ ?_) | (with_reducible exact Below.size (by with_reducible assumption)) | go_size))⟩
      · rw [if_neg hck] at hgk
        have HE2 := Lib.hid ((eF_is HE.out (by rw [hgk]; exact hck) hlt).trans hgk)
        clear hgk
        generalize (M k).Wedge = m0 at *
        generalize (M k).Metal = m1 at *
        generalize (M k).Skips = m2 at *
        generalize (M k).Thick = m3 at *
        generalize c k = er at *
        go_wp2_with fail
        refine (K1.out _).mono ?_
        rintro e w9 ⟨rfl, hw9⟩
        have hzw9 := hw9.size
        go_wp2
        go_ret2
        exact .inr ⟨by rw [HE2.out]; exact hck, by rw [HE2.out]; rfl, by (repeat' (first | (with_reducible exact Below.refl _ _) | (with_reducible assumption) | (with_reducible refine Below.alloc ?_ ?_ _) | (with_reducible refine Below.drew ?_) | (with_reducible refine below_drewN ?_ _) | (with_reducible refine Below.setCell ?_ ?_ _) | (with_reducible refine below_step (by with_reducible assumption) ?_ ?_) | (with_reducible exact Below.size (by with_reducible assumption)) | go_size))⟩
    · have ek : k = N := by omega
      subst ek
      have e1 : ¬ (k : Int) < (k : Int) := by omega
      have e2 : (0 : Int) < (k : Int) := by omega
      have e3 : 0 < k := by omega
      have HZ3 := Lib.hid (eF_zero HE.out)
      obtain ⟨a0, a1, a2, a3⟩ := HC1.out 0 (by omega)
      have csr_0 : wr.cell? ⟨gg, o, none⟩ = some (.int .i64 (M 0).Wedge) := by have := (b _ _ hs2).trans a0; simpa using this
      have csr_1 : wr.cell? ⟨gg, o + 1, none⟩ = some (.int .i64 (M 0).Metal) := by have := (b _ _ hs2).trans a1; simpa using this
      have csr_2 : wr.cell? ⟨gg, o + 2, none⟩ = some (.int .i64 (M 0).Skips) := by have := (b _ _ hs2).trans a2; simpa using this
      have csr_3 : wr.cell? ⟨gg, o + 3, none⟩ = some (.int .i64 (M 0).Thick) := by have := (b _ _ hs2).trans a3; simpa using this
      clear a0 a1 a2 a3 b
      have K0 := Lib.hid (KT.out 0 (by omega) (HZ3.out 0 (by omega)))
      have HM0 := Lib.hid (show mnF H 0 = H 0 from rfl)
      generalize (M 0).Wedge = m0 at *
      generalize (M 0).Metal = m1 at *
      generalize (M 0).Skips = m2 at *
      generalize (M 0).Thick = m3 at *
      go_wp2
      refine wp_region_held_drew (S := fun w' => w'.cell? ⟨w.heap.size, 0, none⟩ = some (.int .i64 (fx)) ∧ w'.cell? ⟨w.heap.size, 1, none⟩ = some (.int .i64 (fz)) ∧ w'.cell? ⟨w.heap.size + 1, 0, none⟩ = some (.int .i64 (tx)) ∧ w'.cell? ⟨w.heap.size + 1, 1, none⟩ = some (.int .i64 (tz)) ∧ w'.cell? ⟨gg, o, none⟩ = some (.int .i64 (m0)) ∧ w'.cell? ⟨gg, o + 1, none⟩ = some (.int .i64 (m1)) ∧ w'.cell? ⟨gg, o + 2, none⟩ = some (.int .i64 (m2)) ∧ w'.cell? ⟨gg, o + 3, none⟩ = some (.int .i64 (m3))) (by kernel_rfl) ?_ (fun hH5 => ?_)
      · (first | assumption | (refine ⟨?_, ?_, ?_, ?_, ?_, ?_, ?_, ?_⟩ <;> assumption) | (go_keep; done) | (simp [*, go_sem]; done))
      refine wpAnyH_pure (i := 0) (v := ?_) rfl (by kernel_rfl) (by kernel_rfl) (by kernel_rfl) (fun _ _ _ h => h) (by rfl) (by assumption) ?_ ?_
      rotate_left
      · (intro w hSw; (try dsimp only at hSw); go_simp; (try with_reducible rfl))
      simp only [Act.put, List.getElem_toArray, List.getElem_cons_succ, List.getElem_cons_zero, List.setIfInBounds_toArray, List.set_cons_zero, List.set_cons_succ]
      refine wpAnyH_pure (i := 1) (v := ?_) rfl (by kernel_rfl) (by kernel_rfl) (by kernel_rfl) (fun _ _ _ h => h) (by rfl) (by assumption) ?_ ?_
      rotate_left
      · (intro w hSw; (try dsimp only at hSw); go_simp; (try with_reducible rfl))
      simp only [Act.put, List.getElem_toArray, List.getElem_cons_succ, List.getElem_cons_zero, List.setIfInBounds_toArray, List.set_cons_zero, List.set_cons_succ]
      refine wpAnyH_pure (i := 2) (v := ?_) rfl (by kernel_rfl) (by kernel_rfl) (by kernel_rfl) (fun _ _ _ h => h) (by rfl) (by assumption) ?_ ?_
      rotate_left
      · (intro w hSw; (try dsimp only at hSw); go_simp; (try with_reducible rfl))
      simp only [Act.put, List.getElem_toArray, List.getElem_cons_succ, List.getElem_cons_zero, List.setIfInBounds_toArray, List.set_cons_zero, List.set_cons_succ]
      refine wpAnyH_pure (i := 3) (v := ?_) rfl (by kernel_rfl) (by kernel_rfl) (by kernel_rfl) (fun _ _ _ h => h) (by rfl) (by assumption) ?_ ?_
      rotate_left
      · (intro w hSw; (try dsimp only at hSw); go_simp; (try with_reducible rfl))
      simp only [Act.put, List.getElem_toArray, List.getElem_cons_succ, List.getElem_cons_zero, List.setIfInBounds_toArray, List.set_cons_zero, List.set_cons_succ]
      refine wpAnyH_pure (i := 4) (v := ?_) rfl (by kernel_rfl) (by kernel_rfl) (by kernel_rfl) (fun _ _ _ h => h) (by rfl) (by assumption) ?_ ?_
      rotate_left
      · (intro w hSw; (try dsimp only at hSw); go_simp; (try with_reducible rfl))
      simp only [Act.put, List.getElem_toArray, List.getElem_cons_succ, List.getElem_cons_zero, List.setIfInBounds_toArray, List.set_cons_zero, List.set_cons_succ]
      refine wpAnyH_ready (rs := [5]) (by kernel_rfl) (by simp) ?_
      refine AllReadyH.cons rfl (fun Kq hKq => ?_) AllReadyH.nil
      go_simp
      refine (K0.out _).mono ?_
      (rintro e w11 ⟨rfl, hw11⟩)
      obtain ⟨hcw11, hfw11, hlw11, hmw11, hnw11⟩ := bcell3 hw11
      have hzw11 := hw11.size
      (try simp only [World.size_alloc, World.size_setCell, World.size_drew, size_drewN] at hzw11)
      have cf11_0 : w11.cell? ⟨w.heap.size, 0, none⟩ = some (.int .i64 (fx)) := (hcw11 (w.heap.size) (0) (by first | omega | (simp only [World.size_alloc, World.size_drew, World.size_setCell, size_drewN]; omega))).trans (by first | assumption | (simp [go_sem, *]; done)); have cf11_1 : w11.cell? ⟨w.heap.size, 1, none⟩ = some (.int .i64 (fz)) := (hcw11 (w.heap.size) (1) (by first | omega | (simp only [World.size_alloc, World.size_drew, World.size_setCell, size_drewN]; omega))).trans (by first | assumption | (simp [go_sem, *]; done)); have of11 : w.heap.size < w11.heap.size := (by omega)
      clear cfr_0 cfr_1
      have ct11_0 : w11.cell? ⟨w.heap.size + 1, 0, none⟩ = some (.int .i64 (tx)) := (hcw11 (w.heap.size + 1) (0) (by first | omega | (simp only [World.size_alloc, World.size_drew, World.size_setCell, size_drewN]; omega))).trans (by first | assumption | (simp [go_sem, *]; done)); have ct11_1 : w11.cell? ⟨w.heap.size + 1, 1, none⟩ = some (.int .i64 (tz)) := (hcw11 (w.heap.size + 1) (1) (by first | omega | (simp only [World.size_alloc, World.size_drew, World.size_setCell, size_drewN]; omega))).trans (by first | assumption | (simp [go_sem, *]; done)); have ot11 : w.heap.size + 1 < w11.heap.size := (by omega)
      clear ctr_0 ctr_1
      have cs11_0 : w11.cell? ⟨gg, o, none⟩ = some (.int .i64 (m0)) := (hcw11 (gg) (o) (by first | omega | (simp only [World.size_alloc, World.size_drew, World.size_setCell, size_drewN]; omega))).trans (by first | assumption | (simp [go_sem, *]; done)); have cs11_1 : w11.cell? ⟨gg, o + 1, none⟩ = some (.int .i64 (m1)) := (hcw11 (gg) (o + 1) (by first | omega | (simp only [World.size_alloc, World.size_drew, World.size_setCell, size_drewN]; omega))).trans (by first | assumption | (simp [go_sem, *]; done)); have cs11_2 : w11.cell? ⟨gg, o + 2, none⟩ = some (.int .i64 (m2)) := (hcw11 (gg) (o + 2) (by first | omega | (simp only [World.size_alloc, World.size_drew, World.size_setCell, size_drewN]; omega))).trans (by first | assumption | (simp [go_sem, *]; done)); have cs11_3 : w11.cell? ⟨gg, o + 3, none⟩ = some (.int .i64 (m3)) := (hcw11 (gg) (o + 3) (by first | omega | (simp only [World.size_alloc, World.size_drew, World.size_setCell, size_drewN]; omega))).trans (by first | assumption | (simp [go_sem, *]; done)); have os11 : gg < w11.heap.size := (by omega)
      clear csr_0 csr_1 csr_2 csr_3
      refine hKq.out _ _ ?_ (fun hH6 => ?_)
      · (first | assumption | (refine ⟨?_, ?_, ?_, ?_, ?_, ?_, ?_, ?_⟩ <;> assumption) | (go_keep; done) | (simp [*, go_sem]; done))
      clear hKq Kq
      clear hH5
      refine wpAnyH_pure (i := 6) (v := ?_) rfl (by kernel_rfl) (by kernel_rfl) (by kernel_rfl) (fun _ _ _ h => h) (by rfl) (by assumption) ?_ ?_
      rotate_left
      · (intro w hSw; (try dsimp only at hSw); go_simp; (try with_reducible rfl))
      simp only [Act.put, List.getElem_toArray, List.getElem_cons_succ, List.getElem_cons_zero, List.setIfInBounds_toArray, List.set_cons_zero, List.set_cons_succ]
      refine wpAnyH_pure (i := 7) (v := ?_) rfl (by kernel_rfl) (by kernel_rfl) (by kernel_rfl) (fun _ _ _ h => h) (by rfl) (by assumption) ?_ ?_
      rotate_left
      · (intro w hSw; (try dsimp only at hSw); go_simp; (try with_reducible rfl))
      simp only [Act.put, List.getElem_toArray, List.getElem_cons_succ, List.getElem_cons_zero, List.setIfInBounds_toArray, List.set_cons_zero, List.set_cons_succ]
      refine wpAnyH_done (by kernel_rfl) ?_ _
      clear hcw11 hfw11 hlw11 hmw11 hnw11 cf11_0 cf11_1 ct11_0 ct11_1 cs11_0 cs11_1 cs11_2 cs11_3
      have hB11 : Below w1.heap.size w1 w11 := by (repeat' (first | (with_reducible exact Below.refl _ _) | (with_reducible assumption) | (with_reducible refine Below.alloc ?_ ?_ _) | (with_reducible refine Below.drew ?_) | (with_reducible refine below_drewN ?_ _) | (with_reducible refine Below.setCell ?_ ?_ _) | (with_reducible refine below_step (by with_reducible assumption) ?_ ?_) | (with_reducible exact Below.size (by with_reducible assumption)) | go_size))
      clear hB hbr hw11
      go_wp2
      go_loopw [11, 12] (fun m i ws => ∃ j : Nat, j ≤ k ∧ i = .int .i64 (j : Int) ∧ m = .int .i64 (mnF H j) ∧ Below w1.heap.size w1 ws) (fun _ i _ => k - (intOf i).toNat)
      case atStart => exact ⟨0, Nat.zero_le _, rfl, by rw [HM0.out], hB11⟩
      case round =>
        clear e1 e2 e3
        obtain ⟨j, hj, rfl, rfl, hBs⟩ := hrel
        have hzs := hBs.size
        have b := (bcell hBs).1
        have cfr_0 := (b _ _ hs0).trans cf1_0
        have cfr_1 := (b _ _ hs0).trans cf1_1
        have ctr_0 := (b _ _ hs1).trans ct1_0
        have ctr_1 := (b _ _ hs1).trans ct1_1
        have ofr : w.heap.size < wr.heap.size := by omega
        have otr : w.heap.size + 1 < wr.heap.size := by omega
        have osr : gg < wr.heap.size := by omega
        by_cases hlj : j < k
        · have HM := Lib.hid (show mnF H (j + 1) = min (mnF H j) (H j) from rfl)
          obtain ⟨a0, a1, a2, a3⟩ := HC1.out j (by omega)
          have csr_0 := (b _ _ hs2).trans a0
          have csr_1 := (b _ _ hs2).trans a1
          have csr_2 := (b _ _ hs2).trans a2
          have csr_3 := (b _ _ hs2).trans a3
          clear a0 a1 a2 a3 b
          have e0 : (0 : Int) ≤ (j : Int) := by omega
          have e1 : (j : Int) < (k : Int) := by omega
          have e4 : j < k := hlj
          have K1 := Lib.hid (KT.out j (by omega) (HZ3.out j (by omega)))
          generalize (M j).Wedge = m0 at *
          generalize (M j).Metal = m1 at *
          generalize (M j).Skips = m2 at *
          generalize (M j).Thick = m3 at *
          generalize mnF H j = mm at *
          generalize H j = hi at *
          generalize L j = lo at *
          go_wp2
          refine wp_region_held_drew (S := fun w' => w'.cell? ⟨w.heap.size, 0, none⟩ = some (.int .i64 (fx)) ∧ w'.cell? ⟨w.heap.size, 1, none⟩ = some (.int .i64 (fz)) ∧ w'.cell? ⟨w.heap.size + 1, 0, none⟩ = some (.int .i64 (tx)) ∧ w'.cell? ⟨w.heap.size + 1, 1, none⟩ = some (.int .i64 (tz)) ∧ w'.cell? ⟨gg, o + j * 4, none⟩ = some (.int .i64 (m0)) ∧ w'.cell? ⟨gg, o + j * 4 + 1, none⟩ = some (.int .i64 (m1)) ∧ w'.cell? ⟨gg, o + j * 4 + 2, none⟩ = some (.int .i64 (m2)) ∧ w'.cell? ⟨gg, o + j * 4 + 3, none⟩ = some (.int .i64 (m3))) (by kernel_rfl) ?_ (fun hH7 => ?_)
          · (first | assumption | (refine ⟨?_, ?_, ?_, ?_, ?_, ?_, ?_, ?_⟩ <;> assumption) | (go_keep; done) | (simp [*, go_sem]; done))
          refine wpAnyH_pure (i := 0) (v := ?_) rfl (by kernel_rfl) (by kernel_rfl) (by kernel_rfl) (fun _ _ _ h => h) (by rfl) (by assumption) ?_ ?_
          rotate_left
          · (intro w hSw; (try dsimp only at hSw); go_simp; (try with_reducible rfl))
          simp only [Act.put, List.getElem_toArray, List.getElem_cons_succ, List.getElem_cons_zero, List.setIfInBounds_toArray, List.set_cons_zero, List.set_cons_succ]
          refine wpAnyH_pure (i := 1) (v := ?_) rfl (by kernel_rfl) (by kernel_rfl) (by kernel_rfl) (fun _ _ _ h => h) (by rfl) (by assumption) ?_ ?_
          rotate_left
          · (intro w hSw; (try dsimp only at hSw); go_simp; (try with_reducible rfl))
          simp only [Act.put, List.getElem_toArray, List.getElem_cons_succ, List.getElem_cons_zero, List.setIfInBounds_toArray, List.set_cons_zero, List.set_cons_succ]
          refine wpAnyH_pure (i := 2) (v := ?_) rfl (by kernel_rfl) (by kernel_rfl) (by kernel_rfl) (fun _ _ _ h => h) (by rfl) (by assumption) ?_ ?_
          rotate_left
          · (intro w hSw; (try dsimp only at hSw); go_simp; (try with_reducible rfl))
          simp only [Act.put, List.getElem_toArray, List.getElem_cons_succ, List.getElem_cons_zero, List.setIfInBounds_toArray, List.set_cons_zero, List.set_cons_succ]
          refine wpAnyH_pure (i := 3) (v := ?_) rfl (by kernel_rfl) (by kernel_rfl) (by kernel_rfl) (fun _ _ _ h => h) (by rfl) (by assumption) ?_ ?_
          rotate_left
          · (intro w hSw; (try dsimp only at hSw); go_simp; (try with_reducible rfl))
          simp only [Act.put, List.getElem_toArray, List.getElem_cons_succ, List.getElem_cons_zero, List.setIfInBounds_toArray, List.set_cons_zero, List.set_cons_succ]
          refine wpAnyH_pure (i := 4) (v := ?_) rfl (by kernel_rfl) (by kernel_rfl) (by kernel_rfl) (fun _ _ _ h => h) (by rfl) (by assumption) ?_ ?_
          rotate_left
          · (intro w hSw; (try dsimp only at hSw); go_simp; (try with_reducible rfl))
          simp only [Act.put, List.getElem_toArray, List.getElem_cons_succ, List.getElem_cons_zero, List.setIfInBounds_toArray, List.set_cons_zero, List.set_cons_succ]
          refine wpAnyH_pure (i := 5) (v := ?_) rfl (by kernel_rfl) (by kernel_rfl) (by kernel_rfl) (fun _ _ _ h => h) (by rfl) (by assumption) ?_ ?_
          rotate_left
          · (intro w hSw; (try dsimp only at hSw); go_simp; (try with_reducible rfl))
          simp only [Act.put, List.getElem_toArray, List.getElem_cons_succ, List.getElem_cons_zero, List.setIfInBounds_toArray, List.set_cons_zero, List.set_cons_succ]
          refine wpAnyH_pure (i := 6) (v := ?_) rfl (by kernel_rfl) (by kernel_rfl) (by kernel_rfl) (fun _ _ _ h => h) (by rfl) (by assumption) ?_ ?_
          rotate_left
          · (intro w hSw; (try dsimp only at hSw); go_simp; (try with_reducible rfl))
          simp only [Act.put, List.getElem_toArray, List.getElem_cons_succ, List.getElem_cons_zero, List.setIfInBounds_toArray, List.set_cons_zero, List.set_cons_succ]
          refine wpAnyH_ready (rs := [7]) (by kernel_rfl) (by simp) ?_
          refine AllReadyH.cons rfl (fun Kq hKq => ?_) AllReadyH.nil
          go_simp
          refine (K1.out _).mono ?_
          (rintro e w10 ⟨rfl, hw10⟩)
          obtain ⟨hcw10, hfw10, hlw10, hmw10, hnw10⟩ := bcell3 hw10
          have hzw10 := hw10.size
          (try simp only [World.size_alloc, World.size_setCell, World.size_drew, size_drewN] at hzw10)
          have cf10_0 : w10.cell? ⟨w.heap.size, 0, none⟩ = some (.int .i64 (fx)) := (hcw10 (w.heap.size) (0) (by first | omega | (simp only [World.size_alloc, World.size_drew, World.size_setCell, size_drewN]; omega))).trans (by first | assumption | (simp [go_sem, *]; done)); have cf10_1 : w10.cell? ⟨w.heap.size, 1, none⟩ = some (.int .i64 (fz)) := (hcw10 (w.heap.size) (1) (by first | omega | (simp only [World.size_alloc, World.size_drew, World.size_setCell, size_drewN]; omega))).trans (by first | assumption | (simp [go_sem, *]; done)); have of10 : w.heap.size < w10.heap.size := (by omega)
          clear cfr_0 cfr_1
          have ct10_0 : w10.cell? ⟨w.heap.size + 1, 0, none⟩ = some (.int .i64 (tx)) := (hcw10 (w.heap.size + 1) (0) (by first | omega | (simp only [World.size_alloc, World.size_drew, World.size_setCell, size_drewN]; omega))).trans (by first | assumption | (simp [go_sem, *]; done)); have ct10_1 : w10.cell? ⟨w.heap.size + 1, 1, none⟩ = some (.int .i64 (tz)) := (hcw10 (w.heap.size + 1) (1) (by first | omega | (simp only [World.size_alloc, World.size_drew, World.size_setCell, size_drewN]; omega))).trans (by first | assumption | (simp [go_sem, *]; done)); have ot10 : w.heap.size + 1 < w10.heap.size := (by omega)
          clear ctr_0 ctr_1
          have cs10_0 : w10.cell? ⟨gg, o + j * 4, none⟩ = some (.int .i64 (m0)) := (hcw10 (gg) (o + j * 4) (by first | omega | (simp only [World.size_alloc, World.size_drew, World.size_setCell, size_drewN]; omega))).trans (by first | assumption | (simp [go_sem, *]; done)); have cs10_1 : w10.cell? ⟨gg, o + j * 4 + 1, none⟩ = some (.int .i64 (m1)) := (hcw10 (gg) (o + j * 4 + 1) (by first | omega | (simp only [World.size_alloc, World.size_drew, World.size_setCell, size_drewN]; omega))).trans (by first | assumption | (simp [go_sem, *]; done)); have cs10_2 : w10.cell? ⟨gg, o + j * 4 + 2, none⟩ = some (.int .i64 (m2)) := (hcw10 (gg) (o + j * 4 + 2) (by first | omega | (simp only [World.size_alloc, World.size_drew, World.size_setCell, size_drewN]; omega))).trans (by first | assumption | (simp [go_sem, *]; done)); have cs10_3 : w10.cell? ⟨gg, o + j * 4 + 3, none⟩ = some (.int .i64 (m3)) := (hcw10 (gg) (o + j * 4 + 3) (by first | omega | (simp only [World.size_alloc, World.size_drew, World.size_setCell, size_drewN]; omega))).trans (by first | assumption | (simp [go_sem, *]; done)); have os10 : gg < w10.heap.size := (by omega)
          clear csr_0 csr_1 csr_2 csr_3
          refine hKq.out _ _ ?_ (fun hH8 => ?_)
          · (first | assumption | (refine ⟨?_, ?_, ?_, ?_, ?_, ?_, ?_, ?_⟩ <;> assumption) | (go_keep; done) | (simp [*, go_sem]; done))
          clear hKq Kq
          clear hH7
          refine wpAnyH_pure (i := 8) (v := ?_) rfl (by kernel_rfl) (by kernel_rfl) (by kernel_rfl) (fun _ _ _ h => h) (by rfl) (by assumption) ?_ ?_
          rotate_left
          · (intro w hSw; (try dsimp only at hSw); go_simp; (try with_reducible rfl))
          simp only [Act.put, List.getElem_toArray, List.getElem_cons_succ, List.getElem_cons_zero, List.setIfInBounds_toArray, List.set_cons_zero, List.set_cons_succ]
          refine wpAnyH_pure (i := 9) (v := ?_) rfl (by kernel_rfl) (by kernel_rfl) (by kernel_rfl) (fun _ _ _ h => h) (by rfl) (by assumption) ?_ ?_
          rotate_left
          · (intro w hSw; (try dsimp only at hSw); go_simp; (try with_reducible rfl))
          simp only [Act.put, List.getElem_toArray, List.getElem_cons_succ, List.getElem_cons_zero, List.setIfInBounds_toArray, List.set_cons_zero, List.set_cons_succ]
          refine wpAnyH_pure (i := 10) (v := ?_) rfl (by kernel_rfl) (by kernel_rfl) (by kernel_rfl) (fun _ _ _ h => h) (by rfl) (by assumption) ?_ ?_
          rotate_left
          · (intro w hSw; (try dsimp only at hSw); go_simp; (try with_reducible rfl))
          simp only [Act.put, List.getElem_toArray, List.getElem_cons_succ, List.getElem_cons_zero, List.setIfInBounds_toArray, List.set_cons_zero, List.set_cons_succ]
          refine wpAnyH_done (by kernel_rfl) ?_ _
          go_wp2
          go_roundw
          case rel => exact ⟨j + 1, by omega, by go_num, by rw [HM.out], by (repeat' (first | (with_reducible exact Below.refl _ _) | (with_reducible assumption) | (with_reducible refine Below.alloc ?_ ?_ _) | (with_reducible refine Below.drew ?_) | (with_reducible refine below_drewN ?_ _) | (with_reducible refine Below.setCell ?_ ?_ _) | (with_reducible refine below_step (by with_reducible assumption) ?_ ?_) | (with_reducible exact Below.size (by with_reducible assumption)) | go_size))⟩
          case measure => simp [intOf]; omega
        · have ej : j = k := by omega
          subst ej
          have e1 : ¬ (j : Int) < (j : Int) := by omega
          have EM := Lib.hid (show mnF H j = mnF H j from rfl)
          clear b cfr_0 cfr_1 ctr_0 ctr_1 ofr otr osr
          generalize hEq : mnF H j = E at *
          have HEq := Lib.hid hEq
          clear hEq EM
          go_wp2
          go_loopw [13, 14] (fun v i wt => ∃ n : Nat, n ≤ j ∧ i = .int .i64 (n : Int) ∧ wt.ownsRow w1.heap.size 3 1 v (selI L E n).length (vI (selI L E n)) ∧ Below w1.heap.size w1 wt) (fun _ i _ => j - (intOf i).toNat)
          case atStart => exact ⟨0, Nat.zero_le _, rfl, World.ownsRow_nil _ _ _ _, hBs⟩
          case round =>
            clear e1
            obtain ⟨n, hn, rfl, hown, hBt⟩ := hrel
            have hzt := hBt.size
            have hO := Lib.hid hown
            clear hown
            have b := (bcell hBt).1
            have cfr_0 := (b _ _ hs0).trans cf1_0
            have cfr_1 := (b _ _ hs0).trans cf1_1
            have ctr_0 := (b _ _ hs1).trans ct1_0
            have ctr_1 := (b _ _ hs1).trans ct1_1
            have ofr : w.heap.size < wr.heap.size := by omega
            have otr : w.heap.size + 1 < wr.heap.size := by omega
            have osr : gg < wr.heap.size := by omega
            by_cases hln : n < j
            · obtain ⟨a0, a1, a2, a3⟩ := HC1.out n (by omega)
              have csr_0 := (b _ _ hs2).trans a0
              have csr_1 := (b _ _ hs2).trans a1
              have csr_2 := (b _ _ hs2).trans a2
              have csr_3 := (b _ _ hs2).trans a3
              clear a0 a1 a2 a3 b
              have e0 : (0 : Int) ≤ (n : Int) := by omega
              have e1 : (n : Int) < (j : Int) := by omega
              have K1 := Lib.hid (KT.out n (by omega) (HZ3.out n (by omega)))
              have HS := Lib.hid (selI_succ L E n)
              have hlen := selI_len L E n
              generalize (M n).Wedge = m0 at *
              generalize (M n).Metal = m1 at *
              generalize (M n).Skips = m2 at *
              generalize (M n).Thick = m3 at *
              generalize H n = hi at *
              go_wp2
              refine wp_region_held_drew (S := fun w' => w'.cell? ⟨w.heap.size, 0, none⟩ = some (.int .i64 (fx)) ∧ w'.cell? ⟨w.heap.size, 1, none⟩ = some (.int .i64 (fz)) ∧ w'.cell? ⟨w.heap.size + 1, 0, none⟩ = some (.int .i64 (tx)) ∧ w'.cell? ⟨w.heap.size + 1, 1, none⟩ = some (.int .i64 (tz)) ∧ w'.cell? ⟨gg, o + n * 4, none⟩ = some (.int .i64 (m0)) ∧ w'.cell? ⟨gg, o + n * 4 + 1, none⟩ = some (.int .i64 (m1)) ∧ w'.cell? ⟨gg, o + n * 4 + 2, none⟩ = some (.int .i64 (m2)) ∧ w'.cell? ⟨gg, o + n * 4 + 3, none⟩ = some (.int .i64 (m3))) (by kernel_rfl) ?_ (fun hH9 => ?_)
              · (first | assumption | (refine ⟨?_, ?_, ?_, ?_, ?_, ?_, ?_, ?_⟩ <;> assumption) | (go_keep; done) | (simp [*, go_sem]; done))
              refine wpAnyH_pure (i := 0) (v := ?_) rfl (by kernel_rfl) (by kernel_rfl) (by kernel_rfl) (fun _ _ _ h => h) (by rfl) (by assumption) ?_ ?_
              rotate_left
              · (intro w hSw; (try dsimp only at hSw); go_simp; (try with_reducible rfl))
              simp only [Act.put, List.getElem_toArray, List.getElem_cons_succ, List.getElem_cons_zero, List.setIfInBounds_toArray, List.set_cons_zero, List.set_cons_succ]
              refine wpAnyH_pure (i := 1) (v := ?_) rfl (by kernel_rfl) (by kernel_rfl) (by kernel_rfl) (fun _ _ _ h => h) (by rfl) (by assumption) ?_ ?_
              rotate_left
              · (intro w hSw; (try dsimp only at hSw); go_simp; (try with_reducible rfl))
              simp only [Act.put, List.getElem_toArray, List.getElem_cons_succ, List.getElem_cons_zero, List.setIfInBounds_toArray, List.set_cons_zero, List.set_cons_succ]
              refine wpAnyH_pure (i := 2) (v := ?_) rfl (by kernel_rfl) (by kernel_rfl) (by kernel_rfl) (fun _ _ _ h => h) (by rfl) (by assumption) ?_ ?_
              rotate_left
              · (intro w hSw; (try dsimp only at hSw); go_simp; (try with_reducible rfl))
              simp only [Act.put, List.getElem_toArray, List.getElem_cons_succ, List.getElem_cons_zero, List.setIfInBounds_toArray, List.set_cons_zero, List.set_cons_succ]
              refine wpAnyH_pure (i := 3) (v := ?_) rfl (by kernel_rfl) (by kernel_rfl) (by kernel_rfl) (fun _ _ _ h => h) (by rfl) (by assumption) ?_ ?_
              rotate_left
              · (intro w hSw; (try dsimp only at hSw); go_simp; (try with_reducible rfl))
              simp only [Act.put, List.getElem_toArray, List.getElem_cons_succ, List.getElem_cons_zero, List.setIfInBounds_toArray, List.set_cons_zero, List.set_cons_succ]
              refine wpAnyH_pure (i := 4) (v := ?_) rfl (by kernel_rfl) (by kernel_rfl) (by kernel_rfl) (fun _ _ _ h => h) (by rfl) (by assumption) ?_ ?_
              rotate_left
              · (intro w hSw; (try dsimp only at hSw); go_simp; (try with_reducible rfl))
              simp only [Act.put, List.getElem_toArray, List.getElem_cons_succ, List.getElem_cons_zero, List.setIfInBounds_toArray, List.set_cons_zero, List.set_cons_succ]
              refine wpAnyH_pure (i := 5) (v := ?_) rfl (by kernel_rfl) (by kernel_rfl) (by kernel_rfl) (fun _ _ _ h => h) (by rfl) (by assumption) ?_ ?_
              rotate_left
              · (intro w hSw; (try dsimp only at hSw); go_simp; (try with_reducible rfl))
              simp only [Act.put, List.getElem_toArray, List.getElem_cons_succ, List.getElem_cons_zero, List.setIfInBounds_toArray, List.set_cons_zero, List.set_cons_succ]
              refine wpAnyH_pure (i := 8) (v := ?_) rfl (by kernel_rfl) (by kernel_rfl) (by kernel_rfl) (fun _ _ _ h => h) (by rfl) (by assumption) ?_ ?_
              rotate_left
              · (intro w hSw; (try dsimp only at hSw); go_simp; (try with_reducible rfl))
              simp only [Act.put, List.getElem_toArray, List.getElem_cons_succ, List.getElem_cons_zero, List.setIfInBounds_toArray, List.set_cons_zero, List.set_cons_succ]
              refine wpAnyH_ready (rs := [6]) (by kernel_rfl) (by simp) ?_
              refine AllReadyH.cons rfl (fun Kq hKq => ?_) AllReadyH.nil
              go_simp
              refine (K1.out _).mono ?_
              (rintro e w12 ⟨rfl, hw12⟩)
              obtain ⟨hcw12, hfw12, hlw12, hmw12, hnw12⟩ := bcell3 hw12
              have hzw12 := hw12.size
              (try simp only [World.size_alloc, World.size_setCell, World.size_drew, size_drewN] at hzw12)
              have cf12_0 : w12.cell? ⟨w.heap.size, 0, none⟩ = some (.int .i64 (fx)) := (hcw12 (w.heap.size) (0) (by first | omega | (simp only [World.size_alloc, World.size_drew, World.size_setCell, size_drewN]; omega))).trans (by first | assumption | (simp [go_sem, *]; done)); have cf12_1 : w12.cell? ⟨w.heap.size, 1, none⟩ = some (.int .i64 (fz)) := (hcw12 (w.heap.size) (1) (by first | omega | (simp only [World.size_alloc, World.size_drew, World.size_setCell, size_drewN]; omega))).trans (by first | assumption | (simp [go_sem, *]; done)); have of12 : w.heap.size < w12.heap.size := (by omega)
              clear cfr_0 cfr_1
              have ct12_0 : w12.cell? ⟨w.heap.size + 1, 0, none⟩ = some (.int .i64 (tx)) := (hcw12 (w.heap.size + 1) (0) (by first | omega | (simp only [World.size_alloc, World.size_drew, World.size_setCell, size_drewN]; omega))).trans (by first | assumption | (simp [go_sem, *]; done)); have ct12_1 : w12.cell? ⟨w.heap.size + 1, 1, none⟩ = some (.int .i64 (tz)) := (hcw12 (w.heap.size + 1) (1) (by first | omega | (simp only [World.size_alloc, World.size_drew, World.size_setCell, size_drewN]; omega))).trans (by first | assumption | (simp [go_sem, *]; done)); have ot12 : w.heap.size + 1 < w12.heap.size := (by omega)
              clear ctr_0 ctr_1
              have cs12_0 : w12.cell? ⟨gg, o + n * 4, none⟩ = some (.int .i64 (m0)) := (hcw12 (gg) (o + n * 4) (by first | omega | (simp only [World.size_alloc, World.size_drew, World.size_setCell, size_drewN]; omega))).trans (by first | assumption | (simp [go_sem, *]; done)); have cs12_1 : w12.cell? ⟨gg, o + n * 4 + 1, none⟩ = some (.int .i64 (m1)) := (hcw12 (gg) (o + n * 4 + 1) (by first | omega | (simp only [World.size_alloc, World.size_drew, World.size_setCell, size_drewN]; omega))).trans (by first | assumption | (simp [go_sem, *]; done)); have cs12_2 : w12.cell? ⟨gg, o + n * 4 + 2, none⟩ = some (.int .i64 (m2)) := (hcw12 (gg) (o + n * 4 + 2) (by first | omega | (simp only [World.size_alloc, World.size_drew, World.size_setCell, size_drewN]; omega))).trans (by first | assumption | (simp [go_sem, *]; done)); have cs12_3 : w12.cell? ⟨gg, o + n * 4 + 3, none⟩ = some (.int .i64 (m3)) := (hcw12 (gg) (o + n * 4 + 3) (by first | omega | (simp only [World.size_alloc, World.size_drew, World.size_setCell, size_drewN]; omega))).trans (by first | assumption | (simp [go_sem, *]; done)); have os12 : gg < w12.heap.size := (by omega)
              clear csr_0 csr_1 csr_2 csr_3
              refine hKq.out _ _ ?_ (fun hH10 => ?_)
              · (first | assumption | (refine ⟨?_, ?_, ?_, ?_, ?_, ?_, ?_, ?_⟩ <;> assumption) | (go_keep; done) | (simp [*, go_sem]; done))
              clear hKq Kq
              clear hH9
              refine wpAnyH_pure (i := 7) (v := ?_) rfl (by kernel_rfl) (by kernel_rfl) (by kernel_rfl) (fun _ _ _ h => h) (by rfl) (by assumption) ?_ ?_
              rotate_left
              · (intro w hSw; (try dsimp only at hSw); go_simp; (try with_reducible rfl))
              simp only [Act.put, List.getElem_toArray, List.getElem_cons_succ, List.getElem_cons_zero, List.setIfInBounds_toArray, List.set_cons_zero, List.set_cons_succ]
              refine wpAnyH_pure (i := 9) (v := ?_) rfl (by kernel_rfl) (by kernel_rfl) (by kernel_rfl) (fun _ _ _ h => h) (by rfl) (by assumption) ?_ ?_
              rotate_left
              · (intro w hSw; (try dsimp only at hSw); go_simp; (try with_reducible rfl))
              simp only [Act.put, List.getElem_toArray, List.getElem_cons_succ, List.getElem_cons_zero, List.setIfInBounds_toArray, List.set_cons_zero, List.set_cons_succ]
              refine wpAnyH_done (by kernel_rfl) ?_ _
              have O12 := Lib.hid (ownsRow_below hO.out (show Below wr.heap.size wr w12 by (repeat' (first | (with_reducible exact Below.refl _ _) | (with_reducible assumption) | (with_reducible refine Below.alloc ?_ ?_ _) | (with_reducible refine Below.drew ?_) | (with_reducible refine below_drewN ?_ _) | (with_reducible refine Below.setCell ?_ ?_ _) | (with_reducible refine below_step (by with_reducible assumption) ?_ ?_) | (with_reducible exact Below.size (by with_reducible assumption)) | go_size))))
              have hb12 : Below w1.heap.size w1 w12 := by (repeat' (first | (with_reducible exact Below.refl _ _) | (with_reducible assumption) | (with_reducible refine Below.alloc ?_ ?_ _) | (with_reducible refine Below.drew ?_) | (with_reducible refine below_drewN ?_ _) | (with_reducible refine Below.setCell ?_ ?_ _) | (with_reducible refine below_step (by with_reducible assumption) ?_ ?_) | (with_reducible exact Below.size (by with_reducible assumption)) | go_size))
              clear hcw12 hfw12 hlw12 hmw12 hnw12
              by_cases hL : L n ≤ E
              · have hS := HS.out
                rw [if_pos hL] at hS
                have HS2 := Lib.hid hS
                clear hS HS
                go_wp2_with (at_builtin; refine wpList_append_own _ rfl (.tmp 84) (.tmp 86) 89 rfl w1.heap.size 3 i0 (.int .i64 0) 1 8 Try.underlying89 HI.out HZ.out HZ1.out HZ2.out rfl (by decide) _ _ _ rfl (O12.out.alloc _) ⟨w12.heap.size, 0, none⟩ 1 1 [.int .i64 (n : Int)] rfl rfl ?c1 ?c2 ?c3 ?c4 ?c5 ?_)
                case c1 =>
                  intro i u hi
                  match i, hi with
                  | 0, hi => simp at hi; subst hi; simp [Addr.add]
                case c2 => intro u hu; simp at hu; subst hu; rfl
                case c3 => unfold maxLen; omega
                case c4 => omega
                case c5 => simp; omega
                intro v' wA hown' hgrow _
                have hO' := Lib.hid hown'
                have hBA : Below w1.heap.size w1 wA := Below.grown (by (repeat' (first | (with_reducible exact Below.refl _ _) | (with_reducible assumption) | (with_reducible refine Below.alloc ?_ ?_ _) | (with_reducible refine Below.drew ?_) | (with_reducible refine below_drewN ?_ _) | (with_reducible refine Below.setCell ?_ ?_ _) | (with_reducible refine below_step (by with_reducible assumption) ?_ ?_) | (with_reducible exact Below.size (by with_reducible assumption)) | go_size))) hgrow (by simp; omega) (fun b hb => (O12.out.lt b hb).1)
                clear hown' hgrow
                go_wp2
                go_roundw
                case rel =>
                  refine ⟨n + 1, by omega, by go_num, ?_, hBA⟩
                  rw [HS2.out, List.length_append, vI, List.map_append]
                  exact hO'.out
                case measure => simp [intOf]; omega
              · have hS := HS.out
                rw [if_neg hL] at hS
                have HS2 := Lib.hid hS
                clear hS HS
                go_wp2
                go_roundw
                case rel => exact ⟨n + 1, by omega, by go_num, by rw [HS2.out]; exact O12.out, hb12⟩
                case measure => simp [intOf]; omega
            · have en : n = j := by omega
              subst en
              have e1 : ¬ (n : Int) < (n : Int) := by omega
              have hbt : Below w.heap.size w wr := hb1.trans (hBt.mono (by omega))
              clear b cfr_0 cfr_1 ctr_0 ctr_1
              go_wp2
              go_ret2
              exact .inl ⟨HE.out, _, rfl, by rw [HEq.out]; exact hO.out.mono (by omega), hbt⟩
end Go.Proofs.Ytpphnnbijmoodaa
