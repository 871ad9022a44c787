/-
  THE CROSSING OF LEAST TIME: it is one place alone; package ray finds it by sort.Search, the reference by halves.
-/
import Derived.Test.YtpphnnbijmoodaaSlopes
set_option linter.unusedVariables false
set_option linter.unusedSimpArgs false
namespace Go.Proofs.Ytpphnnbijmoodaa
open Go.RowKit

/-! ### plain: the slope never falls -/
theorem mono_core {p q p' q' K L A B : Int} (hp : 0 ≤ p) (hq : 0 ≤ q) (hq' : 0 ≤ q') (hK : 1 ≤ K) (hL : 1 ≤ L) (hA : 1 ≤ A) (hB : 1 ≤ B) (h1 : p ≤ p') (h2 : q' ≤ q)
    (h : p' * (A * (q' + L)) ≤ q' * (B * (p' + K))) : p * (A * (q + L)) ≤ q * (B * (p + K)) := by
  by_cases h0 : q' = 0
  · subst h0
    have hp' : p' = 0 := by
      rcases Int.lt_or_le 0 p' with h3 | h3
      · have : 0 < p' * (A * (0 + L)) := Int.mul_pos h3 (Int.mul_pos (by omega) (by omega))
        omega
      · omega
    have hp0 : p = 0 := by omega
    subst hp0
    have : 0 ≤ q * (B * (0 + K)) := Int.mul_nonneg hq (Int.mul_nonneg (by omega) (by omega))
    omega
  · have e1 : p * (p' + K) ≤ p' * (p + K) := by
      have : p * K ≤ p' * K := Int.mul_le_mul_of_nonneg_right h1 (by omega)
      grind
    have e2 : q' * (q + L) ≤ q * (q' + L) := by
      have : q' * L ≤ q * L := Int.mul_le_mul_of_nonneg_right h2 (by omega)
      grind
    have e3 : (p * (p' + K)) * (q' * (q + L)) ≤ (p' * (p + K)) * (q * (q' + L)) := mulle e1 e2 (Int.mul_nonneg hq' (by omega)) (Int.mul_nonneg (by omega) (by omega))
    have e4 : A * ((p * (p' + K)) * (q' * (q + L))) ≤ A * ((p' * (p + K)) * (q * (q' + L))) := Int.mul_le_mul_of_nonneg_left e3 (by omega)
    have e5 : (q * (p + K)) * (p' * (A * (q' + L))) ≤ (q * (p + K)) * (q' * (B * (p' + K))) := Int.mul_le_mul_of_nonneg_left h (Int.mul_nonneg hq (by omega))
    have e6 : (q' * (p' + K)) * (p * (A * (q + L))) ≤ (q' * (p' + K)) * (q * (B * (p + K))) := by grind
    exact Int.le_of_mul_le_mul_left e6 (Int.mul_pos (by omega) (by omega))

theorem slp_le {x : Cr} {t : Int} : slp x t ≤ 0 ↔ if x.X2 < x.X1 then 0 ≤ slpC x t else slpC x t ≤ 0 := by
  unfold slp sgn
  split <;> (split <;> (try split)) <;> omega
theorem sqle {a b : Int} (h : -b ≤ a ∧ a ≤ b) : a * a ≤ b * b := by
  rcases Int.le_total 0 a with h1 | h1
  · exact sq_mono h1 h.2
  · have := sq_mono (a := -a) (b := b) (by omega) (by omega)
    rwa [Int.neg_mul_neg] at this
theorem slp_mono {x : Cr} (h : okC x) {t u : Int} (ht : inC x t) (hu : inC x u) (htu : t ≤ u) (hs : slp x u ≤ 0) : slp x t ≤ 0 := by
  rw [slp_le] at *
  obtain ⟨-, -, h3, h4, h5, h6⟩ := h
  unfold inC at ht hu
  have k1 : 1 * 1 ≤ x.H1 * x.H1 := sq_mono (by omega) (by omega)
  have k2 : 1 * 1 ≤ x.H2 * x.H2 := sq_mono (by omega) (by omega)
  have k3 : 1 * 1 ≤ x.V1 * x.V1 := sq_mono (by omega) (by omega)
  have k4 : 1 * 1 ≤ x.V2 * x.V2 := sq_mono (by omega) (by omega)
  unfold slpC at *
  by_cases hx : x.X2 < x.X1
  · rw [if_pos hx] at *
    have q1 : (u - x.X1) * (u - x.X1) ≤ (t - x.X1) * (t - x.X1) := by
      have := sqle (a := u - x.X1) (b := x.X1 - t) (by omega)
      have e : (x.X1 - t) * (x.X1 - t) = (t - x.X1) * (t - x.X1) := by grind
      omega
    have q2 : (x.X2 - t) * (x.X2 - t) ≤ (x.X2 - u) * (x.X2 - u) := by
      have := sqle (a := x.X2 - t) (b := u - x.X2) (by omega)
      have e : (u - x.X2) * (u - x.X2) = (x.X2 - u) * (x.X2 - u) := by grind
      omega
    have := mono_core (p := (x.X2 - t) * (x.X2 - t)) (q := (t - x.X1) * (t - x.X1)) (p' := (x.X2 - u) * (x.X2 - u)) (q' := (u - x.X1) * (u - x.X1)) (K := x.H2 * x.H2) (L := x.H1 * x.H1) (A := x.V1 * x.V1) (B := x.V2 * x.V2)
      (sq_nonneg _) (sq_nonneg _) (sq_nonneg _) (by omega) (by omega) (by omega) (by omega) q2 q1 (by omega)
    omega
  · rw [if_neg hx] at *
    have q1 : (t - x.X1) * (t - x.X1) ≤ (u - x.X1) * (u - x.X1) := sqle (by omega)
    have q2 : (x.X2 - u) * (x.X2 - u) ≤ (x.X2 - t) * (x.X2 - t) := sqle (by omega)
    have := mono_core (p := (t - x.X1) * (t - x.X1)) (q := (x.X2 - t) * (x.X2 - t)) (p' := (u - x.X1) * (u - x.X1)) (q' := (x.X2 - u) * (x.X2 - u)) (K := x.H1 * x.H1) (L := x.H2 * x.H2) (A := x.V2 * x.V2) (B := x.V1 * x.V1)
      (sq_nonneg _) (sq_nonneg _) (sq_nonneg _) (by omega) (by omega) (by omega) (by omega) q1 q2 (by omega)
    omega
/-- at the lesser place the slope is not above 0, at the greater one not below -/
theorem slp_lesser (x : Cr) : slp x (min x.X1 x.X2) ≤ 0 := by
  rw [slp_le]
  unfold slpC
  split
  · rename_i h
    rw [show min x.X1 x.X2 = x.X2 by omega, show x.X2 - x.X2 = 0 by omega]
    have : 0 ≤ (x.X2 - x.X1) * (x.X2 - x.X1) * (x.V2 * x.V2 * (0 * 0 + x.H2 * x.H2)) := Int.mul_nonneg (sq_nonneg _) (Int.mul_nonneg (sq_nonneg _) (by have := sq_nonneg x.H2; omega))
    omega
  · rename_i h
    rw [show min x.X1 x.X2 = x.X1 by omega, show x.X1 - x.X1 = 0 by omega]
    have : 0 ≤ (x.X2 - x.X1) * (x.X2 - x.X1) * (x.V1 * x.V1 * (0 * 0 + x.H1 * x.H1)) := Int.mul_nonneg (sq_nonneg _) (Int.mul_nonneg (sq_nonneg _) (by have := sq_nonneg x.H1; omega))
    omega

/-- the crossing of least time -/
def IsPl (x : Cr) (k : Int) : Prop := inC x k ∧ slp x k ≤ 0 ∧ (k = max x.X1 x.X2 ∨ 0 < slp x (k + 1))
theorem pl_uniq {x : Cr} (h : okC x) {k l : Int} (hk : IsPl x k) (hl : IsPl x l) : k = l := by
  obtain ⟨a1, a2, a3⟩ := hk
  obtain ⟨b1, b2, b3⟩ := hl
  have a1' := a1
  have b1' := b1
  unfold inC at a1' b1'
  rcases Int.lt_trichotomy k l with h1 | h1 | h1
  · rcases a3 with a3 | a3
    · omega
    · have := slp_mono h (t := k + 1) (u := l) (by unfold inC; omega) b1 (by omega) b2
      omega
  · exact h1
  · rcases b3 with b3 | b3
    · omega
    · have := slp_mono h (t := l + 1) (u := k) (by unfold inC; omega) a1 (by omega) a2
      omega
open Classical in
/-- the crossing of least time, as a number -/
noncomputable def plc (x : Cr) : Int := epsilon (IsPl x)
theorem plc_eq {x : Cr} (h : okC x) {k : Int} (hk : IsPl x k) : plc x = k := pl_uniq h (Classical.epsilon_spec ⟨k, hk⟩) hk

/-! ### sort.Search -/
def SrPost (p : Int → Bool) (n : Int) (w : World) (e : Ending) (w' : World) : Prop := ∃ i : Int, e = .returned (.int .i64 i) ∧ Below w.heap.size w w' ∧ 0 ≤ i ∧ i ≤ n ∧ (i = 0 ∨ p (i - 1) = false) ∧ (i = n ∨ p i = true)
def SrRel (p : Int → Bool) (n : Int) (w : World) (i j : Value) (wr : World) : Prop := ∃ I J : Int, 0 ≤ I ∧ I ≤ J ∧ J ≤ n ∧ (I = 0 ∨ p (I - 1) = false) ∧ (J = n ∨ p J = true) ∧ Below w.heap.size w wr ∧ i = .int .i64 I ∧ j = .int .i64 J
set_option maxHeartbeats 1000000 in
theorem search_any (n : Int) (p : Int → Bool) (a : Addr) (w : World) (hn : 0 ≤ n) (hn2 : n ≤ 1000000)
    (hf : ∀ (w1 : World) (m : Int), Below w.heap.size w w1 → 0 ≤ m → m < n → Calls Try.prog 124 #[.int .i64 m, .pointer (some a)] w1 fun e w' => e = .returned (.bool (p m)) ∧ Below w1.heap.size w1 w') :
    Calls Try.prog 125 #[.int .i64 n, .func (.func 124) #[] #[.pointer (some a)]] w (SrPost p n w) := by
  have HF := Lib.hid hf
  clear hf
  go_enter Try.func125, Try.ntmps125
  go_wp2
  go_loopw [5, 6] (SrRel p n w) (fun i j _ => (intOf j - intOf i).toNat)
  case atStart => exact ⟨0, n, by omega, by omega, by omega, .inl rfl, .inl rfl, Below.refl _ _, rfl, rfl⟩
  case round =>
    obtain ⟨I, J, h0, h1, h2, h3, h4, h5, rfl, rfl⟩ := hrel
    have K3 := Lib.hid h3
    have K4 := Lib.hid h4
    have K5 := Lib.hid h5
    clear h3 h4 h5
    by_cases hlt : I < J
    · go_wp2_with fail
      refine (HF.out wr _ K5.out (by omega) (by omega)).mono ?_
      rintro e w1 ⟨rfl, hw1⟩
      cases hp : p ((I + J) / 2)
      · have HP := Lib.hid hp
        clear hp
        go_wp2
        go_roundw
        case rel => exact ⟨(I + J) / 2 + 1, J, by omega, by omega, h2, .inr (by rw [show (I + J) / 2 + 1 - 1 = (I + J) / 2 by omega]; exact HP.out), K4.out, below_step hw1 K5.out K5.out.size, rfl, rfl⟩
        case measure => simp [intOf]; omega
      · have HP := Lib.hid hp
        clear hp
        go_wp2
        go_roundw
        case rel => exact ⟨I, (I + J) / 2, h0, by omega, by omega, K3.out, .inr HP.out, below_step hw1 K5.out K5.out.size, rfl, rfl⟩
        case measure => simp [intOf]; omega
    · have hij : I = J := by omega
      have KE := Lib.hid hij
      clear hij
      go_wp2
      go_ret
      exact ⟨I, rfl, K5.out, h0, by omega, K3.out, by rw [KE.out]; exact K4.out⟩

/-- the box of a crossing: its eight cells -/
def Box8 (x : Cr) (b : Nat) (w : World) : Prop := (w.cell? ⟨b, 0, none⟩ = some (.int .i64 x.X1) ∧ w.cell? ⟨b, 1, none⟩ = some (.int .i64 x.H1) ∧ w.cell? ⟨b, 2, none⟩ = some (.int .i64 x.V1) ∧ w.cell? ⟨b, 3, none⟩ = some (.int .i64 x.X2)) ∧ w.cell? ⟨b, 4, none⟩ = some (.int .i64 x.H2) ∧ w.cell? ⟨b, 5, none⟩ = some (.int .i64 x.V2) ∧ w.cell? ⟨b, 6, none⟩ = some (.int .i64 (min x.X1 x.X2)) ∧ w.cell? ⟨b, 7, none⟩ = some (.int .i64 (max x.X1 x.X2))
theorem Box8.below {x : Cr} {b B : Nat} {w w' : World} (h : Box8 x b w) (hb : b < B) (hw : Below B w w') : Box8 x b w' := by
  unfold Box8 at *
  have e : ∀ o, w'.cell? ⟨b, o, none⟩ = w.cell? ⟨b, o, none⟩ := fun o => hw.cell (p := ⟨b, o, none⟩) hb
  rw [e, e, e, e, e, e, e, e]; exact h

set_option maxRecDepth 100000 in
set_option maxHeartbeats 1000000 in
theorem closure_any (x : Cr) (m : Int) (b : Nat) (w : World) (h : okC x) (hm : 0 ≤ m) (hm2 : m < max x.X1 x.X2 - min x.X1 x.X2) (hb : Box8 x b w) :
    Calls Try.prog 124 #[.int .i64 m, .pointer (some ⟨b, 0, none⟩)] w fun e w' => e = .returned (.bool (decide (0 < slp x (min x.X1 x.X2 + m + 1)))) ∧ Below w.heap.size w w' := by
  obtain ⟨⟨c0, c1, c2, c3⟩, c4, c5, c6, c7⟩ := hb
  have H := Lib.hid h
  obtain ⟨⟨g1, g2⟩, ⟨g3, g4⟩, -⟩ := h
  have hin : inC x (min x.X1 x.X2 + m + 1) := by unfold inC; omega
  have HI := Lib.hid hin
  clear hin
  generalize hu : min x.X1 x.X2 = u at *
  have HU := Lib.hid hu
  clear hu
  have g5 : -100000 ≤ u ∧ u ≤ 100000 := by have := HU.out; omega
  have g6 : m ≤ 200000 := by have := HU.out; omega
  clear hm2
  go_enter Try.func124, Try.ntmps124
  go_wp2_with fail
  refine (by have := slope_any x (u + m + 1) w H.out HI.out; rw [HU.out] at this; exact this : Calls _ _ _ _ _).mono ?_
  rintro e w1 ⟨rfl, hw1⟩
  go_wp2
  go_ret
  exact ⟨rfl, by (repeat' (first | (with_reducible exact Below.refl _ _) | (with_reducible assumption) | (with_reducible refine Below.alloc ?_ ?_ _) | (with_reducible refine Below.drew ?_) | (with_reducible refine below_drewN ?_ _) | (with_reducible refine Below.setCell ?_ ?_ _) | (with_reducible refine below_step (by with_reducible assumption) ?_ ?_) | (with_reducible exact Below.size (by with_reducible assumption)) | go_size))⟩

theorem place_of {x : Cr} (h : okC x) {i : Int} (h0 : 0 ≤ i) (h1 : i ≤ max x.X1 x.X2 - min x.X1 x.X2) (h2 : i = 0 ∨ decide (0 < slp x (min x.X1 x.X2 + (i - 1) + 1)) = false) (h3 : i = max x.X1 x.X2 - min x.X1 x.X2 ∨ decide (0 < slp x (min x.X1 x.X2 + i + 1)) = true) :
    min x.X1 x.X2 + i = plc x := by
  symm
  apply plc_eq h
  refine ⟨by unfold inC; omega, ?_, ?_⟩
  · rcases h2 with h2 | h2
    · subst h2; rw [Int.add_zero]; exact slp_lesser x
    · rw [show min x.X1 x.X2 + (i - 1) + 1 = min x.X1 x.X2 + i by omega] at h2
      simp at h2; exact h2
  · rcases h3 with h3 | h3
    · left; omega
    · right; simp at h3; exact h3

theorem searchPlace (x : Cr) (b : Nat) (W : World) (h : okC x) (hb : Box8 x b W) (hlt : b < W.heap.size) :
    Calls Try.prog 125 #[.int .i64 (max x.X1 x.X2 - min x.X1 x.X2), .func (.func 124) #[] #[.pointer (some ⟨b, 0, none⟩)]] W fun e w' => e = .returned (.int .i64 (plc x - min x.X1 x.X2)) ∧ Below W.heap.size W w' := by
  have h' := h
  obtain ⟨⟨g1, g2⟩, ⟨g3, g4⟩, -⟩ := h
  refine (search_any _ (fun m => decide (0 < slp x (min x.X1 x.X2 + m + 1))) ⟨b, 0, none⟩ W (by omega) (by omega) ?_).mono ?_
  · intro w1 m hw1 hm hm2
    exact closure_any x m b w1 h' hm hm2 (hb.below hlt hw1)
  · rintro e w' ⟨i, rfl, hw, i0, i1, i2, i3⟩
    refine ⟨ri ?_, hw⟩
    have := place_of h' i0 i1 i2 i3
    omega
theorem plc_is {x : Cr} (h : okC x) : IsPl x (plc x) := by
  have ht : ∀ n : Nat, ∀ u : Int, u = min x.X1 x.X2 + n → u ≤ max x.X1 x.X2 → slp x u ≤ 0 ∨ ∃ k, IsPl x k := by
    intro n
    induction n with
    | zero => intro u hu _; left; rw [hu, Int.natCast_zero, Int.add_zero]; exact slp_lesser x
    | succ n ih =>
      intro u hu hm
      rcases ih (u - 1) (by omega) (by omega) with h1 | h1
      · by_cases h2 : slp x u ≤ 0
        · exact .inl h2
        · exact .inr ⟨u - 1, by unfold inC; omega, h1, .inr (by rw [show u - 1 + 1 = u by omega]; omega)⟩
      · exact .inr h1
  refine Classical.epsilon_spec (p := IsPl x) ?_
  rcases ht (max x.X1 x.X2 - min x.X1 x.X2).toNat (max x.X1 x.X2) (by omega) (Int.le_refl _) with h1 | h1
  · exact ⟨max x.X1 x.X2, by unfold inC; omega, h1, .inl rfl⟩
  · exact h1

set_option maxRecDepth 100000 in
set_option maxHeartbeats 2000000 in
theorem place_any (x : Cr) (w : World) (h : okC x) :
    Calls Try.prog 92 #[.agg #[.int .i64 x.X1, .int .i64 x.H1, .int .i64 x.V1, .int .i64 x.X2, .int .i64 x.H2, .int .i64 x.V2, .int .i64 (min x.X1 x.X2), .int .i64 (max x.X1 x.X2)]] w fun e w' => e = .returned (.int .i64 (plc x)) ∧ Below w.heap.size w w' := by
  have H := Lib.hid h
  have hpl := (plc_is h).1
  obtain ⟨⟨g1, g2⟩, ⟨g3, g4⟩, -⟩ := h
  unfold inC at hpl
  obtain ⟨l1, l2⟩ := hpl
  have wr1 : IntKind.i64.wrap (max x.X1 x.X2 - min x.X1 x.X2) = max x.X1 x.X2 - min x.X1 x.X2 := IntWalk.i64_in _ (by omega)
  have wr2 : IntKind.i64.wrap (min x.X1 x.X2 + (plc x - min x.X1 x.X2)) = plc x := by rw [show min x.X1 x.X2 + (plc x - min x.X1 x.X2) = plc x by omega]; exact IntWalk.i64_in _ (by omega)
  have hmf : ∀ (fn : Fn) (first cap : Array Value) (w : World), (Instr.makeFunc fn first cap).run Try.prog w = .ok (.func fn first cap) w := fun _ _ _ _ => rfl
  have hbox : Hid (Box8 x w.heap.size ((w.alloc (.cells #[.int .i64 x.X1, .int .i64 x.H1, .int .i64 x.V1, .int .i64 x.X2, .int .i64 x.H2, .int .i64 x.V2, .int .i64 (min x.X1 x.X2), .int .i64 (max x.X1 x.X2)] 124)).drew)) := by
    apply Lib.hid
    unfold Box8
    refine ⟨⟨?_, ?_, ?_, ?_⟩, ?_, ?_, ?_, ?_⟩ <;> (simp only [World.cell?_drew]; exact cell_fresh _ _ _ _ _ _ rfl rfl)
  go_enter Try.func92, Try.ntmps92
  go_wp2
  go_region_held3 (fun w' => w'.cell? ⟨w.heap.size, 6, none⟩ = some (.int .i64 (min x.X1 x.X2)) ∧ w'.cell? ⟨w.heap.size, 7, none⟩ = some (.int .i64 (max x.X1 x.X2))) (first | (go_keep; done) | (refine ⟨?_, ?_⟩ <;> (first | exact bel_cell hw1 _ _ _ (by simp only [World.size_drew, World.size_alloc]; omega) (by simp only [World.cell?_drew]; exact cell_fresh _ _ _ _ _ _ rfl rfl))))
    ((go_at_call 125; refine (searchPlace x w.heap.size _ H.out hbox.out ?_).mono ?_; (simp only [World.size_drew, World.size_alloc]; omega); rintro e w1 ⟨rfl, hw1⟩))
  go_wp2
  go_ret
  exact ⟨rfl, by (repeat' (first | (with_reducible exact Below.refl _ _) | (with_reducible assumption) | (with_reducible refine Below.alloc ?_ ?_ _) | (with_reducible refine Below.drew ?_) | (with_reducible refine below_drewN ?_ _) | (with_reducible refine Below.setCell ?_ ?_ _) | (with_reducible refine below_step (by with_reducible assumption) ?_ ?_) | (with_reducible exact Below.size (by with_reducible assumption)) | go_size))⟩

/-- the six cells of a crossing -/
def Box6 (x : Cr) (b : Nat) (w : World) : Prop := (w.cell? ⟨b, 0, none⟩ = some (.int .i64 x.X1) ∧ w.cell? ⟨b, 1, none⟩ = some (.int .i64 x.H1) ∧ w.cell? ⟨b, 2, none⟩ = some (.int .i64 x.V1)) ∧ w.cell? ⟨b, 3, none⟩ = some (.int .i64 x.X2) ∧ w.cell? ⟨b, 4, none⟩ = some (.int .i64 x.H2) ∧ w.cell? ⟨b, 5, none⟩ = some (.int .i64 x.V2)
theorem Box6.below {x : Cr} {b B : Nat} {w w' : World} (h : Box6 x b w) (hb : b < B) (hw : Below B w w') : Box6 x b w' := by
  unfold Box6 at *
  have e : ∀ o, w'.cell? ⟨b, o, none⟩ = w.cell? ⟨b, o, none⟩ := fun o => hw.cell (p := ⟨b, o, none⟩) hb
  rw [e, e, e, e, e, e]; exact h
theorem keep6 {x : Cr} {b B : Nat} {w w' : World} (h : w.cell? ⟨b, 0, none⟩ = some (.int .i64 x.X1) ∧ w.cell? ⟨b, 1, none⟩ = some (.int .i64 x.H1) ∧ w.cell? ⟨b, 2, none⟩ = some (.int .i64 x.V1) ∧ w.cell? ⟨b, 3, none⟩ = some (.int .i64 x.X2) ∧ w.cell? ⟨b, 4, none⟩ = some (.int .i64 x.H2) ∧ w.cell? ⟨b, 5, none⟩ = some (.int .i64 x.V2)) (hb : b < B) (hw : Below B w w') :
    w'.cell? ⟨b, 0, none⟩ = some (.int .i64 x.X1) ∧ w'.cell? ⟨b, 1, none⟩ = some (.int .i64 x.H1) ∧ w'.cell? ⟨b, 2, none⟩ = some (.int .i64 x.V1) ∧ w'.cell? ⟨b, 3, none⟩ = some (.int .i64 x.X2) ∧ w'.cell? ⟨b, 4, none⟩ = some (.int .i64 x.H2) ∧ w'.cell? ⟨b, 5, none⟩ = some (.int .i64 x.V2) := by
  have e : ∀ o, w'.cell? ⟨b, o, none⟩ = w.cell? ⟨b, o, none⟩ := fun o => hw.cell (p := ⟨b, o, none⟩) hb
  rw [e, e, e, e, e, e]; exact h
theorem keep8 {x : Cr} {b B : Nat} {w w' : World} (h : w.cell? ⟨b, 0, none⟩ = some (.int .i64 x.X1) ∧ w.cell? ⟨b, 1, none⟩ = some (.int .i64 x.H1) ∧ w.cell? ⟨b, 2, none⟩ = some (.int .i64 x.V1) ∧ w.cell? ⟨b, 3, none⟩ = some (.int .i64 x.X2) ∧ w.cell? ⟨b, 4, none⟩ = some (.int .i64 x.H2) ∧ w.cell? ⟨b, 5, none⟩ = some (.int .i64 x.V2) ∧ w.cell? ⟨b, 6, none⟩ = some (.int .i64 (min x.X1 x.X2)) ∧ w.cell? ⟨b, 7, none⟩ = some (.int .i64 (max x.X1 x.X2))) (hb : b < B) (hw : Below B w w') :
    w'.cell? ⟨b, 0, none⟩ = some (.int .i64 x.X1) ∧ w'.cell? ⟨b, 1, none⟩ = some (.int .i64 x.H1) ∧ w'.cell? ⟨b, 2, none⟩ = some (.int .i64 x.V1) ∧ w'.cell? ⟨b, 3, none⟩ = some (.int .i64 x.X2) ∧ w'.cell? ⟨b, 4, none⟩ = some (.int .i64 x.H2) ∧ w'.cell? ⟨b, 5, none⟩ = some (.int .i64 x.V2) ∧ w'.cell? ⟨b, 6, none⟩ = some (.int .i64 (min x.X1 x.X2)) ∧ w'.cell? ⟨b, 7, none⟩ = some (.int .i64 (max x.X1 x.X2)) := by
  have e : ∀ o, w'.cell? ⟨b, o, none⟩ = w.cell? ⟨b, o, none⟩ := fun o => hw.cell (p := ⟨b, o, none⟩) hb
  rw [e, e, e, e, e, e, e, e]; exact h
theorem Box6.new (x : Cr) (w : World) (t : TypeId) : Box6 x w.heap.size (w.alloc (.cells #[.int .i64 x.X1, .int .i64 x.H1, .int .i64 x.V1, .int .i64 x.X2, .int .i64 x.H2, .int .i64 x.V2] t)) := by
  unfold Box6
  refine ⟨⟨?_, ?_, ?_⟩, ?_, ?_, ?_⟩ <;> exact cell_fresh _ _ _ _ _ _ rfl rfl
theorem Box6.drewN {x : Cr} {b : Nat} {w : World} (h : Box6 x b w) (n : Nat) : Box6 x b (w.drewN n) := h
def CrRel (x : Cr) (w : World) (lo hi : Value) (wr : World) : Prop := ∃ L G : Int, inC x L ∧ inC x G ∧ L < G ∧ slp x L ≤ 0 ∧ 0 < slp x G ∧ Below w.heap.size w wr ∧ Box6 x w.heap.size wr ∧ w.heap.size < wr.heap.size ∧ lo = .int .i64 L ∧ hi = .int .i64 G

set_option maxRecDepth 100000 in
set_option maxHeartbeats 2000000 in
theorem rcrossing_any (x : Cr) (w : World) (h : okC x) :
    Calls Try.prog 37 #[.agg #[.int .i64 x.X1, .int .i64 x.H1, .int .i64 x.V1, .int .i64 x.X2, .int .i64 x.H2, .int .i64 x.V2]] w fun e w' => e = .returned (.int .i64 (plc x)) ∧ Below w.heap.size w w' := by
  have H := Lib.hid h
  have hlow := slp_lesser x
  obtain ⟨⟨g1, g2⟩, ⟨g3, g4⟩, -⟩ := h
  have HM := Lib.hid (show inC x (max x.X1 x.X2) by unfold inC; omega)
  have Hm := Lib.hid (show inC x (min x.X1 x.X2) by unfold inC; omega)
  by_cases hs : slp x (max x.X1 x.X2) ≤ 0
  · have HP := Lib.hid (plc_eq H.out ⟨HM.out, hs, .inl rfl⟩)
    go_enter Try.func37, Try.ntmps37
    go_wp2
    go_quiet (fail)
    go_wp2_with (go_at_call 32; refine (rslope_any x _ _ H.out HM.out).mono ?_; rintro e w1 ⟨rfl, hw1⟩)
    go_ret
    exact ⟨ri HP.out.symm, by (repeat' (first | (with_reducible exact Below.refl _ _) | (with_reducible assumption) | (with_reducible refine Below.alloc ?_ ?_ _) | (with_reducible refine Below.drew ?_) | (with_reducible refine below_drewN ?_ _) | (with_reducible refine Below.setCell ?_ ?_ _) | (with_reducible refine below_step (by with_reducible assumption) ?_ ?_) | (with_reducible exact Below.size (by with_reducible assumption)) | go_size))⟩
  · go_enter Try.func37, Try.ntmps37
    go_wp2
    go_quiet (fail)
    go_wp2_with (go_at_call 32; refine (rslope_any x _ _ H.out HM.out).mono ?_; rintro e w1 ⟨rfl, hw1⟩)
    go_loopw [3, 4] (CrRel x w) (fun lo hi _ => (intOf hi - intOf lo).toNat)
    case atStart =>
      have hz := hw1.size
      simp only [size_drewN, World.size_alloc] at hz
      refine ⟨min x.X1 x.X2, max x.X1 x.X2, Hm.out, HM.out, ?_, hlow, by omega, by (repeat' (first | (with_reducible exact Below.refl _ _) | (with_reducible assumption) | (with_reducible refine Below.alloc ?_ ?_ _) | (with_reducible refine Below.drew ?_) | (with_reducible refine below_drewN ?_ _) | (with_reducible refine Below.setCell ?_ ?_ _) | (with_reducible refine below_step (by with_reducible assumption) ?_ ?_) | (with_reducible exact Below.size (by with_reducible assumption)) | go_size)), Box6.below ((Box6.new x w 37).drewN nq) (by simp only [size_drewN, World.size_alloc]; omega) hw1, by omega, rfl, rfl⟩
      rcases Int.lt_or_le (min x.X1 x.X2) (max x.X1 x.X2) with h1 | h1
      · exact h1
      · rw [show max x.X1 x.X2 = min x.X1 x.X2 by omega] at hs; omega
    case round =>
      obtain ⟨L, G, hL, hG, hlt, sL, sG, hB, hbox, hsz, rfl, rfl⟩ := hrel
      have KL := Lib.hid hL
      have KG := Lib.hid hG
      have KB := Lib.hid hB
      have KX := Lib.hid hbox
      obtain ⟨⟨c0, c1, c2⟩, c3, c4, c5⟩ := hbox
      have l1 : -100000 ≤ L ∧ L ≤ 100000 := by unfold inC at hL; omega
      have l2 : -100000 ≤ G ∧ G ≤ 100000 := by unfold inC at hG; omega
      clear hw1
      by_cases hgt : 1 < G - L
      · have hin : inC x ((L + G) / 2) := by unfold inC at *; omega
        have KI := Lib.hid hin
        clear hL hG hB hin
        by_cases hm : slp x ((L + G) / 2) ≤ 0
        · go_wp2_with (first | (go_at_call 94; refine (floor_any _ _ _ (by omega) (by omega) (by omega) (by omega)).mono ?_; rintro e w' ⟨rfl, rfl⟩) | (go_at_call 32; refine (rslope_any x _ _ H.out KI.out).mono ?_; rintro e w2 ⟨rfl, hw2⟩))
          go_roundw
          case rel => exact ⟨(L + G) / 2, G, KI.out, KG.out, by omega, hm, sG, below_step hw2 KB.out KB.out.size, KX.out.below hsz hw2, by have := hw2.size; omega, rfl, rfl⟩
          case measure => simp [intOf]; omega
        · go_wp2_with (first | (go_at_call 94; refine (floor_any _ _ _ (by omega) (by omega) (by omega) (by omega)).mono ?_; rintro e w' ⟨rfl, rfl⟩) | (go_at_call 32; refine (rslope_any x _ _ H.out KI.out).mono ?_; rintro e w2 ⟨rfl, hw2⟩))
          go_roundw
          case rel => exact ⟨L, (L + G) / 2, KL.out, KI.out, by omega, sL, by omega, below_step hw2 KB.out KB.out.size, KX.out.below hsz hw2, by have := hw2.size; omega, rfl, rfl⟩
          case measure => simp [intOf]; omega
      · have HP := Lib.hid (plc_eq H.out ⟨hL, sL, .inr (by rw [show L + 1 = G by omega]; exact sG)⟩)
        clear hL hG hB
        go_wp2
        go_ret
        exact ⟨ri HP.out.symm, KB.out⟩
end Go.Proofs.Ytpphnnbijmoodaa
