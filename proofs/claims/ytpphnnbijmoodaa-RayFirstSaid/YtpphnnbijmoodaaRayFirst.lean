/-
  FIRST: the walk of RayFirst.
-/
import Derived.Test.YtpphnnbijmoodaaFirstS
import Derived.Test.YtpphnnbijmoodaaAwake
import Derived.Deep.QuietTactic
import Derived.BigQuiet
import Derived.Laws.AppendOwnNone
set_option linter.unusedVariables false
set_option linter.unusedSimpArgs false
namespace Go.Proofs.Ytpphnnbijmoodaa
open Go.RowKit

set_option maxRecDepth 100000 in
set_option maxHeartbeats 1000000 in
theorem ints_rows (g1 g2 c1 c2 n : Nat) (l : List Int) (w : World) (hn : l.length = n) (hb : n ≤ 1000) (hc1 : n ≤ c1) (hc2 : n ≤ c2) (hm1 : c1 ≤ maxLen) (hm2 : c2 ≤ maxLen)
    (h1 : ∀ j, j < n → w.cell? ⟨g1, j, none⟩ = (vI l)[j]?) (h2 : ∀ j, j < n → w.cell? ⟨g2, j, none⟩ = (vI l)[j]?) :
    Calls Try.prog 63 #[.slice (some ⟨g1, 0, none⟩) n c1, .slice (some ⟨g2, 0, none⟩) n c2] w fun e w' => e = .returned (.bool true) ∧ Below w.heap.size w w' := by
  unfold maxLen at hm1 hm2
  have H1 := Lib.hid h1
  have H2 := Lib.hid h2
  have HN := Lib.hid hn
  clear h1 h2 hn
  go_enter Try.func63, Try.ntmps63
  go_wp2
  go_loopw [5] (fun i wr => ∃ k q : Nat, k ≤ n ∧ i = .int .i64 (k : Int) ∧ wr = w.drewN q) (fun i _ => n - (intOf i).toNat)
  case atStart => exact ⟨0, 0, Nat.zero_le _, rfl, rfl⟩
  case round =>
    obtain ⟨k, q, hk, rfl, rfl⟩ := hrel
    by_cases hlt : k < n
    · have e : (vI l)[k]? = some (.int .i64 (l[k]?.getD 0)) := by
        have := HN.out
        unfold vI
        rw [List.getElem?_map]
        rw [List.getElem?_eq_getElem (by omega)]
        rfl
      have d1 := (H1.out k hlt).trans e
      have d2 := (H2.out k hlt).trans e
      clear e
      generalize l[k]?.getD 0 = x at *
      have e0 : (0 : Int) ≤ (k : Int) := by omega
      have e1 : (k : Int) < (n : Int) := by omega
      go_wp2_with fail
      go_quiet (fail)
      go_wp2
      go_roundw
      case rel => exact ⟨k + 1, _, by omega, by go_num, rfl⟩
      case measure => simp [intOf]; omega
    · have e1 : ¬ (k : Int) < (n : Int) := by omega
      go_wp2
      go_ret
      exact ⟨rfl, below_drewN (Below.refl _ _) _⟩
theorem ints_nil (w : World) (v1 v2 : Value) (h1 : v1 = .slice none 0 0 ∨ ∃ g c, v1 = .slice (some ⟨g, 0, none⟩) 0 c) (h2 : v2 = .slice none 0 0 ∨ ∃ g c, v2 = .slice (some ⟨g, 0, none⟩) 0 c) :
    Calls Try.prog 63 #[v1, v2] w fun e w' => e = .returned (.bool true) ∧ Below w.heap.size w w' := by
  rcases h1 with rfl | ⟨g1, c1, rfl⟩ <;> rcases h2 with rfl | ⟨g2, c2, rfl⟩
  all_goals
    go_enter Try.func63, Try.ntmps63
    go_wp2
    go_loopw [5] (fun i wr => i = .int .i64 0 ∧ wr = w) (fun _ _ => 0)
    case atStart => exact ⟨rfl, rfl⟩
    case round =>
      obtain ⟨rfl, rfl⟩ := hrel
      go_wp2
      go_ret
      exact ⟨rfl, Below.refl _ _⟩
theorem ints_owned (W : World) (B1 B2 n : Nat) (v1 v2 : Value) (l : List Int) (hl : l.length = n) (hb : n ≤ 1000) (h1 : W.ownsRow B1 3 1 v1 n (vI l)) (h2 : W.ownsRow B2 3 1 v2 n (vI l)) :
    Calls Try.prog 63 #[v1, v2] W fun e w' => e = .returned (.bool true) ∧ Below W.heap.size W w' := by
  by_cases h0 : n = 0
  · subst h0
    apply ints_nil
    · rcases h1.2 with ⟨e, _⟩ | ⟨g, cap, cur, e, _⟩
      · exact .inl e
      · exact .inr ⟨g, cap, e⟩
    · rcases h2.2 with ⟨e, _⟩ | ⟨g, cap, cur, e, _⟩
      · exact .inl e
      · exact .inr ⟨g, cap, e⟩
  · have k1 := h1
    have k2 := h2
    rcases h1.2 with ⟨_, e⟩ | ⟨g1, c1, cur1, rfl, _, _, a1, m1, _⟩
    · exact absurd e h0
    · rcases h2.2 with ⟨_, e⟩ | ⟨g2, c2, cur2, rfl, _, _, a2, m2, _⟩
      · exact absurd e h0
      · exact ints_rows g1 g2 c1 c2 n l W hl hb a1 a2 m1 m2 (fun j hj => k1.cellAt j (by omega)) (fun j hj => k2.cellAt j (by omega))

theorem wp_append_own_none {P : Program} {w : World} {o : Oper} {a : Act} {K : Act → World → Prop} {Q : Exit → Act → World → Prop} (s x : Operand) (t : TypeId)
    (ho : o.op = .call { callee := .builtin .append, args := #[s, x], argTypes := #[t, t] })
    (base : Nat) (e : TypeId) (i : TypeInfo) (size : Nat) (ht : P.underlying t = some (.slice e)) (hi : P.info? e = some i)
    (v : Value) (n : Nat) (xs : List Value) (hs : a.eval s = v) (hown : w.ownsRow base e size v n xs) (hx : a.eval x = .slice none 0 0)
    (h : K (a.put o.dst v) w) : o.wp P a w K Q := by
  have hrun := run_append_owned_none (P := P) (w := w) base t o.type e i size ht hi v n xs hown
  unfold Oper.wp
  simp [execOp, ho, resolve, invoke, builtin, hs, hx, hrun, Result.andThen]
  exact h
/-- the cells of modes -/
def mC (M : Nat → Md) (k : Nat) : List Value := [.int .i64 (M k).Wedge, .int .i64 (M k).Metal, .int .i64 (M k).Skips, .int .i64 (M k).Thick]
def mCs (M : Nat → Md) (N : Nat) : List Value := (List.range N).flatMap (mC M)
theorem mCs_succ (M : Nat → Md) (N : Nat) : mCs M (N + 1) = mCs M N ++ mC M N := by
  unfold mCs; rw [List.range_succ, List.flatMap_append]; simp
theorem mCs_len (M : Nat → Md) : ∀ N, (mCs M N).length = N * 4
  | 0 => rfl
  | N + 1 => by rw [mCs_succ, List.length_append, mCs_len M N]; simp [mC]; omega
theorem mCs_get (M : Nat → Md) : ∀ N k j, k < N → j < 4 → (mCs M N)[k * 4 + j]? = (mC M k)[j]?
  | 0, k, j, h, _ => absurd h (Nat.not_lt_zero _)
  | N + 1, k, j, h, hj => by
    rw [mCs_succ]
    have hl := mCs_len M N
    rcases Nat.lt_or_ge k N with c | c
    · rw [List.getElem?_append_left (by omega)]
      exact mCs_get M N k j c hj
    · have : k = N := by omega
      subst this
      rw [List.getElem?_append_right (by omega), hl, Nat.add_sub_cancel_left]
theorem mCs_one (M : Nat → Md) (N : Nat) : ∀ u ∈ mCs M N, u.oneCell' = true := by
  intro u hu
  unfold mCs at hu
  obtain ⟨k, _, h⟩ := List.mem_flatMap.1 hu
  simp only [mC, List.mem_cons, List.not_mem_nil, or_false] at h
  rcases h with rfl | rfl | rfl | rfl <;> rfl
theorem mrow_cells {W : World} {g o N : Nat} {M : Nat → Md} (hc : ∀ k, k < N → W.cell? ⟨g, o + k * 4, none⟩ = some (.int .i64 (M k).Wedge) ∧ W.cell? ⟨g, o + k * 4 + 1, none⟩ = some (.int .i64 (M k).Metal) ∧ W.cell? ⟨g, o + k * 4 + 2, none⟩ = some (.int .i64 (M k).Skips) ∧ W.cell? ⟨g, o + k * 4 + 3, none⟩ = some (.int .i64 (M k).Thick)) :
    ∀ j u, (mCs M N)[j]? = some u → W.cell? ((⟨g, o, none⟩ : Addr).add j) = some u := by
  intro j u hu
  have hj : j < N * 4 := by
    have := (List.getElem?_eq_some_iff.1 hu).1
    rwa [mCs_len] at this
  have e : j = j / 4 * 4 + j % 4 := by omega
  have hk : j / 4 < N := by omega
  have hm : j % 4 < 4 := by omega
  rw [e, mCs_get M N (j / 4) (j % 4) hk hm] at hu
  obtain ⟨c0, c1, c2, c3⟩ := hc (j / 4) hk
  rw [Addr.add_lit, e]
  generalize j / 4 = k at *
  match h : j % 4, hm with
  | 0, _ => rw [h] at hu; simp [mC] at hu; subst hu; exact c0
  | 1, _ => rw [h] at hu; simp [mC] at hu; subst hu; rw [← Nat.add_assoc]; exact c1
  | 2, _ => rw [h] at hu; simp [mC] at hu; subst hu; rw [← Nat.add_assoc]; exact c2
  | 3, _ => rw [h] at hu; simp [mC] at hu; subst hu; rw [← Nat.add_assoc]; exact c3
theorem mrow_form {W : World} {base N : Nat} {v : Value} {M : Nat → Md} (h : W.ownsRow base 54 4 v N (mCs M N)) : ∃ p cap, v = .slice p N cap ∧ N ≤ cap ∧ cap ≤ maxLen ∧ MRow W p N M := by
  have k := h
  rcases h.2 with ⟨rfl, e⟩ | ⟨g, cap, cur, rfl, _, c, a1, m1, _⟩
  · subst e; exact ⟨none, 0, rfl, Nat.le_refl _, by unfold maxLen; omega, fun h => absurd h (Nat.lt_irrefl _)⟩
  · refine ⟨_, cap, rfl, a1, m1, fun _ => ⟨g, 0, rfl, (Array.getElem?_eq_some_iff.1 c).1, fun j hj => ?_⟩⟩
    have c0 := (k.cellAt (j * 4 + 0) (by omega)).trans (mCs_get M N j 0 hj (by omega))
    have c1 := (k.cellAt (j * 4 + 1) (by omega)).trans (mCs_get M N j 1 hj (by omega))
    have c2 := (k.cellAt (j * 4 + 2) (by omega)).trans (mCs_get M N j 2 hj (by omega))
    have c3 := (k.cellAt (j * 4 + 3) (by omega)).trans (mCs_get M N j 3 hj (by omega))
    rw [Nat.zero_add]
    exact ⟨c0, c1, c2, c3⟩
theorem infoMode : (Try.prog.info? 54).map (fun i => (i.zero, i.size, i.bytes)) = some (some (.agg #[.int .i64 0, .int .i64 0, .int .i64 0, .int .i64 0]), 4, 32) := by kernel_rfl
end Go.Proofs.Ytpphnnbijmoodaa
