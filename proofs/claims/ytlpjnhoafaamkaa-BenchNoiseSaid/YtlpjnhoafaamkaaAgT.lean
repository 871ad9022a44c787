/-
  CODE BY EVALUATION: the words of the walks that wip/tools/sym.py writes.
-/
import Derived.Test.YtlpjnhoafaamkaaAgC
import Derived.Test.YtlpjnhoafaamkaaProg
import Derived.IntWalk
set_option linter.unusedVariables false
set_option linter.unusedSimpArgs false
namespace Go.Proofs.Ytlpjnhoafaamkaa
open Go Go.RowKit
namespace Ag
section
variable {P : Program} {w0 : World} {x y : Code} {σ : St} {Q : Exit → St → Prop} {N : St → Prop} {id id' : Nat} {ro : Option Nat}
theorem aw_sr {ops : Array Oper} {draw : Bool} (anns : List Ann) (σ' : (Nat → Lt) → St) (ps : (Nat → Lt) → List Prop)
    (hm : P.follows .mixedOrders = true) (hc : chk ops anns σ = true) (he : ∀ L, evalR P ops anns σ L = some (σ' L, ps L)) (hp : ∀ L, AllP (ps L)) (h : ∀ L, Aw ro P w0 y (σ' L) Q) : Aw ro P w0 (.seq (.region id ops draw) y) σ Q :=
  aw_seq (aw_region anns σ' ps hm hc he hp h)
theorem nrm_inB (h : Q .normal σ) : inB id Q .normal σ := h
theorem nrm_thn (h : N σ) : thn N Q .normal σ := h
theorem ret_inB (h : Q .ret σ) : inB id Q .ret σ := h
theorem ret_thn (h : Q .ret σ) : thn N Q .ret σ := h
theorem ex_thn (h : Q (.exit id) σ) : thn N Q (.exit id) σ := h
theorem ex_hit (h : Q .normal σ) : inB id Q (.exit id) σ := by unfold inB; simp only [if_true]; exact h
theorem ex_miss (hne : id' ≠ id) (h : Q (.exit id') σ) : inB id Q (.exit id') σ := by unfold inB; simp only [hne, if_false]; exact h
end
theorem fol : Try.prog.follows .mixedOrders = true := by kernel_rfl
theorem wrap_in {x : Int} (h : -9223372036854775808 ≤ x ∧ x ≤ 9223372036854775807) : Value.int .i64 (IntKind.i64.wrap x) = .int .i64 x := by rw [IntWalk.i64_in _ h]
theorem ptr_eq {b o o' : Nat} (h : o = o') : Value.pointer (some ⟨b, o, none⟩) = .pointer (some ⟨b, o', none⟩) := by rw [h]
/-- a nil slice is a row -/
theorem weak_nil (σ : St) (size : Nat) (T : TypeId) : Weak σ ⟨σ.tm, σ.es ++ [.row none 0 0 size [] T true], σ.ds⟩ := by
  intro w0 a w s
  have key : ∀ (e : Nat) (c : Cel), (σ.es ++ [Cel.row none 0 0 size [] T true])[e]? = some c → σ.es[e]? = some c ∨ c = .row none 0 0 size [] T true := by
    intro e c hc
    by_cases h : e < σ.es.length
    · rw [List.getElem?_append_left h] at hc; exact .inl hc
    · rw [List.getElem?_append_right (by omega)] at hc
      have := List.mem_of_getElem? hc
      exact .inr (by simpa using this)
  refine ⟨s.def0, s.size, s.tm, ?_, ?_, ?_, s.bel⟩
  · intro e c hc
    rcases key e c hc with h | h
    · exact s.holds e c h
    · subst h; exact World.ownsRow_nil w 0 T size
  · intro e e' c c' hc hc' hne hm k hk hk'
    rcases key e c hc with h | h
    · rcases key e' c' hc' with h' | h'
      · exact s.apart e e' c c' h h' hne hm k hk hk'
      · subst h'; simp [Cel.key] at hk'
    · subst h; simp [Cel.key] at hk
  · intro e c hc hm k hk
    rcases key e c hc with h | h
    · exact s.own e c h hm k hk
    · subst h; simp [Cel.key] at hk
/-- a block that is known whole is a row -/
theorem weak_set (σ : St) (k : Nat) (c0 c1 : Cel) (h0 : σ.es[k]? = some c0) (hk : c1.key = c0.key) (hm : c1.mine = c0.mine) (hh : ∀ w, c0.holds w → c1.holds w) : Weak σ ⟨σ.tm, σ.es.set k c1, σ.ds⟩ := by
  intro w0 a w s
  have key : ∀ (e : Nat) (c : Cel), (σ.es.set k c1)[e]? = some c → ∃ c', σ.es[e]? = some c' ∧ c.key = c'.key ∧ c.mine = c'.mine ∧ (c'.holds w → c.holds w) := by
    intro e c hc
    rw [List.getElem?_set] at hc
    split at hc
    · rename_i h; subst h
      split at hc
      · cases hc; exact ⟨c0, h0, hk, hm, hh w⟩
      · cases hc
    · exact ⟨c, hc, rfl, rfl, id⟩
  refine ⟨s.def0, s.size, s.tm, ?_, ?_, ?_, s.bel⟩
  · intro e c hc
    obtain ⟨c', h1, _, _, h4⟩ := key e c hc
    exact h4 (s.holds e c' h1)
  · intro e e' c c' hc hc' hne hmm q hq hq'
    obtain ⟨d, h1, h2, h3, _⟩ := key e c hc
    obtain ⟨d', h1', h2', h3', _⟩ := key e' c' hc'
    exact s.apart e e' d d' h1 h1' hne (by rw [← h3]; exact hmm) q (h2 ▸ hq) (h2' ▸ hq')
  · intro e c hc hmm q hq
    obtain ⟨d, h1, h2, h3, _⟩ := key e c hc
    exact s.own e d h1 (by rw [← h3]; exact hmm) q (h2 ▸ hq)
theorem weak_asrow {σ σ' : St} (k b n cap size : Nat) (c xs : List Value) (T : TypeId) (o : Bool) (h0 : σ.es[k]? = some (.blk b c T o)) (hn : n ≤ cap) (hc : cap ≤ maxLen) (hs : c.length = cap * size) (hx : c.take (n * size) = xs) (hl : n * size ≤ c.length) (e : (⟨σ.tm, σ.es.set k (.row (some ⟨b, 0, none⟩) n cap size xs T o), σ.ds⟩ : St) = σ') : Weak σ σ' := by
  subst e
  refine weak_set σ k _ _ h0 rfl rfl fun w h => ?_
  refine ⟨by rw [← hx, List.length_take]; omega, .inr ⟨b, cap, c.toArray, rfl, Nat.zero_le _, h, hn, hc, by simpa using hs, by simpa using hx⟩⟩
/-- a row that is not empty lies somewhere -/
theorem aw_open {ro : Option Nat} {P : Program} {w0 : World} {c : Code} {σ : St} {Q : Exit → St → Prop} (e : Nat) {a : Option Addr} {n cap size : Nat} {xs : List Value} {T : TypeId} {o : Bool} (he : σ.es[e]? = some (.row a n cap size xs T o)) (hn : 0 < n)
    (h : ∀ g, a = some ⟨g, 0, none⟩ → n ≤ cap → cap ≤ maxLen → Aw ro P w0 c σ Q) : Aw ro P w0 c σ Q := by
  intro a' w s
  rcases (s.holds e _ he).2 with ⟨_, h2⟩ | ⟨g, cap', cur, h1, _, _, h3, h4, _⟩
  · omega
  · cases h1
    exact h g rfl h3 h4 a' w s
theorem aw_capp {ro : Option Nat} {P : Program} {w0 : World} {c : Code} {σ : St} {Q : Exit → St → Prop} (e : Nat) {a : Option Addr} {n cap size : Nat} {xs : List Value} {T : TypeId} {o : Bool} (he : σ.es[e]? = some (.row a n cap size xs T o))
    (h : xs.length = n * size → n ≤ cap ∧ cap ≤ maxLen → Aw ro P w0 c σ Q) : Aw ro P w0 c σ Q := by
  intro a' w s
  have hh := s.holds e _ he
  refine h hh.1 ?_ a' w s
  rcases hh.2 with ⟨h1, h2⟩ | ⟨g, cap', cur, h1, _, _, h3, h4, _⟩
  · cases h1; simp
  · cases h1; exact ⟨h3, h4⟩
/-- the end of a function that makes something -/
theorem fin_new {P : Program} {fn : Func} {w0 : World} {e : Exit} {σ : St} (sh : Option Nat) (es : List Nat) (v : Value) (ps : List Prop) (l : Lt) (vf : Lt → Value) (cf : Lt → Cel) (i : Nat) (he : e = .normal ∨ e = .ret) (hsh : okSh σ sh) (h : evRes P fn (σ.shut sh) es = some (v, ps)) (hp : AllP ps)
    (hv : vf l = v) (hc : (σ.shut sh).es[i]? = some (cf l)) (hm : (cf l).mine = true) : Fin P fn w0 (fun r w' => ∃ l, r = .returned (vf l) ∧ (cf l).holds w' ∧ (cf l).mine = true ∧ (∀ k, (cf l).key = some k → w0.heap.size ≤ k) ∧ Below w0.heap.size w0 w') e σ :=
  ⟨he, sh, hsh, es, v, ps, h, hp, fun _ s => ⟨l, by rw [hv], s.holds i _ hc, hm, s.own i _ hc hm, s.bel⟩⟩
/-- the entries that came with a call -/
theorem esOk {W : World} {l : List Cel} (h : ∀ c ∈ l, c.holds W) (hm : ∀ c ∈ l, c.mine = false) : ∀ (e : Nat) (x : Cel), l[e]? = some x → x.holds W ∧ x.mine = false :=
  fun e x hx => ⟨h x (List.mem_of_getElem? hx), hm x (List.mem_of_getElem? hx)⟩
theorem callOb_frz {P : Program} {f : FuncId} {args : Array Value} {es : List Cel} {v : Value} (h : CallOb P f args (es.map Cel.frz) v) : CallOb P f args es v :=
  fun W hw => h W fun e he => by
    obtain ⟨x, hx, rfl⟩ := List.mem_map.1 he
    exact Cel.frz_holds.2 (hw x hx)
theorem callN_frz {P : Program} {f : FuncId} {args : Array Value} {es : List Cel} {v : Lt → Value} {c : Lt → Cel} (h : CallN P f args (es.map Cel.frz) v c) : CallN P f args es v c :=
  fun W hw => h W fun e he => by
    obtain ⟨x, hx, rfl⟩ := List.mem_map.1 he
    exact Cel.frz_holds.2 (hw x hx)
end Ag
end Go.Proofs.Ytlpjnhoafaamkaa
