/-
  AN EXECUTOR, checked once: what is run.
-/
import Derived.Test.YtlpjnhoafaamkaaExR
set_option linter.unusedVariables false
set_option linter.unusedSimpArgs false
namespace Go.Proofs.Ytlpjnhoafaamkaa
open Go Go.RowKit
namespace Ex

structure XS where
  tm : Tr Value
  L : Nat
  M : Tr Ent
  n : Nat
  md : List Nat
  ds : List Nat
/-- what a call came to -/
structure CR where
  v : Value
  M : Tr Ent
  n : Nat
  md : List Nat
abbrev CallF := FuncId → List Value → Tr Ent → Nat → Option CR
abbrev CodeF := Option Nat → Code → XS → Option (Exit × XS)
def putT (tm : Tr Value) (d : Option Tmp) (v : Value) : Tr Value :=
  match d with
  | some d => tm.set d (some v)
  | none => tm
def applyWr (M : Tr Ent) : Wr → Tr Ent
  | [] => M
  | (e, c) :: l => (applyWr M l).set e c
def below (n : Nat) (o : Option (List Nat)) : Bool := match o with | some l => l.all (Nat.blt · n) | none => false
def wrOk (n hi : Nat) : Wr → Bool
  | [] => true
  | (e, c) :: l => Nat.blt e hi && (match c with | some c => below n (idsE c) | none => true) && wrOk n hi l
def resOk (n : Nat) (v : Value) (wr : Wr) (new : Nat) : Bool := below (n + new) (idsV dep v) && wrOk n (n + new) wr && Nat.blt (n + new) LIM
def dstOk (L : Nat) (d : Option Tmp) : Bool := match d with | some d => Nat.blt d L && Nat.blt d LIM | none => true
/-- whether an operation is wanted -/
def want (ops : Array Oper) (o : Oper) (tv : Tmp → Option Value) : Option Bool :=
  match o.guard with
  | none => some true
  | some (j, b) => match (ops[j]?).bind (·.dst) with
    | none => some false
    | some d => match tv d with
      | some (.bool c) => some (c == b)
      | some _ => some false
      | none => none
def setPs (tm : Tr Value) : List Tmp → List Value → Tr Value
  | p :: ps, v :: vs => setPs (tm.set p (some v)) ps vs
  | _, _ => tm
def psOk (L : Nat) (ps : List Tmp) : Bool := ps.all fun p => Nat.blt p L && Nat.blt p LIM
/-- a round of a loop over a function -/
def exRound (codeF : CodeF) (l : Nat) (args : List Value) (σ : XS) : Option (Bool × XS) :=
  match σ.M.get l with
  | some (.loop T L ps A Bd .ready pend D) =>
    bif Nat.beq args.length ps.size && psOk L ps.toList && Nat.blt l LIM then
      match codeF (some l) A { σ with tm := setPs T ps.toList args, L := L, ds := [] } with
      | some (.normal, σ1) => match σ1.M.get l, σ1.ds with
        | some (.loop T1 L1 ps1 A1 B1 .ready pend1 D1), [] =>
          match codeF (some l) Bd { σ1 with M := σ1.M.set l (some (.loop T1 L1 ps1 A1 B1 .busy pend1 D1)), md := l :: σ1.md, ds := [] } with
          | some (ex, σ2) => match σ2.M.get l with
            | some (.loop T2 L2 ps2 A2 B2 .busy pend2 D2) =>
              match ex with
              | .normal => some (true, { σ with M := σ2.M.set l (some (.loop T2 L2 ps2 A2 B2 .ready none D2)), n := σ2.n, md := l :: σ2.md })
              | .ret => some (false, { σ with M := σ2.M.set l (some (.loop T2 L2 ps2 A2 B2 .done (some .ret) D2)), n := σ2.n, md := l :: σ2.md })
              | .exit id => some (false, { σ with M := σ2.M.set l (some (.loop T2 L2 ps2 A2 B2 .done (some (.exit id)) D2)), n := σ2.n, md := l :: σ2.md })
              | _ => none
            | _ => none
          | none => none
        | _, _ => none
      | _ => none
    else none
  | _ => none
def exSeq (P : Program) (callF : CallF) (codeF : CodeF) (ops : Array Oper) : List Oper → XS → Option XS
  | [], σ => some σ
  | o :: l, σ => bif dstOk σ.L o.dst then match want ops o σ.tm.get with
    | none => none
    | some false => exSeq P callF codeF ops l { σ with tm := putT σ.tm o.dst undef }
    | some true => match evOp P o σ.tm.get σ.M.get σ.n with
      | some (.val v wr acc new) => bif resOk σ.n v wr new then
          exSeq P callF codeF ops l { σ with tm := putT σ.tm o.dst v, M := applyWr σ.M wr, n := σ.n + new, md := wr.map (·.1) ++ σ.md } else none
      | some (.call f args) => match callF f args σ.M σ.n with
        | some r => exSeq P callF codeF ops l { σ with tm := putT σ.tm o.dst r.v, M := r.M, n := r.n, md := r.md ++ σ.md }
        | none => none
      | some (.yield y args) => match exRound codeF y args σ with
        | some (b, σ1) => exSeq P callF codeF ops l { σ1 with tm := putT σ.tm o.dst (.bool b) }
        | none => none
      | none => none
    else none
def exRange (callF : CallF) (f : FuncId) (first cap : List Value) (ps : Array Tmp) (A Bd : Code) (σ : XS) : Option (Exit × XS) :=
  bif Nat.blt (σ.n + 1) LIM then
    match callF f (first ++ (.func (.yield (σ.n + 1)) #[] #[]) :: cap) ((σ.M.set σ.n (some (.obj (.deferred (some []))))).set (σ.n + 1) (some (.loop σ.tm σ.L ps A Bd .ready none σ.n))) (σ.n + 2) with
    | some r => match r.M.get (σ.n + 1) with
      | some (.loop _ _ _ _ _ .busy _ _) => none
      | some (.loop _ _ _ _ _ _ pend _) =>
        let σ' : XS := { σ with M := r.M.set (σ.n + 1) none, n := r.n, md := r.md ++ σ.md, ds := σ.n :: σ.ds }
        match pend with
        | none => some (.normal, σ')
        | some .ret => some (.ret, σ')
        | some (.exit id) => some (.exit id, σ')
        | _ => none
      | _ => none
    | none => none
  else none
abbrev DrawF := Array Oper → XS → Option XS
def exCode (P : Program) (callF : CallF) (drawF : DrawF) : Nat → CodeF
  | 0, _, _, _ => none
  | f + 1, ro, c, σ => match c with
    | .skip => some (.normal, σ)
    | .ret => some (.ret, σ)
    | .exit id => some (.exit id, σ)
    | .seq x y => match exCode P callF drawF f ro x σ with
      | some (.normal, σ1) => exCode P callF drawF f ro y σ1
      | some (.ret, σ1) => some (.ret, σ1)
      | some (.exit id, σ1) => some (.exit id, σ1)
      | _ => none
    | .region _ ops draw => match (bif draw then drawF ops σ else exSeq P callF (exCode P callF drawF f) ops ops.toList σ) with
      | some σ1 => some (.normal, σ1)
      | none => none
    | .cond c x y => match opx σ.tm.get c with
      | some (.bool true) => exCode P callF drawF f ro x σ
      | some (.bool false) => exCode P callF drawF f ro y σ
      | _ => none
    | .block id x => match exCode P callF drawF f ro x σ with
      | some (.exit id', σ1) => bif Nat.beq id' id then some (.normal, σ1) else some (.exit id', σ1)
      | some (.normal, σ1) => some (.normal, σ1)
      | some (.ret, σ1) => some (.ret, σ1)
      | _ => none
    | .loop x => match exCode P callF drawF f ro x σ with
      | some (.normal, σ1) => exCode P callF drawF f ro (.loop x) σ1
      | some (.ret, σ1) => some (.ret, σ1)
      | some (.exit id, σ1) => some (.exit id, σ1)
      | _ => none
    | .rangeFunc g ps A Bd => match ro, opx σ.tm.get g with
      | none, some (.func (.func f) first cap) => bif fnOk P f then exRange callF f first.toList cap.toList ps A Bd σ else none
      | _, _ => none
    | _ => none
def exRes1 (P : Program) (σ : XS) : ResultVar → Option Value
  | .tmp t => σ.tm.get t
  | .cell a t => match σ.tm.get a with
    | some (.pointer (some p)) => evLoad P t (.pointer (some p)) σ.M.get
    | _ => none
def exResL (P : Program) (σ : XS) : List ResultVar → Option (List Value)
  | [] => some []
  | r :: rs => match exRes1 P σ r, exResL P σ rs with
    | some v, some vs => some (v :: vs)
    | _, _ => none
def tupV : List Value → Value
  | [v] => v
  | vs => .tuple vs.toArray
/-- the marks of loops over functions -/
def exMarks (M : Tr Ent) : List Nat → Option (Tr Ent)
  | [] => some M
  | D :: l => match M.get D with
    | some (.obj (.deferred (some []))) => exMarks (M.set D none) l
    | _ => none
def listT : Nat → List Value → Tr Value → Tr Value
  | _, [], t => t
  | k, v :: l, t => listT (k + 1) l (t.set k (some v))
def undefs (n : Nat) : List Value := List.replicate n undef
def startT (args : List Value) (ntmps : Nat) : Tr Value := listT 0 (args ++ undefs (ntmps - args.length)) .nil
def exCallB (P : Program) (callF : CallF) (drawF : DrawF) (fuel : Nat) : CallF := fun f args M n =>
  match P.funcs[f]? with
  | some fn => match fn.body with
    | some c =>
      let L := args.length + (fn.ntmps - args.length)
      bif Nat.blt L LIM then
        match exCode P callF drawF fuel none c { tm := startT args fn.ntmps, L := L, M := M, n := n, md := [], ds := [] } with
        | some (ex, σ) => match ex with
          | .normal | .ret => match exMarks σ.M σ.ds with
            | some M' => match exResL P { σ with M := M' } fn.results.toList with
              | some vs => bif below σ.n (idsV dep (tupV vs)) && σ.ds.all (Nat.blt · LIM) then some ⟨tupV vs, M', σ.n, σ.ds ++ σ.md⟩ else none
              | none => none
            | none => none
          | _ => none
        | none => none
      else none
    | none => none
  | none => none
end Ex
end Go.Proofs.Ytlpjnhoafaamkaa
