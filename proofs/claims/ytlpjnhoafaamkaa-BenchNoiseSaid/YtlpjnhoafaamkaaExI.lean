/-
  AN EXECUTOR, checked once: regions whose order is open.
-/
import Derived.Test.YtlpjnhoafaamkaaExH
set_option linter.unusedVariables false
set_option linter.unusedSimpArgs false
namespace Go.Proofs.Ytlpjnhoafaamkaa
open Go Go.RowKit
namespace Ex

/-- what can be reached -/
def reachF (M : Tr Ent) : Nat → List Nat → List Nat → Option (List Nat)
  | 0, _, _ => none
  | _ + 1, [], seen => some seen
  | f + 1, e :: l, seen => bif seen.any (Nat.beq e) then reachF M f l seen else match M.get e with
    | none => reachF M f l seen
    | some c => match idsE c with
      | some ids => reachF M f (ids ++ l) (e :: seen)
      | none => none
def restrict (M : Tr Ent) : List Nat → Tr Ent
  | [] => .nil
  | e :: l => (restrict M l).set e (M.get e)
def wrOf (M : Tr Ent) : List Nat → Wr
  | [] => []
  | e :: l => (e, M.get e) :: wrOf M l
def idsOf (vs : List Value) : Option (List Nat) := idsL (idsV dep) vs
/-- a call, by what it can reach -/
def drawCall (callF : CallF) (f : FuncId) (args : List Value) (M : Tr Ent) (n : Nat) : Option Rc :=
  match idsOf args with
  | none => none
  | some ids => match reachF M 100000 ids [] with
    | none => none
    | some acc => bif acc.all (Nat.blt · LIM) then match callF f args (restrict M acc) n with
      | none => none
      | some r => match idsV dep r.v with
        | none => none
        | some iv =>
          let old := r.md.filter fun e => Nat.blt e n && ((restrict M acc).get e).isSome
          match reachF r.M 100000 (iv ++ old) [] with
          | none => none
          | some live => some ⟨r.v, wrOf r.M (old ++ live.filter fun e => Nat.ble n e && Nat.blt e r.n), acc, r.n - n⟩
      else none
def drawOps (P : Program) (callF : CallF) (ops : Array Oper) : List Oper → XS → Option (List Rc × XS)
  | [], σ => some ([], σ)
  | o :: l, σ => bif dstOk σ.L o.dst then
      match (match want ops o σ.tm.get with
        | none => none
        | some false => some (⟨undef, [], [], 0⟩ : Rc)
        | some true => match evOp P o σ.tm.get σ.M.get σ.n with
          | some (.val v wr acc new) => bif wrOk σ.n (σ.n + new) wr then some ⟨v, wr, acc, new⟩ else none
          | some (.call f args) => drawCall callF f args σ.M σ.n
          | _ => none) with
      | none => none
      | some r => bif below (σ.n + r.new) (idsV dep r.v) && wrOk (σ.n + r.new) (σ.n + r.new) r.wr && Nat.blt (σ.n + r.new) LIM then
          match drawOps P callF ops l { σ with tm := putT σ.tm o.dst r.v, M := applyWr σ.M r.wr, n := σ.n + r.new, md := r.wr.map (·.1) ++ σ.md } with
          | some (rl, σ') => some (r :: rl, σ')
          | none => none
        else none
    else none
structure It where
  o : Oper
  r : Rc
  lo : Nat
  bm : Nat
def bmOf (T : Tr It) (o : Oper) : Nat := o.after.toList.foldl (fun s e => bif Region.binds .any e then s ||| (2 ^ e.on ||| (match T.get e.on with | some it => it.bm | none => 0)) else s) 0
def itsOf : Nat → Nat → List Oper → List Rc → Tr It → Tr It
  | k, n, o :: l, r :: rl, T => itsOf (k + 1) (n + r.new) l rl (T.set k (some ⟨o, r, n, bmOf T o⟩))
  | _, _, _, _, T => T
def hasN (l : List Nat) (x : Nat) : Bool := l.any (Nat.beq x)
def keysOf (wr : Wr) : List Nat := wr.map (·.1)
def noConf (ops : Array Oper) (i j : It) : Bool :=
  (match j.o.dst with | some d => !hasN (i.o.looksAt ops) d && (match i.o.dst with | some d' => !(Nat.beq d d') | none => true) | none => true) &&
  (match i.o.dst with | some d => !hasN (j.o.looksAt ops) d | none => true) &&
  (keysOf j.r.wr).all (fun e => !hasN i.r.acc e && !hasN (keysOf i.r.wr) e && !(Nat.ble i.lo e && Nat.blt e (i.lo + i.r.new))) &&
  (keysOf i.r.wr).all (fun e => !hasN j.r.acc e && !hasN (keysOf j.r.wr) e && !(Nat.ble j.lo e && Nat.blt e (j.lo + j.r.new)))
def idsWr : Wr → Option (List Nat)
  | [] => some []
  | (_, none) :: l => idsWr l
  | (_, some c) :: l => match idsE c, idsWr l with
    | some a, some b => some (a ++ b)
    | _, _ => none
def nameOk (T : Tr It) (n0 i bm x : Nat) : Bool := Nat.blt x n0 || (List.range (i + 1)).any fun k => (Nat.beq k i || Nat.testBit bm k) && match T.get k with | some kt => Nat.ble kt.lo x && Nat.blt x (kt.lo + kt.r.new) | none => false
def chkIt (T : Tr It) (ops : Array Oper) (n0 i : Nat) : Bool :=
  match T.get i with
  | none => false
  | some it => (match it.o.op with | .select .. | .defer .. => false | _ => true) &&
    it.o.after.toList.all (fun e => !Region.binds .any e || Nat.blt e.on i) && Nat.beq it.bm (bmOf T it.o) &&
    ((List.range i).all fun j => match T.get j with | some jt => Nat.testBit it.bm j || noConf ops it jt | none => false) &&
    (match idsV dep it.r.v, idsWr it.r.wr with | some a, some b => a.all (nameOk T n0 i it.bm) && b.all (nameOk T n0 i it.bm) | _, _ => false)
def exDraw (P : Program) (callF : CallF) : DrawF := fun ops σ =>
  bif Nat.blt ops.size LIM then match drawOps P callF ops ops.toList σ with
    | none => none
    | some (rl, σ') => bif (List.range ops.size).all (chkIt (itsOf 0 σ.n ops.toList rl .nil) ops σ.n) then some σ' else none
  else none
end Ex
end Go.Proofs.Ytlpjnhoafaamkaa
