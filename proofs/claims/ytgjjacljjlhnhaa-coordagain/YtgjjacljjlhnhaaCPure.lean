/-
  The coordinator as pure functions.
-/
import Derived.Test.YtgjjacljjlhnhaaCTx
namespace Go.Proofs.Ytgjjacljjlhnhaa
open Go.RowKit

/-- A coordinator, by its fields: T its tasks, S its sinks; rd ready, ak acked, dn done. -/
structure Cd where
  iv : Nat
  to_ : Nat
  pa : Nat
  ep : Nat
  du : Nat
  un : Nat
  st : Bool
  gr : Nat
  ti : Nat
  be : Nat
  T : List Int
  S : List Int
  rd : List Int
  ak : List Int
  dn : List Int
/-- A message. -/
structure Ct where
  kind : Int
  ep : Nat
  n : Nat
  task : Int
def miss (l a : List Int) : List Int := l.filter fun x => !a.contains x
def tellL (k : Int) (e n : Nat) (l : List Int) : List Ct := l.map fun t => ⟨k, e, n, t⟩
def cRest (s : Cd) : List Ct := tellL 5 s.ep s.du (miss s.T s.rd)
def cComm (s : Cd) : List Ct := if s.du = 0 then [] else tellL 3 s.ep s.du (miss s.S s.dn)
def cTrig (s : Cd) : List Ct := if s.un = 0 then [] else tellL 1 s.ep s.un (miss s.T s.ak)
def cBegS (s : Cd) (e f l : Nat) : Cd := if e ≤ s.ep then s else { s with ep := e, du := f, gr := max (max s.gr f) l, un := 0, st := false, pa := s.to_, ti := 0, be := 0, rd := [], dn := [] }
def cBegO (s : Cd) (e f l : Nat) : List Ct := if e ≤ s.ep then [] else cRest (cBegS s e f l)
def cNext (s : Cd) : Cd := { s with gr := s.gr + 1, un := s.gr + 1, be := s.ti, ak := [] }
def cGive (s : Cd) : Cd := if 0 < s.un ∧ s.st = false ∧ s.be + s.pa ≤ s.ti then { s with un := 0, pa := min (2 * s.pa) 1048576 } else s
def cMove (s : Cd) : Cd := if (cGive s).un = 0 ∧ s.be + s.iv ≤ s.ti then cNext (cGive s) else cGive s
def cTickS (s : Cd) : Cd := if s.ep = 0 then s else if s.rd.length ≠ s.T.length then s else cMove { s with ti := s.ti + 1 }
def cTickO (s : Cd) : List Ct := if s.ep = 0 then [] else if s.rd.length ≠ s.T.length then cRest s else cComm (cTickS s) ++ cTrig (cTickS s)
/-- Who answers anew. -/
def fresh (l a : List Int) (x : Int) : Bool := l.contains x && !a.contains x
def ansL (l a : List Int) (x : Int) : List Int := if fresh l a x then x :: a else a
def ansB (l a : List Int) (x : Int) : Bool := fresh l a x && a.length + 1 == l.length
def cTakeS (s : Cd) (m : Ct) : Cd :=
  if m.ep ≠ s.ep then s
  else if m.kind = 6 ∧ m.n = s.du then { s with rd := ansL s.T s.rd m.task }
  else if m.kind = 4 ∧ m.n = s.du then { s with dn := ansL s.S s.dn m.task }
  else if m.kind = 2 ∧ m.n = s.un ∧ 0 < s.un then { s with ak := ansL s.T s.ak m.task, st := s.st || ansB s.T s.ak m.task }
  else s
def cTakeN (s : Cd) (m : Ct) : Nat :=
  if m.ep ≠ s.ep then 0
  else if m.kind = 6 ∧ m.n = s.du then 0
  else if m.kind = 4 ∧ m.n = s.du then 0
  else if m.kind = 2 ∧ m.n = s.un ∧ 0 < s.un ∧ ansB s.T s.ak m.task = true then s.un
  else 0
def cStoS (s : Cd) (n : Nat) (ok : Bool) : Cd :=
  if s.st = false ∨ n ≠ s.un then s
  else if ok = false then { s with un := 0, st := false }
  else { s with un := 0, st := false, du := n, pa := s.to_, dn := [] }
def cStoO (s : Cd) (n : Nat) (ok : Bool) : List Ct :=
  if s.st = false ∨ n ≠ s.un then [] else if ok = false then [] else cComm (cStoS s n ok)
def cSet (s : Cd) : Bool := decide (0 < s.ep) && (s.rd.length == s.T.length) && (s.un == 0) && (s.du == 0 || s.dn.length == s.S.length)
def once (l : List Int) : List Int := l.foldl (fun o x => if o.contains x then o else o ++ [x]) []
def bnd (x : Int) : Nat := (min (max x 1) 1000).toNat
def cNew (tasks sinks : List Int) (iv to_ : Int) : Cd :=
  ⟨bnd iv, bnd to_, bnd to_, 0, 0, 0, false, 0, 0, 0, once tasks, (once sinks).filter fun x => (once tasks).contains x, [], [], []⟩

end Go.Proofs.Ytgjjacljjlhnhaa
