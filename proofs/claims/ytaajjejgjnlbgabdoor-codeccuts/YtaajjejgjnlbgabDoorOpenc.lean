import Derived.Test.YtaajjejgjnlbgabDoorOpenf
namespace Go.Proofs.YtaajjejgjnlbgabDoor
open Go.RowKit

/-- A control message. -/
structure Ctl where
  kd : Int
  ep : Int
  n : Int
  tk : Int
def Ctl.cs (c : Ctl) : Array Value := #[.int .i64 c.kd, .int .u64 c.ep, .int .u64 c.n, .int .i64 c.tk]
def Ctl.val (c : Ctl) : Value := .agg c.cs
def Ctl.zero : Ctl := ⟨0, 0, 0, 0⟩
def rControl (s : List Nat × Bool) : Ctl × (List Nat × Bool) :=
  (⟨(num 1 s).1, (num 8 (num 1 s).2).1, (num 8 (num 8 (num 1 s).2).2).1, (num 2 (num 8 (num 8 (num 1 s).2).2).2).1⟩,
    if 1 ≤ (num 1 s).1 ∧ (num 1 s).1 ≤ 6 then (num 2 (num 8 (num 8 (num 1 s).2).2).2).2 else ((num 2 (num 8 (num 8 (num 1 s).2).2).2).2.1, true))

end Go.Proofs.YtaajjejgjnlbgabDoor
