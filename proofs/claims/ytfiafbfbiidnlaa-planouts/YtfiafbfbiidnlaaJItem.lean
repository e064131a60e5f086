/-
  Logs: items, and whether they may stand there.
-/
import Derived.Test.YtfiafbfbiidnlaaJCheck
namespace Go.Proofs.Ytfiafbfbiidnlaa
open Go.RowKit

/-- An item of a log. -/
structure It where
  kind : Int
  key : Int
  time : Int
  val : Int
  mark : Int
def It.cs (i : It) : List Value := [.int .i64 i.kind, .int .i64 i.key, .int .i64 i.time, .int .i64 i.val, .int .i64 i.mark]
def It.vl (i : It) : Value := .agg #[.int .i64 i.kind, .int .i64 i.key, .int .i64 i.time, .int .i64 i.val, .int .i64 i.mark]
theorem It.cs_len (i : It) : i.cs.length = 5 := rfl
def tmB (t : Int) : Bool := decide (-1099511627776 ≤ t ∧ t ≤ 1099511627776)
def recB (key time val : Int) : Bool := decide (key = 0 ∧ time = 0 ∧ val = 0)
def mkB9 (m : Int) : Bool := decide (m = 9223372036854775807)
def noneB (i : It) : Bool := if i.kind = 1 then (!decide (i.mark = 0) || !tmB i.time) else if i.kind = 2 then (!recB i.key i.time i.val || (!tmB i.mark && !mkB9 i.mark)) else true
def endB (i : It) : Bool := decide (i.kind = 2) && mkB9 i.mark

end Go.Proofs.Ytfiafbfbiidnlaa
