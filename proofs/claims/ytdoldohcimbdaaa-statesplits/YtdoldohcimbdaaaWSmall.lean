/-
  overlap, isEmpty, joined, the closure of withSession.
-/
import Derived.Test.YtdoldohcimbdaaaWKey
namespace Go.Proofs.Ytdoldohcimbdaaa
open Go.RowKit

theorem below_box2 (w : World) (o p : Obj) : Below w.heap.size w ((w.alloc o).alloc p) := ((Below.refl _ _).alloc (Nat.le_refl _) _).alloc (by simp) _
end Go.Proofs.Ytdoldohcimbdaaa
