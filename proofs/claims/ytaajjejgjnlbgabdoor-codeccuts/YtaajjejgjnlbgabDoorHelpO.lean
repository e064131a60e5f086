/-
  Walks over the helps of the laws: lists of marks, of panes, of captured frames held against one another; parts.
-/
import Derived.Test.YtaajjejgjnlbgabDoorHelp
namespace Go.Proofs.YtaajjejgjnlbgabDoor
open Go.RowKit


end Go.Proofs.YtaajjejgjnlbgabDoor
