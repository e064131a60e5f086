/-
  Texts of the vault, in build order: Ctl2.
-/
import Derived.Test.YtbfhcbihgleddaaGreatDoorM02
namespace Go.Proofs.YtbfhcbihgleddaaGreatDoor
open Go.RowKit

end Go.Proofs.YtbfhcbihgleddaaGreatDoor
