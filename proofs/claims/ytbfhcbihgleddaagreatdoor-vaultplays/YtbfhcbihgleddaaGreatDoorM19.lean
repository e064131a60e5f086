/-
  Texts of the vault, in build order: VAll, DBase.
-/
import Derived.Test.YtbfhcbihgleddaaGreatDoorM12
import Derived.Test.YtbfhcbihgleddaaGreatDoorM10
import Derived.Test.YtbfhcbihgleddaaGreatDoorM14
import Derived.Test.YtbfhcbihgleddaaGreatDoorM16
import Derived.Test.YtbfhcbihgleddaaGreatDoorM17
import Derived.Test.YtbfhcbihgleddaaGreatDoorM05
import Derived.Test.YtbfhcbihgleddaaGreatDoorM08
import Derived.Test.YtbfhcbihgleddaaGreatDoorM09
import Derived.Test.YtbfhcbihgleddaaGreatDoorM07
import Derived.Test.YtbfhcbihgleddaaGreatDoorM18
import Derived.Test.YtbfhcbihgleddaaGreatDoorProg
import Derived.WalkKit
import Derived.Laws.StructEq
import Derived.Deep.RegionHeld
import Derived.Deep.RegionHeld3
import Derived.Deep.QuietTactic
import Derived.BigQuiet
import Derived.Laws.AppendOwnNone
import Derived.Lib.SliceRun

/-
  Rows of bytes, boxes, what stays: the laws of the walks over package disk (turned from the walks over package codec).
-/
namespace Go
section
variable {P : Program} {w : World}
end
end Go
namespace Go.Proofs.YtbfhcbihgleddaaGreatDoor
open Go.RowKit

end Go.Proofs.YtbfhcbihgleddaaGreatDoor
