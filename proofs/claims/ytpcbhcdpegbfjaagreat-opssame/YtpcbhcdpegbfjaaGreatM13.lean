/-
  Texts in build order: ARef.
-/
import Derived.Test.YtpcbhcdpegbfjaaGreatM12
/-
  All; the document's Zero, Add, Merge, All; the examples.
-/
namespace Go.Proofs.YtpcbhcdpegbfjaaGreat
open Go.RowKit

end Go.Proofs.YtpcbhcdpegbfjaaGreat
