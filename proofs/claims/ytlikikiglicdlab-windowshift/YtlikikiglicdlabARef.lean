/-
  All; the document's Zero, Add, Merge, All; the examples.
-/
import Derived.Test.YtlikikiglicdlabAFace
namespace Go.Proofs.Ytlikikiglicdlab
open Go.RowKit

end Go.Proofs.Ytlikikiglicdlab

