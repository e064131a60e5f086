/-
  All; the document's Zero, Add, Merge, All; the examples.
-/
import Derived.Test.YtdoldohcimbdaaaAFace
namespace Go.Proofs.Ytdoldohcimbdaaa
open Go.RowKit

end Go.Proofs.Ytdoldohcimbdaaa

