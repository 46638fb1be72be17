/-
  linesideref08.Derive, by contract.
-/
import Derived.Test.YtojbinpicoeppaaMcRef

namespace Go.Proofs.Ytojbinpicoeppaa

open Go.RowKit

open Go.Great
end Go.Proofs.Ytojbinpicoeppaa
