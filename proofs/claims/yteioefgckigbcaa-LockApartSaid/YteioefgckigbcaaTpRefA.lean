/-
  linesideref13, by contract: edge, end, joined, In, Out.
-/
import Derived.Test.YteioefgckigbcaaTpEq

import Derived.BigQuiet

namespace Go.Proofs.Yteioefgckigbcaa

open Go.RowKit

open Go.Great
end Go.Proofs.Yteioefgckigbcaa
