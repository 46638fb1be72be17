/-
  linesideref15, by contract: Has, wanted, with, Same.
-/
import Derived.Test.YteioefgckigbcaaSnEq

import Derived.BigQuiet

import Derived.IntWalk

namespace Go.Proofs.Yteioefgckigbcaa

open Go.RowKit

open Go.Great
end Go.Proofs.Yteioefgckigbcaa
