/-
  linesideref13, by contract: May, Length.
-/
import Derived.Test.YteioefgckigbcaaTpRefA

import Derived.BigQuiet

import Derived.IntWalk

namespace Go.Proofs.Yteioefgckigbcaa

open Go.RowKit

open Go.Great
end Go.Proofs.Yteioefgckigbcaa
