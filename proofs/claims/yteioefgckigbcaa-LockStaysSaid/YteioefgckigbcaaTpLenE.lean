/-
  linesideref13, by contract: Length of any light track.
-/
import Derived.Test.YteioefgckigbcaaTpRefB

import Derived.BigQuiet

import Derived.IntWalk

namespace Go.Proofs.Yteioefgckigbcaa

open Go.RowKit

open Go.Great
end Go.Proofs.Yteioefgckigbcaa
