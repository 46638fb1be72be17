/-
  place: positions as cells, compared.
-/
import Derived.Test.YtdkfphjcdcjbpaaTpEq

import Derived.Test.YtdkfphjcdcjbpaaPlPure

namespace Go.Proofs.Ytdkfphjcdcjbpaa

open Go.RowKit

open Go.Great

def psA (p : Ps3) : Array Value := #[.int .i64 p.edge, .int .i64 p.at_, .bool p.rev]
end Go.Proofs.Ytdkfphjcdcjbpaa
