/-
  packet: its contracts (opk_items, opk_size, opk_known, opk_up, opk_get).
-/
import Derived.Test.YtamnhnleipnhdaaDoorPkSize

import Derived.Test.YtamnhnleipnhdaaDoorPkGot
