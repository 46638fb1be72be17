/-
  linesidelaw15: awake.
-/
import Derived.Test.YtdkfphjcdcjbpaaSnOwn

import Derived.Test.YtdkfphjcdcjbpaaSnRefD

import Derived.BigQuiet

import Derived.IntWalk

namespace Go.Proofs.Ytdkfphjcdcjbpaa

open Go.RowKit

open Go.Great

set_option maxRecDepth 100000 in
set_option maxHeartbeats 8000000 in
theorem awake15_any (w : World) : Calls Try.prog 9 #[] w fun e w' => e = .returned (.bool true) ∧ Below w.heap.size w w' := by
  have HB := Lib.hid (Below.refl w.heap.size w)
  go_enter Try.func9, Try.ntmps9
  obtain ⟨v1, hv1⟩ : ∃ v_, w.alloc (.cells #[.int .i64 1, .int .i64 5, .int .i64 9, .int .i64 0, .int .i64 0, .int .i64 3, .int .i64 1, .int .i64 9, .int .i64 12, .int .i64 0, .int .i64 5, .int .i64 5] 41) = v_ := ⟨_, rfl⟩
  have hb : Below w.heap.size w v1 := by rw [← hv1]; exact (Below.refl _ _).alloc (Nat.le_refl _) _
  have hs_ : SlO snC 3 v1 (some ⟨w.heap.size, 0, none⟩) 4 4 [⟨1, 5, 9⟩, ⟨0, 0, 3⟩, ⟨1, 9, 12⟩, ⟨0, 5, 5⟩] := ⟨rfl, sl_hasR (by rw [← hv1]; exact Has.made _ _ _ : Has v1 w.heap.size 41 _) rfl⟩
  have HVv1 := Lib.hid hv1
  have HB := Lib.hid (HB.out.trans (hb.mono HB.out.size))
  clear hb
  have HSa := Lib.hid hs_
  have HCa := Lib.hid (Nat.le_refl 4)
  have HNa := Lib.hid (show 4 ≤ 4096 by omega)
  clear hs_ hv1
  go_upto_region 1 with fail
  have hk_ := osn_norm (([⟨1, 5, 9⟩, ⟨0, 0, 3⟩, ⟨1, 9, 12⟩, ⟨0, 5, 5⟩] : List Sn3)) (some ⟨w.heap.size, 0, none⟩) 4 4 v1 HSa.out HCa.out (by have := HNa.out; omega)
  rw [show normL ([⟨1, 5, 9⟩, ⟨0, 0, 3⟩, ⟨1, 9, 12⟩, ⟨0, 5, 5⟩] : List Sn3) = [⟨0, 0, 3⟩, ⟨1, 5, 12⟩] from by kernel_rfl] at hk_
  have HK := Lib.hid hk_
  clear hk_
  go_wp2_with fail
  rw [HVv1.out]
  refine HK.out.mono ?_
  rintro r_ v2 ⟨X2, x2, rfl, hs_, hc_, hb⟩
  clear HK
  have HB := Lib.hid (HB.out.trans (hb.mono HB.out.size))
  have HSa := Lib.hid (HSa.out.under hb)
  clear hb
  have HSl := Lib.hid (show SlO snC 3 v2 X2 2 x2 [⟨0, 0, 3⟩, ⟨1, 5, 12⟩] from hs_)
  have HCl := Lib.hid (show 2 ≤ x2 from hc_)
  have HNl := Lib.hid (show 2 ≤ 4096 by omega)
  clear hs_ hc_
  skip
  clear HSa HCa HNa
  obtain ⟨v3, hv3⟩ : ∃ v_, v2.alloc (.cells #[.int .i64 1, .int .i64 6, .int .i64 7] 41) = v_ := ⟨_, rfl⟩
  have hb : Below v2.heap.size v2 v3 := by rw [← hv3]; exact (Below.refl _ _).alloc (Nat.le_refl _) _
  have hs_ : SlO snC 3 v3 (some ⟨v2.heap.size, 0, none⟩) 1 1 [⟨1, 6, 7⟩] := ⟨rfl, sl_hasR (by rw [← hv3]; exact Has.made _ _ _ : Has v3 v2.heap.size 41 _) rfl⟩
  have HVv3 := Lib.hid hv3
  have HB := Lib.hid (HB.out.trans (hb.mono HB.out.size))
  have HSl := Lib.hid (HSl.out.under hb)
  clear hb
  have HSb := Lib.hid hs_
  have HCb := Lib.hid (Nat.le_refl 1)
  have HNb := Lib.hid (show 1 ≤ 4096 by omega)
  clear hs_ hv3
  have hk_ := osn_minus (([⟨0, 0, 3⟩, ⟨1, 5, 12⟩] : List Sn3)) (([⟨1, 6, 7⟩] : List Sn3)) X2 (some ⟨v2.heap.size, 0, none⟩) 2 x2 1 1 v3 HSl.out HSb.out HCl.out HCb.out (by have := HNl.out; omega) (by have := HNb.out; omega)
  rw [show minusL ([⟨0, 0, 3⟩, ⟨1, 5, 12⟩] : List Sn3) ([⟨1, 6, 7⟩] : List Sn3) = [⟨0, 0, 3⟩, ⟨1, 5, 6⟩, ⟨1, 7, 12⟩] from by kernel_rfl] at hk_
  have HK := Lib.hid hk_
  clear hk_
  go_wp2_with fail
  rw [HVv3.out]
  refine HK.out.mono ?_
  rintro r_ v4 ⟨X4, x4, rfl, hs_, hc_, hb⟩
  clear HK
  have HB := Lib.hid (HB.out.trans (hb.mono HB.out.size))
  have HSl := Lib.hid (HSl.out.under hb)
  have HSb := Lib.hid (HSb.out.under hb)
  clear hb
  have HSm := Lib.hid (show SlO snC 3 v4 X4 3 x4 [⟨0, 0, 3⟩, ⟨1, 5, 6⟩, ⟨1, 7, 12⟩] from hs_)
  have HCm := Lib.hid (show 3 ≤ x4 from hc_)
  have HNm := Lib.hid (show 3 ≤ 4096 by omega)
  clear hs_ hc_
  skip
  clear HSb HCb HNb
  obtain ⟨v5, hv5⟩ : ∃ v_, v4.alloc (.cells #[.int .i64 0, .int .i64 0, .int .i64 3, .int .i64 1, .int .i64 5, .int .i64 12] 41) = v_ := ⟨_, rfl⟩
  have hb : Below v4.heap.size v4 v5 := by rw [← hv5]; exact (Below.refl _ _).alloc (Nat.le_refl _) _
  have hs_ : SlO snC 3 v5 (some ⟨v4.heap.size, 0, none⟩) 2 2 [⟨0, 0, 3⟩, ⟨1, 5, 12⟩] := ⟨rfl, sl_hasR (by rw [← hv5]; exact Has.made _ _ _ : Has v5 v4.heap.size 41 _) rfl⟩
  have HVv5 := Lib.hid hv5
  have HB := Lib.hid (HB.out.trans (hb.mono HB.out.size))
  have HSl := Lib.hid (HSl.out.under hb)
  have HSm := Lib.hid (HSm.out.under hb)
  clear hb
  have HSc := Lib.hid hs_
  have HCc := Lib.hid (Nat.le_refl 2)
  have HNc := Lib.hid (show 2 ≤ 4096 by omega)
  clear hs_ hv5
  go_wp2_with fail
  rw [HVv5.out]
  skip
  have hq_ : sameN (([⟨0, 0, 3⟩, ⟨1, 5, 12⟩] : List Sn3)) (([⟨0, 0, 3⟩, ⟨1, 5, 12⟩] : List Sn3)) = true := (sameN_iff _ _).2 (by rfl)
  refine (rssame_any (([⟨0, 0, 3⟩, ⟨1, 5, 12⟩] : List Sn3)) (([⟨0, 0, 3⟩, ⟨1, 5, 12⟩] : List Sn3)) X2 (some ⟨v4.heap.size, 0, none⟩) 2 x2 2 2 v5 HSl.out HSc.out (by have := HNl.out; omega) (by have := HNc.out; omega)).mono ?_
  rw [hq_]
  clear hq_
  rintro r_ v6 ⟨rfl, hb⟩
  have HB := Lib.hid (HB.out.trans (hb.mono HB.out.size))
  have HSl := Lib.hid (HSl.out.under hb)
  have HSm := Lib.hid (HSm.out.under hb)
  have HSc := Lib.hid (HSc.out.under hb)
  clear hb
  clear HSc HCc HNc
  obtain ⟨v7, hv7⟩ : ∃ v_, v6.alloc (.cells #[.int .i64 0, .int .i64 0, .int .i64 3, .int .i64 1, .int .i64 5, .int .i64 6, .int .i64 1, .int .i64 7, .int .i64 12] 41) = v_ := ⟨_, rfl⟩
  have hb : Below v6.heap.size v6 v7 := by rw [← hv7]; exact (Below.refl _ _).alloc (Nat.le_refl _) _
  have hs_ : SlO snC 3 v7 (some ⟨v6.heap.size, 0, none⟩) 3 3 [⟨0, 0, 3⟩, ⟨1, 5, 6⟩, ⟨1, 7, 12⟩] := ⟨rfl, sl_hasR (by rw [← hv7]; exact Has.made _ _ _ : Has v7 v6.heap.size 41 _) rfl⟩
  have HVv7 := Lib.hid hv7
  have HB := Lib.hid (HB.out.trans (hb.mono HB.out.size))
  have HSl := Lib.hid (HSl.out.under hb)
  have HSm := Lib.hid (HSm.out.under hb)
  clear hb
  have HSc := Lib.hid hs_
  have HCc := Lib.hid (Nat.le_refl 3)
  have HNc := Lib.hid (show 3 ≤ 4096 by omega)
  clear hs_ hv7
  go_wp2_with fail
  rw [HVv7.out]
  skip
  have hq_ : sameN (([⟨0, 0, 3⟩, ⟨1, 5, 6⟩, ⟨1, 7, 12⟩] : List Sn3)) (([⟨0, 0, 3⟩, ⟨1, 5, 6⟩, ⟨1, 7, 12⟩] : List Sn3)) = true := (sameN_iff _ _).2 (by rfl)
  refine (rssame_any (([⟨0, 0, 3⟩, ⟨1, 5, 6⟩, ⟨1, 7, 12⟩] : List Sn3)) (([⟨0, 0, 3⟩, ⟨1, 5, 6⟩, ⟨1, 7, 12⟩] : List Sn3)) X4 (some ⟨v6.heap.size, 0, none⟩) 3 x4 3 3 v7 HSm.out HSc.out (by have := HNm.out; omega) (by have := HNc.out; omega)).mono ?_
  rw [hq_]
  clear hq_
  rintro r_ v8 ⟨rfl, hb⟩
  have HB := Lib.hid (HB.out.trans (hb.mono HB.out.size))
  have HSl := Lib.hid (HSl.out.under hb)
  have HSm := Lib.hid (HSm.out.under hb)
  have HSc := Lib.hid (HSc.out.under hb)
  clear hb
  clear HSc HCc HNc
  have hk_ := osn_has (([⟨0, 0, 3⟩, ⟨1, 5, 12⟩] : List Sn3)) X2 2 x2 1 11 v8 HSl.out HCl.out (by have := HNl.out; omega)
  rw [show hasL ([⟨0, 0, 3⟩, ⟨1, 5, 12⟩] : List Sn3) 1 11 = true from by kernel_rfl] at hk_
  have HK := Lib.hid hk_
  clear hk_
  go_wp2_with fail
  refine HK.out.mono ?_
  rintro r_ v9 ⟨rfl, hb⟩
  clear HK
  have HB := Lib.hid (HB.out.trans (hb.mono HB.out.size))
  have HSl := Lib.hid (HSl.out.under hb)
  have HSm := Lib.hid (HSm.out.under hb)
  clear hb
  have hk_ := osn_has (([⟨0, 0, 3⟩, ⟨1, 5, 12⟩] : List Sn3)) X2 2 x2 1 12 v9 HSl.out HCl.out (by have := HNl.out; omega)
  rw [show hasL ([⟨0, 0, 3⟩, ⟨1, 5, 12⟩] : List Sn3) 1 12 = false from by kernel_rfl] at hk_
  have HK := Lib.hid hk_
  clear hk_
  go_wp2_with fail
  refine HK.out.mono ?_
  rintro r_ v10 ⟨rfl, hb⟩
  clear HK
  have HB := Lib.hid (HB.out.trans (hb.mono HB.out.size))
  have HSl := Lib.hid (HSl.out.under hb)
  have HSm := Lib.hid (HSm.out.under hb)
  clear hb
  have hk_ := osn_total (([⟨0, 0, 3⟩, ⟨1, 5, 6⟩, ⟨1, 7, 12⟩] : List Sn3)) X4 3 x4 v10 HSm.out HCm.out (by have := HNm.out; omega)
  rw [show totalL ([⟨0, 0, 3⟩, ⟨1, 5, 6⟩, ⟨1, 7, 12⟩] : List Sn3) = 9 from by kernel_rfl] at hk_
  have HK := Lib.hid hk_
  clear hk_
  go_wp2_with fail
  refine HK.out.mono ?_
  rintro r_ v11 ⟨rfl, hb⟩
  clear HK
  have HB := Lib.hid (HB.out.trans (hb.mono HB.out.size))
  have HSl := Lib.hid (HSl.out.under hb)
  have HSm := Lib.hid (HSm.out.under hb)
  clear hb
  have hk_ := osn_within (([⟨0, 0, 3⟩, ⟨1, 5, 6⟩, ⟨1, 7, 12⟩] : List Sn3)) (([⟨0, 0, 3⟩, ⟨1, 5, 12⟩] : List Sn3)) X4 X2 3 x4 2 x2 v11 HSm.out HSl.out HCm.out HCl.out (by have := HNm.out; omega) (by have := HNl.out; omega)
  rw [show withinL ([⟨0, 0, 3⟩, ⟨1, 5, 6⟩, ⟨1, 7, 12⟩] : List Sn3) ([⟨0, 0, 3⟩, ⟨1, 5, 12⟩] : List Sn3) = true from by kernel_rfl] at hk_
  have HK := Lib.hid hk_
  clear hk_
  go_wp2_with fail
  refine HK.out.mono ?_
  rintro r_ v12 ⟨rfl, hb⟩
  clear HK
  have HB := Lib.hid (HB.out.trans (hb.mono HB.out.size))
  have HSl := Lib.hid (HSl.out.under hb)
  have HSm := Lib.hid (HSm.out.under hb)
  clear hb
  have hk_ := osn_meets (([⟨0, 0, 3⟩, ⟨1, 5, 6⟩, ⟨1, 7, 12⟩] : List Sn3)) (([⟨0, 0, 3⟩, ⟨1, 5, 12⟩] : List Sn3)) X4 X2 3 x4 2 x2 v12 HSm.out HSl.out HCm.out HCl.out (by have := HNm.out; omega) (by have := HNl.out; omega)
  rw [show meetsL ([⟨0, 0, 3⟩, ⟨1, 5, 6⟩, ⟨1, 7, 12⟩] : List Sn3) ([⟨0, 0, 3⟩, ⟨1, 5, 12⟩] : List Sn3) = true from by kernel_rfl] at hk_
  have HK := Lib.hid hk_
  clear hk_
  go_wp2_with fail
  refine HK.out.mono ?_
  rintro r_ v13 ⟨rfl, hb⟩
  clear HK
  have HB := Lib.hid (HB.out.trans (hb.mono HB.out.size))
  have HSl := Lib.hid (HSl.out.under hb)
  have HSm := Lib.hid (HSm.out.under hb)
  clear hb
  go_wp2
  go_ret
  exact ⟨by first | rfl | simp, HB.out⟩

end Go.Proofs.Ytdkfphjcdcjbpaa
