/-
  linesideref08.Derive, by contract.
-/
import Derived.Test.YtekcnmimfhiblaaMcRef

namespace Go.Proofs.Ytekcnmimfhiblaa

open Go.RowKit

open Go.Great

set_option maxRecDepth 100000 in
set_option maxHeartbeats 4000000 in
theorem ref_derive (k : Key4) (hk : k.ok) (x y : Nat) (hx : x < 4294967296) (hy : y < 4294967296) (w : World) :
    Calls Try.prog 39 #[keyV k, .int .u32 (x : Nat), .int .u32 (y : Nat)] w fun e w' => e = .returned (keyV (deriveF k x y)) ∧ Below w.heap.size w w' := by
  obtain ⟨wa, hwa⟩ : ∃ wa, (w.alloc (.cells #[.int .u32 (k.a : Nat), .int .u32 (k.b : Nat), .int .u32 (k.c : Nat), .int .u32 (k.d : Nat)] 24)).alloc (.cells #[.int .u32 0, .int .u32 0, .int .u32 0, .int .u32 0] 24) = wa := ⟨_, rfl⟩
  have hka : Has wa w.heap.size 24 (keyA k) := by rw [← hwa]; exact (Has.made _ _ _).beside _
  have hra : Has wa (w.heap.size + 1) 24 #[.int .u32 0, .int .u32 0, .int .u32 0, .int .u32 0] := by rw [← hwa]; exact has_at (by simp)
  have hba : Below w.heap.size w wa := by rw [← hwa]; exact ((Below.refl _ _).alloc (Nat.le_refl _) _).alloc (by simp) _
  have HBA := Lib.hid hba; have HWA := Lib.hid hwa; have HKA := Lib.hid hka; have HRA := Lib.hid hra
  have h1 : x * 4294967296 + y < 18446744073709551616 := by omega
  have hs1 : ((x * 4294967296 + y : Nat) : Int) = ((x : Nat) : Int) * 4294967296 + ((y : Nat) : Int) := by
    simp only [Int.natCast_add, Int.natCast_mul, Int.cast_ofNat_Int]
  have hv := encF7_lt hk h1
  have hs2 : ((18446744073709551615 - encF7 k (x * 4294967296 + y) : Nat) : Int) = (18446744073709551615 : Int) - ((encF7 k (x * 4294967296 + y) : Nat) : Int) := by
    rw [Int.natCast_sub (by omega)]; simp only [Int.cast_ofNat_Int]
  have he1 := fun W => ref_encrypt k hk (x * 4294967296 + y) h1 W
  have he2 := fun W => ref_encrypt k hk (18446744073709551615 - encF7 k (x * 4294967296 + y)) (by omega) W
  have hv2 := encF7_lt hk (b := 18446744073709551615 - encF7 k (x * 4294967296 + y)) (by omega)
  have hD : deriveF k x y = keyOf (encF7 k (x * 4294967296 + y)) (encF7 k (18446744073709551615 - encF7 k (x * 4294967296 + y))) := rfl
  rw [hD]
  rw [hs1] at he1
  rw [hs2] at he2
  clear hs1 hs2 h1 hD
  generalize encF7 k (18446744073709551615 - encF7 k (x * 4294967296 + y)) = v2 at *
  generalize encF7 k (x * 4294967296 + y) = v at *
  have HE1 := Lib.hid he1; have HE2 := Lib.hid he2; have HV2 := Lib.hid hv2
  clear he1 he2 hv2
  unfold keyV keyA at *
  obtain ⟨c0, c1, c2, c3⟩ := key_cells (k := k) HKA.out
  clear hba hwa hka hra hk
  go_enter Try.func39, Try.ntmps39
  go_wp2_with fail
  rw [HWA.out]
  clear HWA
  refine (HE1.out _).mono ?_
  rintro e w1 ⟨rfl, hb1⟩
  have HB1 := Lib.hid (HBA.out.trans (hb1.mono HBA.out.size))
  have HR1 := Lib.hid (HRA.out.under hb1 HRA.out.lt)
  have HK1 := Lib.hid (HKA.out.under hb1 HKA.out.lt)
  clear c0 c1 c2 c3
  obtain ⟨c0, c1, c2, c3⟩ := key_cells (k := k) HK1.out
  clear hb1 HE1 HBA HRA HKA hx hy
  go_wp2_with fail
  refine (HE2.out _).mono ?_
  rintro e w2 ⟨rfl, hb2⟩
  obtain ⟨p0, hp0⟩ : ∃ p : Int, ((v : Nat) : Int) / 4294967296 = p := ⟨_, rfl⟩
  obtain ⟨p1, hp1⟩ : ∃ p : Int, ((v : Nat) : Int) % 4294967296 = p := ⟨_, rfl⟩
  obtain ⟨p2, hp2⟩ : ∃ p : Int, ((v2 : Nat) : Int) / 4294967296 = p := ⟨_, rfl⟩
  obtain ⟨p3, hp3⟩ : ∃ p : Int, ((v2 : Nat) : Int) % 4294967296 = p := ⟨_, rfl⟩
  have HPK : Hid (keyA (keyOf v v2) = #[.int .u32 p0, .int .u32 p1, .int .u32 p2, .int .u32 p3]) := Lib.hid (by
    unfold keyA keyOf
    simp only [Int.natCast_ediv, Int.natCast_emod, Int.cast_ofNat_Int, hp0, hp1, hp2, hp3])
  unfold keyA at HPK
  have hbw := HB1.out.trans (hb2.mono HB1.out.size)
  have hr2 := HR1.out.under hb2 HR1.out.lt
  have HE : Hid (w2.heap[w.heap.size + 1]? = some (.cells #[.int .u32 0, .int .u32 0, .int .u32 0, .int .u32 0] 24 (0, 0))) := Lib.hid hr2
  have HF := Lib.hid (has_setRow7 hr2 #[.int .u32 p0, .int .u32 p1, .int .u32 p2, .int .u32 p3])
  have HBF := Lib.hid (below_row (g := w.heap.size + 1) hbw (by omega) #[.int .u32 p0, .int .u32 p1, .int .u32 p2, .int .u32 p3])
  have hv2 := HV2.out
  clear hb2 hbw hr2 c0 c1 c2 c3 HE2 HB1 HR1 HK1 HV2
  go_wp2_with (with_reducible refine wpList_store_rowTo (o := ⟨none, _, _, _, _, _⟩) rfl 24 _ _ rfl rfl (w.heap.size + 1) #[.int .u32 p0, .int .u32 p1, .int .u32 p2, .int .u32 p3] rfl rfl 24 _ HE.out (by kernel_rfl) (by kernel_rfl) (by kernel_rfl) ?_)
  refine bodyPost_ret (results_cell_row rfl _ _ (w.heap.size + 1) 24 _ _ _ rfl HF.out Try.underlying24 rfl (by kernel_rfl)) rfl ?_
  exact ⟨by rw [HPK.out], HBF.out⟩
end Go.Proofs.Ytekcnmimfhiblaa
