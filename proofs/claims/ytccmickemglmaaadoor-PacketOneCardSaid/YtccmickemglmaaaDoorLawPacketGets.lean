/-
  linesidelaw05.PacketGets, walked.
-/
import Derived.Test.YtccmickemglmaaaDoorLawAwake05

namespace Go.Proofs.YtccmickemglmaaaDoor

open Go.RowKit

open BitsM

theorem getF_len (bits : List Bool) (a : Int) : (getF bits a).1.2.length ≤ 8184 := by
  by_cases h : (getF bits a).2.2 = 0
  · obtain ⟨O, R, hi, _⟩ := get_only (bits := bits) (a := a) (end_ := (getF bits a).2.1) (id := (getF bits a).1.1) (V := (getF bits a).1.2) (by rw [← h])
    obtain ⟨_, D1, D2, w, hV, hO, ht⟩ := items_ok hi
    have hlen : ∀ (l : List (Int × Int)), (∀ x ∈ l, 1 ≤ x.2) → (l.length : Int) ≤ totalOf l := by
      intro l
      induction l with
      | nil => intro _; simp [totalOf]
      | cons x l ih => intro hl; rw [total_cons, List.length_cons]; have := hl x (by simp); have := ih (fun y hy => hl y (by simp [hy])); omega
    have h3 := hlen (D1 ++ D2) (fun x hx => (w.fit x hx).2.2.1)
    have h4 := total_mid (getF bits a).1.1 (totalOf O) D1 D2
    rw [← hO] at h4
    rw [total_append] at h3
    rw [hV, List.length_map]
    omega
  · rw [(get_err h).1]; simp
theorem int_bounds {a : Int} (h : (Lit.int .i64 a).wf = true) : -9223372036854775808 ≤ a ∧ a ≤ 9223372036854775807 := by
  have h2 : (decide (IntKind.i64.min ≤ a) && decide (a ≤ IntKind.i64.max)) = true := h
  rw [Bool.and_eq_true, decide_eq_true_eq, decide_eq_true_eq] at h2
  exact h2

set_option maxRecDepth 100000 in
set_option maxHeartbeats 4000000 in
theorem packetGets_walk (A : Option Addr) (n c : Nat) (zs : List Int) (a : Int) (w : World) (hcn : InInts .u8 w A n zs ∧ n ≤ c) (hw : (Lit.int .i64 a).wf = true) (hwd : Wd w) :
    Calls Tryd.prog 4 #[.slice A n c, .int .i64 a] w fun e w' => e = .returned (.bool true) ∧ Below w.heap.size w w' := by
  obtain ⟨h, hcap⟩ := hcn
  obtain ⟨hl, _, ha, hb⟩ := h.bytes
  have hbd := int_bounds hw
  have HA0 := Lib.hid (awake_any w hwd)
  have HWD := Lib.hid hwd; clear hwd
  by_cases hin : n ≤ 1500
  · rw [← hl] at hin hcap ⊢
    generalize zs.map Int.toNat = xs at *
    have HA := Lib.hid ha; have HB := Lib.hid hb
    have x1 : ¬ (1500 : Int) < (xs.length : Int) := by omega
    clear h ha hb hl hw
    go_enter Tryd.func4, Tryd.ntmps4
    go_wp2_with fail
    refine HA0.out.mono ?_
    rintro e w1 ⟨rfl, hb1⟩
    have HB1 := Lib.hid hb1
    have HG := Lib.hid (opk_get A c xs a w1 (at8_low HA.out hb1) HB.out hin hcap hbd.1 hbd.2 (HWD.out.under hb1))
    clear hb1 HA0
    go_wp2_with fail
    refine HG.out.mono ?_
    rintro e w2 ⟨A2, n2, c2, rfl, hs2', hb2⟩
    have hs2 : SlN w2 A2 n2 c2 _ := ⟨hs2'.len, hs2'.sl⟩
    clear hs2'
    have hb2' : Below w1.heap.size w1 (w2.alloc (.cells #[.int .i64 (getF (bitsOf xs) a).1.1, .slice A2 n2 c2] 24)) := hb2.alloc hb2.size _
    have HB2 := Lib.hid (HB1.out.trans (hb2'.mono HB1.out.size))
    have HS2 : Hid (SlN (w2.alloc (.cells #[.int .i64 (getF (bitsOf xs) a).1.1, .slice A2 n2 c2] 24)) A2 n2 c2 (getF (bitsOf xs) a).1.2) := hs2.under ((Below.refl _ _).alloc (Nat.le_refl _) _)
    have HG2 := Lib.hid (pget_any A c xs a (w2.alloc (.cells #[.int .i64 (getF (bitsOf xs) a).1.1, .slice A2 n2 c2] 24)) (at8_low HA.out HB2.out) HB.out (by omega) hbd.1 hbd.2)
    have hsz2 : w2.heap.size < (w2.alloc (.cells #[.int .i64 (getF (bitsOf xs) a).1.1, .slice A2 n2 c2] 24)).heap.size := by simp
    have hcell : ∀ i v, (#[Value.int .i64 (getF (bitsOf xs) a).1.1, .slice A2 n2 c2])[i]? = some v → (w2.alloc (.cells #[.int .i64 (getF (bitsOf xs) a).1.1, .slice A2 n2 c2] 24)).cell? ⟨w2.heap.size, i, none⟩ = some v := fun i v hv => by
      rw [(Has.made w2 24 _).cell]; exact hv
    have hgl := getF_len (bitsOf xs) a
    have hn2 : n2 ≤ 1048576 := by have := hs2.len; omega
    have HC0 := Lib.hid (hcell 0 _ rfl)
    have HC1 := Lib.hid (hcell 1 _ rfl)
    generalize getF (bitsOf xs) a = G at *
    clear hs2 hb2 hb2' HG HB1 hcell
    unfold pkV
    go_wp2_with fail
    refine HG2.out.mono ?_
    rintro e w3 ⟨A3, n3, c3, rfl, hs3', hb3, _⟩
    have hs3 : SlN w3 A3 n3 c3 _ := ⟨hs3'.len, hs3'.sl⟩
    clear hs3'
    have hn3 : n3 ≤ 1048576 := by have := hs3.len; omega
    have hb3' : Below (w2.alloc (.cells #[.int .i64 G.1.1, .slice A2 n2 c2] 24)).heap.size (w2.alloc (.cells #[.int .i64 G.1.1, .slice A2 n2 c2] 24)) (w3.alloc (.cells #[.int .i64 G.1.1, .slice A3 n3 c3] 24)) := hb3.alloc hb3.size _
    have HB3 := Lib.hid (HB2.out.trans (hb3'.mono HB2.out.size))
    have k20 : (w3.alloc (.cells #[.int .i64 G.1.1, .slice A3 n3 c3] 24)).cell? ⟨w2.heap.size, 0, none⟩ = some (.int .i64 G.1.1) := by rw [hb3'.cell hsz2]; exact HC0.out
    have k21 : (w3.alloc (.cells #[.int .i64 G.1.1, .slice A3 n3 c3] 24)).cell? ⟨w2.heap.size, 1, none⟩ = some (.slice A2 n2 c2) := by rw [hb3'.cell hsz2]; exact HC1.out
    have HSM := Lib.hid (same_any G.1.1 G.1.1 A2 A3 n2 c2 n3 c3 G.1.2 G.1.2 (w3.alloc (.cells #[.int .i64 G.1.1, .slice A3 n3 c3] 24)) (HS2.out.under hb3') (hs3.under ((Below.refl _ _).alloc (Nat.le_refl _) _)) hn2 hn3)
    rw [decide_eq_true rfl, decide_eq_true rfl] at HSM
    unfold pkV at HSM
    clear hs3 hb3 hb3' HG2 HB2 HS2 HC0 HC1 hsz2 hgl
    go_wp2_with fail
    refine HSM.out.mono ?_
    rintro e w4 ⟨rfl, hb4⟩
    have HB4 := Lib.hid (HB3.out.trans (hb4.mono HB3.out.size))
    clear hb4 k20 k21
    go_wp2
    go_ret
    exact ⟨by simp, HB4.out⟩
  · have x1 : (1500 : Int) < (n : Int) := by omega
    clear h ha hb hl hw hbd
    go_enter Tryd.func4, Tryd.ntmps4
    go_wp2_with fail
    refine HA0.out.mono ?_
    rintro e w1 ⟨rfl, hb1⟩
    have HB1 := Lib.hid hb1
    clear hb1 HA0
    go_wp2
    go_ret
    exact ⟨rfl, HB1.out⟩
end Go.Proofs.YtccmickemglmaaaDoor
