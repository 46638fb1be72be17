/-
  package packet's Get: the decoder's end; where a reader begins; what recovers.
-/
import Derived.Test.YtamnhnleipnhdaaDoorDecC

import Derived.Recover

namespace Go.Proofs.YtamnhnleipnhdaaDoor

open Go.RowKit

open BitsM

theorem dfin_len (g : Nat) (cs : Array Value) (L size : Int) (w : World) (h : Has w g 131 cs) (hc : cs[2]? = some (.int .i64 L)) (hl : L ≠ size) :
    Calls Tryd.prog 92 #[.pointer (some ⟨g, 0, none⟩), .int .i64 size] w fun e w' => e = panE 20 ∧ w = w' := by
  have k2 : w.cell? ⟨g, 2, none⟩ = some (.int .i64 L) := by rw [h.cell]; exact hc
  have x : (L != size) = true := by simp [hl]
  clear h hc hl
  unfold panE
  go_enter Tryd.func92, Tryd.ntmps92
  go_wp2
  exact ⟨rfl, rfl, rfl⟩
theorem dfin_long (g : Nat) (cs : Array Value) (size : Int) (w : World) (h : Has w g 131 cs) (hc : cs[2]? = some (.int .i64 size)) (h8 : 8184 < size) :
    Calls Tryd.prog 92 #[.pointer (some ⟨g, 0, none⟩), .int .i64 size] w fun e w' => e = panE 2 ∧ w = w' := by
  have k2 : w.cell? ⟨g, 2, none⟩ = some (.int .i64 size) := by rw [h.cell]; exact hc
  have x : (size != size) = false := by simp
  clear h hc
  unfold panE
  go_enter Tryd.func92, Tryd.ntmps92
  go_wp2
  exact ⟨rfl, rfl, rfl⟩
theorem dfin_ok (g : Nat) (cs : Array Value) (size : Int) (w : World) (h : Has w g 131 cs) (hc : cs[2]? = some (.int .i64 size)) (h8 : ¬ 8184 < size) :
    Calls Tryd.prog 92 #[.pointer (some ⟨g, 0, none⟩), .int .i64 size] w fun e w' => e = .returned (.tuple #[]) ∧ w = w' := by
  have k2 : w.cell? ⟨g, 2, none⟩ = some (.int .i64 size) := by rw [h.cell]; exact hc
  have x : (size != size) = false := by simp
  clear h hc
  go_enter Tryd.func92, Tryd.ntmps92
  go_wp2
  refine bodyPost_end (results_none rfl _ _ _) rfl ?_
  exact ⟨rfl, rfl⟩

theorem bitAt_drop (xs : List Nat) (q i : Nat) : bitAt (xs.drop q) i = bitAt xs (8 * q + i) := by
  unfold bitAt
  rw [show (8 * q + i) / 8 = q + i / 8 by omega, show (8 * q + i) % 8 = i % 8 by omega]
  simp [List.getD_eq_getElem?_getD]
theorem drop_bits (xs : List Nat) (a : Nat) (ha : a ≤ 8 * xs.length) : (bitsOf xs).drop a = restOf (xs.drop (a / 8)) (a % 8) := by
  have h1 := (restOf_take xs 0 a (by omega)).2
  have e : bitsOf xs = restOf xs 0 := rfl
  rw [e, h1, Nat.zero_add]
  unfold restOf bitsFrom
  rw [List.length_drop, show 8 * (xs.length - a / 8) - a % 8 = 8 * xs.length - a by omega]
  apply List.map_congr_left
  intro i _
  rw [bitAt_drop, show 8 * (a / 8) + (a % 8 + i) = a + i by omega]
theorem at8_from {w : World} {A : Option Addr} {xs : List Nat} (h : At8 w A xs) (c q : Nat) (hc : xs.length ≤ c) : At8 w (if c = q then A else A.map (·.add (q * 1))) (xs.drop q) := by
  intro hpos
  rw [List.length_drop] at hpos
  obtain ⟨ad, rfl, hcell⟩ := h (by omega)
  rw [if_neg (by omega)]
  refine ⟨ad.add (q * 1), rfl, fun j v hv => ?_⟩
  have hj : (u8s xs)[q + j]? = some v := by
    have : (u8s (xs.drop q))[j]? = (u8s xs)[q + j]? := by simp [u8s]
    rw [← this]; exact hv
  have h0 := hcell (q + j) v hj
  have h00 := hcell 0 (.int .u8 ((xs.getD 0 0 : Nat) : Int)) (by
    have : 0 < xs.length := by omega
    simp [u8s, List.getD_eq_getElem?_getD, List.getElem?_eq_getElem this])
  obtain ⟨b, o, sp⟩ := ad
  have hs : sp = none := by simpa [Addr.add] using World.cell?_spot h00
  subst hs
  rw [WideShapes.add_plain] at h0
  rw [WideShapes.add_plain, WideShapes.add_plain, show o + q * 1 + j = o + (q + j) by omega]
  exact h0

set_option maxRecDepth 100000 in
set_option maxHeartbeats 2000000 in
theorem readFrom_any (A : Option Addr) (c : Nat) (xs : List Nat) (a : Nat) (w : World) (ha : At8 w A xs) (hb : ∀ x ∈ xs, x < 256) (hn : xs.length ≤ 2000) (hc : xs.length ≤ c) (hal : a ≤ 8 * xs.length) :
    Calls Tryd.prog 90 #[.slice A xs.length c, .int .i64 (a : Int)] w fun e w' => ∃ gr, e = .returned (.pointer (some ⟨gr, 0, none⟩)) ∧ w.heap.size ≤ gr ∧ IsR w' gr (xs.drop (a / 8)) (a % 8) ∧ Below w.heap.size w w' := by
  obtain ⟨q, hqe⟩ : ∃ q, a / 8 = q := ⟨_, rfl⟩
  obtain ⟨m, hme⟩ : ∃ m, a % 8 = m := ⟨_, rfl⟩
  rw [hqe, hme]
  have hq : q ≤ xs.length := by omega
  have hqi : (a : Int) / 8 = q := by omega
  have hmi : (a : Int) % 8 = m := by omega
  have hmb : m < 8 := by omega
  obtain ⟨A2, hA2⟩ : ∃ A2, (if c = q then A else A.map (·.add (q * 1))) = A2 := ⟨_, rfl⟩
  have h8 := at8_from ha c q hc
  have e1 : ∀ w, (Instr.sliceAt 28 (.slice A xs.length c) (some (.int .i64 (q : Int))) none none).run Tryd.prog w = .ok (.slice A2 (xs.length - q) (c - q)) w := by
    intro w
    have := cut_from 28 5 Tryd.underlying28 (by kernel_rfl) size_u8 A xs.length c q hq w
    rw [hA2] at this
    exact this
  rw [hA2] at h8
  have hrd := read_any A2 (c - q) (xs.drop q) w h8 (by rw [List.length_drop]; omega) (fun x hx => hb x (List.mem_of_mem_drop hx))
  rw [List.length_drop] at hrd
  have hmx : m = 0 ∨ m ≤ 8 * (xs.drop q).length := by rw [List.length_drop]; omega
  have HRD := Lib.hid hrd; have HQI := Lib.hid hqi; have HMI := Lib.hid hmi; have HMX := Lib.hid hmx
  have x0 : ¬ ((a : Int) < 0) := by omega
  have x1 : (0 : Int) ≤ a := by omega
  have x2 : a ≤ 100000 := by omega
  generalize xs.drop q = ys at *
  clear hrd ha hb hA2 h8 hqe hme hal hc hmx hqi hmi
  go_enter Tryd.func90, Tryd.ntmps90
  have hqi := HQI.out
  go_wp2_with fail
  refine HRD.out.mono ?_
  rintro e w1 ⟨gr, rfl, hgr, hr, hb1⟩
  have HR := Lib.hid hr; have HB := Lib.hid hb1; have HGR := Lib.hid hgr
  have hmi := HMI.out
  clear hr hb1 hgr HRD hqi
  by_cases hm0 : m = 0
  · subst hm0
    go_wp2
    go_ret
    exact ⟨gr, rfl, HGR.out, HR.out, HB.out⟩
  · have x5 : (0 : Int) < m := by omega
    have hg := get_any gr ys 0 m w1 HR.out
    have h3 : gotP ys 0 (m : Int) = m := by
      rw [(got_yes (xs := ys) (p := 0) (k := (m : Int)) (by omega) (by omega) (by rw [Int.toNat_natCast]; have := HMX.out; omega)).2.2, Int.toNat_natCast]; omega
    rw [h3] at hg
    have HG := Lib.hid hg
    clear hg h3 hm0
    go_wp2_with fail
    refine HG.out.mono ?_
    rintro e w2 ⟨rfl, hr2, hg2⟩
    have HR2 := Lib.hid hr2; have HB2 := Lib.hid (below_only HB.out hg2 HB.out.size HGR.out)
    clear hr2 hg2 HG hmi
    go_wp2
    go_ret
    exact ⟨gr, rfl, HGR.out, HR2.out, HB2.out⟩
end Go.Proofs.YtamnhnleipnhdaaDoor
