/-
  linesideref09: May, put, Text, Encode, by contract.
-/
import Derived.Test.YtekcnmimfhiblaaMgA
import Derived.Test.YtekcnmimfhiblaaMcRef
import Derived.Test.YtekcnmimfhiblaaMgB
namespace Go.Proofs.Ytekcnmimfhiblaa
open Go.RowKit

def pdA (p : Pdu) (A : Option Addr) (c : Nat) : Array Value := #[.int .i64 p.kind, .int .i64 p.dir, .int .i64 p.train, .int .u32 (p.a : Nat), .int .u32 (p.b : Nat), .slice A p.body.length c, .int .u64 (p.mac : Nat)]
def pdV (p : Pdu) (A : Option Addr) (c : Nat) : Value := .agg (pdA p A c)

theorem bool_dec {x : Bool} {p : Prop} [Decidable p] (h : x = true ↔ p) : x = decide p := by
  by_cases hp : p
  · rw [decide_eq_true hp]; exact h.2 hp
  · rw [decide_eq_false hp]; exact Bool.eq_false_iff.2 (fun e => hp (h.1 e))

set_option maxRecDepth 100000 in
set_option maxHeartbeats 2000000 in
theorem ref_may (p : Pdu) (A : Option Addr) (c : Nat) (hk : p.ok) (hn : p.body.length ≤ 100000) (w : World) :
    Calls Try.prog 52 #[pdV p A c] w fun e w' => e = .returned (.bool (decide (pdMay p))) ∧ Below w.heap.size w w' := by
  obtain ⟨kind, dir, train, a, b, body, mac⟩ := p
  obtain ⟨ha, hb, _, hmac⟩ := hk
  unfold pdV pdA
  simp only at ha hb hmac hn ⊢
  go_enter Try.func52, Try.ntmps52
  go_wp2
  all_goals go_ret
  all_goals refine ⟨congrArg (fun b => Ending.returned (Value.bool b)) (bool_dec ?_), (Below.refl _ _).alloc (Nat.le_refl _) _⟩
  all_goals simp only [beq_iff_eq, beq_eq_false_iff_ne, ne_eq, decide_eq_true_eq, Bool.false_eq_true, false_iff, pdMay, pdForm] at *
  all_goals (try simp only [true_and, true_or, or_true])
  all_goals omega

theorem be_take (n m s : Nat) (h : s < m) : (beB n m).take (s + 1) = (beB n m).take s ++ [n / 256 ^ (m - 1 - s) % 256] := by
  have hl := be_len n m
  rw [List.take_succ_eq_append_getElem (by omega)]
  have := be_get n m s h
  rw [List.getD_eq_getElem?_getD, List.getElem?_eq_getElem (by omega)] at this
  simp only [Option.getD_some] at this
  rw [this]
theorem push_u8 {base : Nat} {w0 w : World} {A : Option Addr} {m c : Nat} {xs : List Value} (n : Nat) (ho : w.ownsRow base 5 1 (.slice A m c) m xs) (hb : Below base w0 w) (hbase : base ≤ w.heap.size) (hm : m ≤ 100000) :
    Hid (([.int .u8 (n : Nat)] : List Value).length = 1 * 1) ∧ Hid ((w.alloc (.cells #[.int .u8 (n : Nat)] 5)).ownsRow base 5 1 (.slice A m c) m xs) ∧
    Hid (∀ i u, ([.int .u8 (n : Nat)] : List Value)[i]? = some u → (w.alloc (.cells #[.int .u8 (n : Nat)] 5)).cell? ((⟨w.heap.size, 0, none⟩ : Addr).add i) = some u) ∧
    Hid (∀ u ∈ ([.int .u8 (n : Nat)] : List Value), u.oneCell' = true) ∧
    Hid (m + 1 ≤ maxLen ∧ (m + 1) * 1 ≤ 140737488355328 ∧ base ≤ (w.alloc (.cells #[.int .u8 (n : Nat)] 5)).heap.size) ∧
    Hid (Below base w0 (w.alloc (.cells #[.int .u8 (n : Nat)] 5))) := by
  refine ⟨Lib.hid rfl, Lib.hid (ho.alloc _), ?_, Lib.hid ?_, Lib.hid ⟨by unfold maxLen; omega, by omega, by simp; omega⟩, Lib.hid (hb.alloc hbase _)⟩
  · refine Lib.hid fun i u hu => ?_
    rw [WideShapes.add_plain, (Has.made w _ _).cell, Nat.zero_add]
    simpa using hu
  · intro u hu
    simp only [List.mem_cons, List.not_mem_nil, or_false] at hu
    subst hu
    rfl

set_option maxRecDepth 100000 in
set_option maxHeartbeats 2000000 in
theorem ref_put (base : Nat) (w0 : World) (A : Option Addr) (m c : Nat) (xs : List Nat) (n : Nat) (N : Int) (hN : N = (n : Nat)) (hn : n < 18446744073709551616) (many : Nat) (M : Int) (hM : M = (many : Nat)) (hmany : many ≤ 8) (w : World) (hw : Below base w0 w) (hbase : base ≤ w.heap.size) (ho : w.ownsRow base 5 1 (.slice A m c) m (u8s xs)) (hm : m ≤ 10000) :
    Calls Try.prog 64 #[.slice A m c, .int .u64 N, .int .i64 M] w fun e w' => ∃ A' c', e = .returned (.slice A' (m + many) c') ∧ Hid (w'.ownsRow base 5 1 (.slice A' (m + many) c') (m + many) (u8s (xs ++ beB n many))) ∧ Hid (Below base w0 w') := by
  subst hN; subst hM
  have HW := Lib.hid hw; have HO := Lib.hid ho
  clear hw ho
  go_enter Try.func64, Try.ntmps64
  go_wp2
  go_loopw [0, 7] (fun s0 s7 wr => ∃ (s r : Nat) (z : Int) (A3 : Option Addr) (c3 : Nat), s0 = .slice A3 (m + s) c3 ∧ s7 = .int .i64 z ∧ z + 1 = (r : Nat) ∧ s + r = many ∧ wr.ownsRow base 5 1 (.slice A3 (m + s) c3) (m + s) (u8s (xs ++ (beB n many).take s)) ∧ Below base w0 wr ∧ base ≤ wr.heap.size) (fun _ s7 _ => (intOf s7 + 1).toNat)
  case atStart => exact ⟨0, many, (many : Int) - 1, A, c, rfl, by go_num, by omega, by omega, by simpa using HO.out, HW.out, hbase⟩
  case round =>
    clear HO HW hbase
    obtain ⟨s, r, z, A3, c3, rfl, rfl, hz, hsr, ho, hw, hb⟩ := hrel
    have HO := Lib.hid ho; have HW := Lib.hid hw
    clear ho hw
    by_cases hr : 0 < r
    · obtain ⟨q, rfl⟩ : ∃ q, r = q + 1 := ⟨r - 1, by omega⟩
      obtain rfl : z = (q : Nat) := by omega
      obtain ⟨w1, hw1⟩ : ∃ w1, wr = w1 := ⟨_, rfl⟩
      rw [hw1] at HO HW hb ⊢
      clear hw1
      have x0 : (0 : Int) ≤ (q : Int) := by omega
      go_wp2
      go_loopw [8, 9] (fun s8 s9 wr => ∃ t v : Nat, s8 = .int .u64 (v : Nat) ∧ v = n / 256 ^ t ∧ s9 = .int .i64 (t : Nat) ∧ t ≤ q ∧ wr = w1) (fun _ s9 _ => q - (intOf s9).toNat)
      case atStart => exact ⟨0, n, rfl, by simp, rfl, by omega, rfl⟩
      case round =>
        obtain ⟨t, v, rfl, hv, rfl, ht, hww⟩ := hrel
        subst hww
        have hv64 : v < 18446744073709551616 := by rw [hv]; exact Nat.lt_of_le_of_lt (Nat.div_le_self _ _) hn
        by_cases htq : t < q
        · have y0 : (t : Int) < (q : Int) := by omega
          have HV : Hid (v / 256 = n / 256 ^ (t + 1)) := Lib.hid (by rw [hv, Nat.div_div_eq_div_mul, Nat.pow_succ])
          clear hv
          go_wp2
          go_roundw
          case rel => exact ⟨t + 1, v / 256, by go_num, HV.out, by go_num, by omega, trivial⟩
          case measure => simp [intOf]; omega
        obtain rfl : t = q := by omega
        have y0 : ¬ (t : Int) < (t : Int) := by omega
        have hk := be_take n many s (by omega)
        rw [show many - 1 - s = t by omega, ← hv] at hk
        have hby : v % 256 < 256 := Nat.mod_lt _ (by decide)
        have hmod : ((v : Nat) : Int) % 256 = ((v % 256 : Nat) : Int) := by omega
        have HK := Lib.hid hk
        have HM := Lib.hid hmod
        clear hk hv
        generalize v % 256 = u at *
        obtain ⟨q1, q2, q3, q4, q5, q6⟩ := push_u8 u HO.out HW.out hb (by omega)
        have hmod2 := HM.out
        go_wp2_with (with_reducible refine wpList_push (o := ⟨some 29, _, _, _, _, _⟩) rfl (.tmp 24) (.tmp 28) 27 rfl base 5 (.int .u8 0) 1 1 Try.underlying27 info_u8 ?hz (by decide) A3 (m + s) c3 (u8s (xs ++ (beB n many).take s)) ?hs q2 ⟨wr.heap.size, 0, none⟩ 1 1 [.int .u8 (u : Nat)] ?hx q1 q3 q4 q5 ?next)
        all_goals try rfl
        case next =>
          intro A7 c7 w7 ho7 hg7
          have HB7 := Lib.hid (below_own q6.out q5.out.2.2 q2.out (Nat.le_refl _) rfl hg7.out)
          have hb7 := Nat.le_trans q5.out.2.2 hg7.out.size
          have HO7 : Hid (w7.ownsRow base 5 1 (.slice A7 (m + (s + 1)) c7) (m + (s + 1)) (u8s (xs ++ (beB n many).take (s + 1)))) := Lib.hid (by
            rw [HK.out, ← List.append_assoc]
            have h := ho7.out
            simpa [u8s, Nat.add_assoc] using h)
          clear ho7 hg7 q1 q2 q3 q4 q5 q6 HK hmod2 HM HO HW
          go_wp2
          go_roundw
          case rel => exact ⟨s + 1, t, (t : Int) - 1, A7, c7, rfl, by go_num, by omega, by omega, HO7.out, HB7.out, hb7⟩
          case measure => simp [intOf]
    obtain rfl : r = 0 := by omega
    obtain rfl : z = -1 := by omega
    obtain rfl : s = many := by omega
    have HOE : Hid (wr.ownsRow base 5 1 (.slice A3 (m + s) c3) (m + s) (u8s (xs ++ beB n s))) := Lib.hid (by
      have h := HO.out
      rwa [List.take_of_length_le (by rw [be_len]; exact Nat.le_refl _)] at h)
    go_wp2
    go_ret
    exact ⟨A3, c3, rfl, HOE, HW⟩
end Go.Proofs.Ytekcnmimfhiblaa
