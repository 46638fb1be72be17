/-
  package pdu as landed: hasMac, bytesOf, join, slices.Clone of bytes.
-/
import Derived.Test.YtekcnmimfhiblaaPdDec0
import Derived.Test.YtekcnmimfhiblaaMcOwn
namespace Go.Proofs.Ytekcnmimfhiblaa
open Go.RowKit
open Go.Great

theorem opd_has (n : Int) (w : World) :
    Calls Try.prog 50 #[.int .i64 n] w fun e w' => e = .returned (.bool (decide (n ≠ 1))) ∧ w' = w := by
  by_cases h : n = 1
  · subst h
    go_enter Try.func50, Try.ntmps50
    go_wp2
    go_ret
    exact ⟨rfl, rfl⟩
  · have hb : (n != 1) = true := by simpa using h
    rw [decide_eq_true h]
    go_enter Try.func50, Try.ntmps50
    go_wp2
    go_ret
    exact ⟨congrArg (fun b => Ending.returned (Value.bool b)) (by simp), rfl⟩

/-- The first i bytes of n, of m bytes; the others still none. -/
def half9 (n m i : Nat) : List Nat := (beB n m).take i ++ List.replicate (m - i) 0
theorem half9_len (n m i : Nat) (h : i ≤ m) : (half9 n m i).length = m := by
  unfold half9
  rw [List.length_append, List.length_take, be_len, List.length_replicate]; omega
theorem half9_all (n m : Nat) : half9 n m m = beB n m := by
  unfold half9
  rw [List.take_of_length_le (by rw [be_len]; exact Nat.le_refl _), Nat.sub_self]; simp
theorem half9_step (n m i r : Nat) (h : i + r + 1 = m) : (half9 n m i).set i (n / 256 ^ r % 256) = half9 n m (i + 1) := by
  unfold half9
  have hl : ((beB n m).take i).length = i := by rw [List.length_take, be_len]; omega
  rw [List.set_append, if_neg (by rw [hl]; omega), hl, Nat.sub_self, be_take n m i (by omega), show m - 1 - i = r by omega, show m - i = r + 1 by omega, List.replicate_succ, List.set_cons_zero, show m - (i + 1) = r by omega]
  simp
theorem half9_8 (n m i : Nat) : bytes8 (half9 n m i) := by
  refine bytes8_app (fun x hx => be_8 n m x (List.mem_of_mem_take hx)) (bytes8_zeros _)

set_option maxRecDepth 100000 in
set_option maxHeartbeats 4000000 in
theorem opd_bytes (n m : Nat) (N M : Int) (hN : N = (n : Nat)) (hM : M = (m : Nat)) (_hn : n < 18446744073709551616) (hm : m ≤ 8) (w : World) :
    Calls Try.prog 60 #[.int .u64 N, .int .i64 M] w fun e w' => ∃ A' c', e = .returned (.slice A' m c') ∧ Hid (w'.ownsRow w.heap.size 5 1 (.slice A' m c') m (u8s (beB n m))) ∧ Hid (Below w.heap.size w w') := by
  subst hN; subst hM
  have hmk : ∀ w, (Instr.makeSlice 27 (.int .i64 (m : Int)) (.int .i64 (m : Int))).run Try.prog w = .ok (.slice (some ⟨w.heap.size, 0, none⟩) m m) (w.alloc (.cells (madeCells #[.int .u8 0] m) 5)) := fun w =>
    run_make_row' (P := Try.prog) 27 5 (.int .u8 0) 1 Try.underlying27 info_u8 rfl .i64 .i64 m (by omega) (by omega) w
  have HM : Hid ((w.alloc (.cells (madeCells #[.int .u8 0] m) 5)).heap[w.heap.size]? = some (.cells (List.replicate m (.int .u8 0)).toArray 5 (0, 0))) := made_row w _ _ _
  go_enter Try.func60, Try.ntmps60
  go_wp2
  go_loopg [11] m (fun kk i wl => ∃ j : Nat, j ≤ m ∧ m - j ≤ kk ∧ i = .int .i64 j ∧ wl.ownsRow w.heap.size 5 1 (.slice (some ⟨w.heap.size, 0, none⟩) m m) m (u8s (half9 n m j)) ∧ Below w.heap.size w wl)
  case atStart =>
    refine ⟨0, by omega, by omega, rfl, ?_, (Below.refl _ _).alloc (Nat.le_refl _) _⟩
    have hmc : madeCells #[.int .u8 0] m = (List.replicate m (.int .u8 0)).toArray := by
      have h1 := HM.out
      rw [heap_alloc_new] at h1
      injection h1 with h1
      injection h1
    have h := World.ownsRow_lit (base := w.heap.size) (e := 5) (size := 1) w (madeCells #[.int .u8 0] m) m (Nat.le_refl _) (by unfold maxLen; omega) (by rw [hmc]; simp)
    rw [hmc] at h ⊢
    have e : u8s (half9 n m 0) = (List.replicate m (.int .u8 0)) := by unfold half9; simp [u8s]
    rw [e]
    exact h
  case round =>
    obtain ⟨j, hj, hjk, rfl, ho, hb⟩ := hrel
    have HO := Lib.hid ho; have HB := Lib.hid hb; clear ho hb
    by_cases hlt : j < m
    · obtain ⟨r, hr⟩ : ∃ r, j + r + 1 = m := ⟨m - 1 - j, by omega⟩
      have hc : wr.cell? ⟨w.heap.size, j, none⟩ = some (.int .u8 ((half9 n m j).getD j 0 : Nat)) := by
        rw [HO.out.cellAt j (by omega), u8s_at _ (by rw [half9_len n m j hj]; exact hlt)]
      have hfz : wr.frozen? ⟨w.heap.size, j, none⟩ = false := HO.out.frozenAt j
      generalize (half9 n m j).getD j 0 = old at *
      have x1 : (j : Int) < m := by omega
      have x0 : (0 : Int) ≤ j := by omega
      have hv : ((n : Nat) : Int) / 2 ^ (8 * (m - 1 - j)) % 256 = ((n / 256 ^ r % 256 : Nat) : Int) := by
        have e : (256 : Nat) ^ r = 2 ^ (8 * r) := by rw [Nat.pow_mul]
        rw [show m - 1 - j = r by omega, e]
        simp
      have hst := HO.out.stored j (.int .u8 ((n / 256 ^ r % 256 : Nat) : Int))
      rw [← u8s_set, half9_step n m j r hr] at hst
      have HST := Lib.hid hst; have HV := Lib.hid hv
      clear hst hv
      go_wp2
      rw [HV.out]
      go_roundg (gk - 1)
      case measure => omega
      case rel => exact ⟨j + 1, by omega, by omega, by go_num, HST.out.1, below_own HB.out HB.out.size HO.out (Nat.le_refl _) rfl HST.out.2⟩
    · obtain rfl : j = m := by omega
      have x1 : ¬ (j : Int) < j := by omega
      rw [half9_all] at HO
      go_wp2
      go_ret
      exact ⟨_, _, rfl, HO, HB⟩

/-- A part of what is joined. -/
structure Part9 where
  a : Option Addr
  n : Nat
  c : Nat
  xs : List Nat
def Part9.v (p : Part9) : Value := .slice p.a p.n p.c
def cat9 (ps : List Part9) : List Nat := (ps.map Part9.xs).flatten
/-- What is known of the parts, in a world. -/
def PartsOk (w : World) : List Part9 → Prop
  | [] => True
  | p :: ps => (Sl w 1 p.a p.n p.c (u8s p.xs) ∧ p.xs.length = p.n ∧ p.n ≤ 2000) ∧ PartsOk w ps
theorem PartsOk.mem {w : World} {ps : List Part9} (h : PartsOk w ps) {p : Part9} (hp : p ∈ ps) : Sl w 1 p.a p.n p.c (u8s p.xs) ∧ p.xs.length = p.n ∧ p.n ≤ 2000 := by
  induction ps with
  | nil => cases hp
  | cons q ps ih =>
    rcases List.mem_cons.1 hp with rfl | hq
    · exact h.1
    · exact ih h.2 hq
theorem PartsOk.under {w w' : World} {ps : List Part9} (h : PartsOk w ps) (hb : Below w.heap.size w w') : PartsOk w' ps := by
  induction ps with
  | nil => trivial
  | cons q ps ih => exact ⟨⟨h.1.1.under hb, h.1.2⟩, ih h.2⟩
theorem PartsOk.beside {w : World} {ps : List Part9} (h : PartsOk w ps) (o : Obj) : PartsOk (w.alloc o) ps := h.under ((Below.refl _ _).alloc (Nat.le_refl _) o)
theorem PartsOk.own {w : World} {base : Nat} {A : Option Addr} {n c : Nat} {xs : List Nat} (h : w.ownsRow base 5 1 (.slice A n c) n (u8s xs)) (hn : n ≤ 2000) : Sl w 1 A n c (u8s xs) ∧ xs.length = n ∧ n ≤ 2000 :=
  ⟨Sl.of_own h, by have := h.1; rw [u8s_length] at this; omega, hn⟩
theorem cat9_snoc (ps : List Part9) (j : Nat) (p : Part9) (h : ps[j]? = some p) : cat9 (ps.take (j + 1)) = cat9 (ps.take j) ++ p.xs := by
  rw [List.take_add_one, h]
  simp [cat9]
theorem cat9_len (ps : List Part9) (h : ∀ p ∈ ps, p.xs.length ≤ 2000) : (cat9 ps).length ≤ ps.length * 2000 := by
  induction ps with
  | nil => simp [cat9]
  | cons p ps ih =>
    have h1 := h p (List.mem_cons_self ..)
    have h2 := ih fun q hq => h q (List.mem_cons_of_mem _ hq)
    have e : cat9 (p :: ps) = p.xs ++ cat9 ps := by simp [cat9]
    rw [e, List.length_append, List.length_cons]; omega

set_option maxRecDepth 100000 in
set_option maxHeartbeats 4000000 in
theorem opd_join (ps : List Part9) (g : Nat) (w : World) (hh : Has w g 27 (ps.map Part9.v).toArray) (hp : PartsOk w ps) (n : Nat) (hn : ps.length = n) (h5 : n ≤ 5) :
    Calls Try.prog 59 #[.slice (some ⟨g, 0, none⟩) n n] w (TextPost (cat9 ps) w) := by
  have HH := Lib.hid hh; have HP := Lib.hid hp; have HN := Lib.hid hn
  have HL : Hid (∀ p ∈ ps, p.xs.length ≤ 2000) := Lib.hid fun p h => by have := hp.mem h; omega
  clear hh hp hn
  unfold TextPost
  go_enter Try.func59, Try.ntmps59
  go_wp2
  go_loopg [3, 8] n (fun kk so i wl => ∃ (j : Nat) (A3 : Option Addr) (c3 : Nat), j ≤ n ∧ n - j ≤ kk ∧ i = .int .i64 j ∧ so = .slice A3 (cat9 (ps.take j)).length c3 ∧ wl.ownsRow w.heap.size 5 1 (.slice A3 (cat9 (ps.take j)).length c3) (cat9 (ps.take j)).length (u8s (cat9 (ps.take j))) ∧ Below w.heap.size w wl)
  case atStart => exact ⟨0, none, 0, by omega, by omega, rfl, rfl, World.ownsRow_nil _ _ _ _, Below.refl _ _⟩
  case round =>
    obtain ⟨j, A3, c3, hj, hjk, rfl, rfl, ho, hb⟩ := hrel
    have HO := Lib.hid ho; have HB := Lib.hid hb; clear ho hb
    by_cases hlt : j < n
    · have hjl : j < ps.length := by rw [HN.out]; exact hlt
      obtain ⟨p, hpj⟩ : ∃ p, ps[j]? = some p := ⟨_, List.getElem?_eq_getElem hjl⟩
      have hm : p ∈ ps := List.mem_of_getElem? hpj
      obtain ⟨hps, hpn, hpl⟩ := HP.out.mem hm
      have HS := Lib.hid (hps.under HB.out)
      have hcl : (cat9 (ps.take j)).length ≤ 10000 := by
        have h := cat9_len (ps.take j) fun q hq => HL.out q (List.mem_of_mem_take hq)
        rw [List.length_take] at h
        have : min j ps.length ≤ 5 := by omega
        have h2 : min j ps.length * 2000 ≤ 5 * 2000 := Nat.mul_le_mul_right _ this
        omega
      have hc : wr.cell? ⟨g, j, none⟩ = some (.slice p.a p.n p.c) := by
        rw [(HH.out.under HB.out HH.out.lt).cell]
        simp [hpj, Part9.v]
      have HSN := Lib.hid (cat9_snoc ps j p hpj)
      have HBND : Hid ((cat9 (ps.take j)).length + p.n ≤ maxLen ∧ ((cat9 (ps.take j)).length + p.n) * 1 ≤ 140737488355328 ∧ w.heap.size ≤ wr.heap.size) := Lib.hid ⟨by unfold maxLen; omega, by omega, HB.out.size⟩
      have x1 : (j : Int) < n := by omega
      have x0 : (0 : Int) ≤ j := by omega
      clear hpj hm hjl hps
      generalize cat9 (ps.take j) = T at *
      obtain ⟨A, m, c, xs⟩ := p
      simp only at HS hpl hcl hc HSN HBND hpn
      have HM := Lib.hid hpn
      clear hpn
      go_wp2_with (with_reducible refine wpList_pour (o := ⟨some 14, _, _, _, _, _⟩) rfl (.tmp 12) (.tmp 13) 27 rfl w.heap.size 5 (.int .u8 0) 1 1 Try.underlying27 info_u8 ?hz (by decide) A3 T.length c3 (u8s T) ?hs HO A m c (u8s xs) ?hx HS (Lib.hid (u8s_one xs)) HBND ?next)
      all_goals try rfl
      case next =>
        intro A4 c4 w4 ho4 hg4
        have HB4 := Lib.hid (below_own HB.out HBND.out.2.2 HO.out (Nat.le_refl _) rfl hg4.out)
        have HO4 : Hid (w4.ownsRow w.heap.size 5 1 (.slice A4 (cat9 (ps.take (j + 1))).length c4) (cat9 (ps.take (j + 1))).length (u8s (cat9 (ps.take (j + 1))))) := Lib.hid (by
          rw [HSN.out, u8s_app, List.length_append, HM.out]; exact ho4.out)
        have e : T.length + m = (cat9 (ps.take (j + 1))).length := by rw [HSN.out, List.length_append, HM.out]
        rw [e]
        clear ho4 hg4 HO HS HSN HBND hc
        go_wp2
        go_roundg (gk - 1)
        case measure => omega
        case rel => exact ⟨j + 1, A4, c4, by omega, by omega, by go_num, rfl, HO4.out, HB4.out⟩
    · obtain rfl : j = n := by omega
      have e : ps.take j = ps := by rw [← HN.out, List.take_length]
      have x1 : ¬ (j : Int) < j := by omega
      rw [e] at HO ⊢
      go_wp2
      go_ret
      exact ⟨A3, c3, rfl, HO, HB⟩

set_option maxHeartbeats 2000000 in
theorem oclone_any (A : Option Addr) (n c : Nat) (xs : List Nat) (hx : xs.length = n) (w : World) (hl : At8 w A xs) (hn : n ≤ 100000) :
    Calls Try.prog 43 #[.slice A n c] w fun e w' => ∃ A' c', e = .returned (.slice A' n c') ∧ Hid (w'.ownsRow w.heap.size 5 1 (.slice A' n c') n (u8s xs)) ∧ Hid (Below w.heap.size w w') ∧ Hid (A = none → A' = none ∧ c' = 0) := by
  cases hA : A with
  | none =>
    subst hA
    have e0 : xs = [] := by
      rcases Nat.eq_zero_or_pos xs.length with h0 | h0
      · exact List.eq_nil_of_length_eq_zero h0
      · obtain ⟨_, e, _⟩ := hl h0
        cases e
    subst e0
    subst hx
    have HO0 : Hid (w.ownsRow w.heap.size 5 1 (.slice none 0 0) 0 (u8s [])) := Lib.hid (World.ownsRow_nil w w.heap.size 5 1)
    have q1 := fun w : World => Lib.run_eql_slice_nil (P := Try.prog) w 27 5 none 0 c 0 0 Try.underlying27
    simp only [Option.isNone] at q1
    rw [List.length_nil]
    clear hl
    go_enter Try.func43, Try.ntmps43
    go_wp2
    go_ret
    exact ⟨none, 0, rfl, HO0, Lib.hid (Below.refl _ _), Lib.hid (fun _ => ⟨rfl, rfl⟩)⟩
  | some ad =>
    subst hA
    have HSL := Lib.hid ((hx ▸ sl_bytes (c := c) hl (fun e => by cases e) : Sl w 1 (some ad) n c (u8s xs)).beside (.cells #[] 5))
    have HO := Lib.hid (World.ownsRow_lit (base := w.heap.size) (e := 5) (size := 1) w #[] 0 (Nat.le_refl _) (by unfold maxLen; omega) rfl)
    have HB : Hid (0 + n ≤ maxLen ∧ (0 + n) * 1 ≤ 140737488355328 ∧ w.heap.size ≤ (w.alloc (.cells #[] 5)).heap.size) := Lib.hid ⟨by unfold maxLen; omega, by omega, by simp⟩
    have HBL : Hid (Below w.heap.size w (w.alloc (.cells #[] 5))) := Lib.hid ((Below.refl _ _).alloc (Nat.le_refl _) _)
    have q1 := fun w : World => Lib.run_eql_slice_nil (P := Try.prog) w 27 5 (some ad) n c 0 0 Try.underlying27
    simp only [Option.isNone] at q1
    clear hl hx
    go_enter Try.func43, Try.ntmps43
    go_wp2_with (with_reducible refine wpList_pour (o := ⟨some 7, _, _, _, _, _⟩) rfl (.tmp 5) (.tmp 6) 27 rfl w.heap.size 5 (.int .u8 0) 1 1 Try.underlying27 info_u8 ?hz (by decide) (some ⟨w.heap.size, 0, none⟩) 0 0 [] ?hs HO (some ad) n c (u8s xs) ?hx HSL (Lib.hid (u8s_one xs)) HB ?next)
    all_goals try rfl
    case next =>
      intro A4 c4 w4 ho4 hg4
      have HO4 : Hid (w4.ownsRow w.heap.size 5 1 (.slice A4 n c4) n (u8s xs)) := Lib.hid (by simpa using ho4.out)
      clear ho4
      go_wp2
      go_ret
      exact ⟨A4, c4, rfl, HO4, Lib.hid (below_own HBL.out HB.out.2.2 HO.out (Nat.le_refl _) rfl hg4.out), Lib.hid (fun e => by cases e)⟩
end Go.Proofs.Ytekcnmimfhiblaa
