/-
  Slices of doubles; linesideref04.Lists.
-/
import Derived.Test.YtidokfbjfdkfdaaOdoBet
import Derived.Deep.LoopGhost
import Derived.BigQuiet
import Derived.Deep.QuietTactic
namespace Go.Proofs.Ytidokfbjfdkfdaa
open Go.RowKit Fl
attribute [local irreducible] N E mval top U

def flts (l : List Nat) : List Value := l.map (.float .f64)
theorem flts_length (l : List Nat) : (flts l).length = l.length := by simp [flts]
theorem flts_at {l : List Nat} {j : Nat} (h : j < l.length) : (flts l)[j]? = some (.float .f64 (l.getD j 0)) := by
  simp [flts, List.getD_eq_getElem?_getD, List.getElem?_eq_getElem h]
theorem flts_one (l : List Nat) : ∀ v ∈ flts l, v.oneCell' = true := by
  intro v hv
  simp only [flts, List.mem_map] at hv
  obtain ⟨b, _, rfl⟩ := hv
  rfl
theorem info_f64 : (Try.prog.info? 22).map (fun i => (i.zero, i.size, i.bytes)) = some (some (.float .f64 0), 1, 8) := by kernel_rfl

/-- A slice that holds these doubles. -/
structure SlF (w : World) (A : Option Addr) (m c : Nat) (l : List Nat) : Prop where
  len : l.length = m
  wf : ∀ z ∈ l, (Lit.float .f64 z).wf = true
  sl : Sl w 1 A m c (flts l)
theorem SlF.under {w w' : World} {A : Option Addr} {m c : Nat} {l : List Nat} (h : SlF w A m c l) (hb : Below w.heap.size w w') : SlF w' A m c l := ⟨h.len, h.wf, h.sl.under hb⟩
theorem SlF.draws {w : World} {A : Option Addr} {m c : Nat} {l : List Nat} (h : SlF w A m c l) (n : Nat) : SlF (w.drewN n) A m c l := ⟨h.len, h.wf, h.sl.draws n⟩
theorem SlF.at_ {w : World} {A : Option Addr} {m c : Nat} {l : List Nat} (h : SlF w A m c l) {j : Nat} (hj : j < m) : ∃ b off, A = some ⟨b, off, none⟩ ∧ w.cell? ⟨b, off + j, none⟩ = some (.float .f64 (l.getD j 0)) :=
  h.sl.at_ (flts_at (by have := h.len; omega))
theorem SlF.wf_at {w : World} {A : Option Addr} {m c : Nat} {l : List Nat} (h : SlF w A m c l) {j : Nat} (hj : j < m) : (Lit.float .f64 (l.getD j 0)).wf = true := by
  have hl : j < l.length := by have := h.len; omega
  rw [List.getD_eq_getElem?_getD, List.getElem?_eq_getElem hl]
  exact h.wf _ (List.getElem_mem hl)

def listsB (l k : List Nat) : Bool := decide (l.length = k.length) && (List.range l.length).all fun i => sameB (l.getD i 0) (k.getD i 0)

set_option maxRecDepth 100000 in
set_option maxHeartbeats 2000000 in
theorem rlists_any (A B : Option Addr) (n c m d : Nat) (l k : List Nat) (w : World) (hl : SlF w A n c l) (hk : SlF w B m d k) (hn : n ≤ 1048576) (hm : m ≤ 1048576) :
    Calls Try.prog 19 #[.slice A n c, .slice B m d] w fun e w' => e = .returned (.bool (listsB l k)) ∧ ∃ q, w' = w.drewN q := by
  have hll := hl.len
  have hkl := hk.len
  by_cases hnm : n = m
  · subst hnm
    have hne : ((n : Int) != (n : Int)) = false := by simp
    have HL := Lib.hid hl; have HK := Lib.hid hk; clear hl hk
    have hB : listsB l k = (List.range n).all fun i => sameB (l.getD i 0) (k.getD i 0) := by rw [listsB, hll, hkl]; simp
    have HBB := Lib.hid hB; clear hB
    go_enter Try.func19, Try.ntmps19
    go_wp2
    go_loopg [5] n (fun kk i wl => ∃ j : Nat, j ≤ n ∧ n - j ≤ kk ∧ i = .int .i64 j ∧ (∀ t, t < j → sameB (l.getD t 0) (k.getD t 0) = true) ∧ ∃ q, wl = w.drewN q)
    case atStart => exact ⟨0, by omega, by omega, rfl, fun t h => absurd h (by omega), 0, rfl⟩
    case round =>
      obtain ⟨j, hj, hjk, rfl, hs, q, hq⟩ := hrel
      have hl := HL.out.draws q
      have hk := HK.out.draws q
      rw [← hq] at hl hk
      have HLr := Lib.hid hl; have HKr := Lib.hid hk; have HQ := Lib.hid hq; clear hl hk hq
      have HS := Lib.hid hs; clear hs
      by_cases hlt : j < n
      · obtain ⟨b, off, rfl, hc⟩ := HLr.out.at_ hlt
        obtain ⟨b2, off2, rfl, hc2⟩ := HKr.out.at_ hlt
        have W1 := Lib.hid (HL.out.wf_at hlt); have W2 := Lib.hid (HK.out.wf_at hlt)
        obtain ⟨x, hx⟩ : ∃ x, l.getD j 0 = x := ⟨_, rfl⟩
        obtain ⟨y, hy⟩ : ∃ y, k.getD j 0 = y := ⟨_, rfl⟩
        rw [hx] at hc W1
        rw [hy] at hc2 W2
        have x1 : (j : Int) < n := by omega
        have x0 : (0 : Int) ≤ j := by omega
        have HX := Lib.hid hx; have HY := Lib.hid hy; clear hx hy
        go_wp2_with fail
        go_quiet ((go_at_call 18; exact Calls.quiet_of_same ((rsame_any x y W1.out W2.out _).mono fun _ _ h => ⟨h.1, h.2.symm⟩)))
        cases hsm : sameB x y
        · go_wp2
          go_ret
          refine ⟨?_, q + nq, by rw [HQ.out, World.drewN_drewN]⟩
          rw [HBB.out, List.all_eq_false.2 ⟨j, List.mem_range.2 hlt, by rw [HX.out, HY.out, hsm]; decide⟩]
          rfl
        · go_wp2
          go_roundg (gk - 1)
          case measure => omega
          case rel =>
            refine ⟨j + 1, by omega, by omega, by go_num, ?_, q + nq, by rw [HQ.out, World.drewN_drewN]⟩
            intro t ht
            by_cases htj : t = j
            · rw [htj, HX.out, HY.out]; exact hsm
            · exact HS.out t (by omega)
      · obtain rfl : j = n := by omega
        go_wp2
        go_ret
        refine ⟨?_, q, HQ.out⟩
        rw [HBB.out, List.all_eq_true.2 (fun t ht => HS.out t (List.mem_range.1 ht))]
        rfl
  · have e : listsB l k = false := by rw [listsB, decide_eq_false (by omega), Bool.false_and]
    rw [e]
    have hne : ((n : Int) != (m : Int)) = true := by simp; omega
    clear hl hk e
    go_enter Try.func19, Try.ntmps19
    go_wp2
    go_ret
    exact ⟨rfl, 0, rfl⟩

end Go.Proofs.Ytidokfbjfdkfdaa
