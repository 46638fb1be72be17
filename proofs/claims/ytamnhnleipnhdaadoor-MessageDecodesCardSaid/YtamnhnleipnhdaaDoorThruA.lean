/-
  package packet: how often what depends on a variable follows it (slices.Contains, part.times); worlds in which the tables stay.
-/
import Derived.Test.YtamnhnleipnhdaaDoorLayAll

import Derived.Test.YtamnhnleipnhdaaDoorMgF

import Derived.Test.YtamnhnleipnhdaaDoorMgC

namespace Go.Proofs.YtamnhnleipnhdaaDoor

open Go.RowKit

theorem index_any (A : Option Addr) (n c : Nat) (l : List Nat) (x : Int) (w : World) (hs : Sl w 1 A n c (nats l)) (hn : n ≤ 100) :
    Calls Tryd.prog 86 #[.slice A n c, .int .i64 x] w fun e w' => ∃ r : Int, e = .returned (.int .i64 r) ∧ (0 ≤ r ↔ ∃ y ∈ l, (y : Int) = x) ∧ w = w' := by
  have hl : l.length = n := by have := hs.1; simpa [nats] using this
  have HS := Lib.hid hs; have HL := Lib.hid hl; clear hs hl
  go_enter Tryd.func86, Tryd.ntmps86
  go_wp2
  go_loop [8] (fun i => ∃ j : Nat, j ≤ n ∧ i = .int .i64 j ∧ ∀ q, q < j → (l.getD q 0 : Int) ≠ x) (fun i => n - (intOf i).toNat)
  case atStart => exact ⟨0, by omega, rfl, fun q h => by omega⟩
  case round =>
    obtain ⟨j, hj, rfl, hq⟩ := hrel
    have HQ := Lib.hid hq; clear hq
    by_cases hlt : j < n
    · have hjl : j < l.length := by have := HL.out; omega
      obtain ⟨b, o, rfl, hc⟩ := HS.out.at_ (j := j) (u := .int .i64 (l.getD j 0 : Int)) (by simp [nats, List.getD_eq_getElem?_getD, List.getElem?_eq_getElem hjl])
      have hm : l.getD j 0 ∈ l := by rw [List.getD_eq_getElem?_getD, List.getElem?_eq_getElem hjl]; exact List.getElem_mem hjl
      have hall : ∀ q, q < j + 1 → (l.getD j 0 : Int) ≠ x → (l.getD q 0 : Int) ≠ x := fun q h1 h2 => by
        by_cases e : q = j
        · rw [e]; exact h2
        · exact HQ.out q (by omega)
      have HALL := Lib.hid hall; clear hall
      generalize l.getD j 0 = y at *
      have HM := Lib.hid hm; clear hm hjl
      have x0 : (0 : Int) ≤ j := by omega
      have x1 : (j : Int) < n := by omega
      by_cases he : (x : Int) = y
      · have h1 : ((x : Int) == (y : Int)) = true := by simp [he]
        have HE := Lib.hid he; clear he
        go_wp2
        go_ret
        exact ⟨j, rfl, ⟨fun _ => ⟨y, HM.out, HE.out.symm⟩, fun _ => by omega⟩, rfl⟩
      · have h1 : ((x : Int) == (y : Int)) = false := by simp [he]
        have HE := Lib.hid he; clear he
        go_wp2
        go_round
        case rel => exact ⟨j + 1, by omega, by go_num, fun q h => HALL.out q h (fun e => HE.out e.symm)⟩
        case measure => simp [intOf]; omega
    · obtain rfl : j = n := by omega
      go_wp2
      go_ret
      refine ⟨-1, rfl, ⟨fun h => by omega, fun ⟨y, hy, e⟩ => ?_⟩, rfl⟩
      obtain ⟨q, hq1, hq2⟩ := List.getElem_of_mem hy
      exact absurd (by rw [List.getD_eq_getElem?_getD, List.getElem?_eq_getElem hq1]; simp [hq2, e]) (HQ.out q (by have := HL.out; omega))
theorem contains_any (A : Option Addr) (n c : Nat) (l : List Nat) (x : Int) (w : World) (hs : Sl w 1 A n c (nats l)) (hn : n ≤ 100) :
    Calls Tryd.prog 61 #[.slice A n c, .int .i64 x] w fun e w' => e = .returned (.bool (decide (∃ y ∈ l, (y : Int) = x))) ∧ w = w' := by
  have HI := Lib.hid (index_any A n c l x w hs hn)
  obtain ⟨b, hb⟩ : ∃ b, decide (∃ y ∈ l, (y : Int) = x) = b := ⟨_, rfl⟩
  rw [hb]
  have HB := Lib.hid hb
  clear hs hb
  go_enter Tryd.func61, Tryd.ntmps61
  go_wp2_with fail
  refine HI.out.mono ?_
  rintro e w1 ⟨r, rfl, hr, rfl⟩
  have HR := Lib.hid hr; clear hr
  go_wp2
  go_ret
  refine ⟨?_, rfl⟩
  have h2 : decide (0 ≤ r) = b := by
    rw [← HB.out]
    by_cases h : 0 ≤ r
    · rw [decide_eq_true h, decide_eq_true (HR.out.1 h)]
    · rw [decide_eq_false h, decide_eq_false (fun k => h (HR.out.2 k))]
  exact congrArg (fun b => Ending.returned (.bool b)) h2

/-- How often what depends on a variable of value n follows it. -/
def timesOf (k : Nat) (n : Int) : Nat := if k = 3 then 0 else many k n
theorem times_zero (n : Int) (h : 0 ≤ n) : (timesOf 0 n : Int) = n := by
  unfold timesOf many
  rw [if_neg (by decide), if_pos rfl]
  omega
theorem times_only (k : Nat) (n : Int) (h0 : k ≠ 0) (h3 : k ≤ 3) : (timesOf k n : Int) = if decide (∃ y ∈ onlyOf k, (y : Int) = n) = true then 1 else 0 := by
  obtain h | h | h : k = 1 ∨ k = 2 ∨ k = 3 := by omega
  · subst h
    by_cases e : n = 1
    · subst e; rfl
    · have : ¬ ∃ y ∈ onlyOf 1, (y : Int) = n := by rintro ⟨y, hy, h⟩; simp [onlyOf] at hy; omega
      rw [decide_eq_false this]
      simp [timesOf, many, e]
  · subst h
    by_cases e : n = 1
    · subst e; rfl
    · by_cases e2 : n = 2
      · subst e2; rfl
      · have : ¬ ∃ y ∈ onlyOf 2, (y : Int) = n := by rintro ⟨y, hy, h⟩; simp [onlyOf] at hy; omega
        rw [decide_eq_false this]
        simp [timesOf, many, e, e2]
  · subst h
    have : ¬ ∃ y ∈ onlyOf 3, (y : Int) = n := by rintro ⟨y, hy, _⟩; simp [onlyOf] at hy
    rw [decide_eq_false this]
    simp [timesOf]
theorem times_le (k : Nat) (n : Int) (_h3 : k ≤ 3) (hn : n ≤ 4294967296) : timesOf k n ≤ 4294967296 := by
  unfold timesOf many
  repeat' split
  all_goals omega
set_option maxHeartbeats 1000000 in
theorem times_any (v k : Nat) (Ao : Option Addr) (co : Nat) (f : Value) (n : Int) (w : World) (hk : k ≤ 3) (hn : k = 0 → 0 ≤ n) (hs : Sl w 1 Ao (onlyOf k).length co (nats (onlyOf k))) :
    Calls Tryd.prog 100 #[.agg #[.int .i64 (v : Int), .bool (decide (k = 0)), .slice Ao (onlyOf k).length co, f], .int .i64 n] w fun e w' => e = .returned (.int .i64 (timesOf k n : Nat)) ∧ Below w.heap.size w w' := by
  by_cases h0 : k = 0
  · have ht := times_zero n (hn h0)
    subst h0
    rw [ht]
    have HB := Lib.hid ((Below.refl w.heap.size w).alloc (Nat.le_refl _) (.cells #[.int .i64 (v : Int), .bool true, .slice Ao 0 co, f] 136))
    clear hs ht hn
    go_enter Tryd.func100, Tryd.ntmps100
    go_wp2
    go_ret
    exact ⟨rfl, HB.out⟩
  · rw [times_only k n h0 hk, decide_eq_false h0]
    have hlen : (onlyOf k).length ≤ 100 := by unfold onlyOf; repeat' split
                                              all_goals decide
    have HC := Lib.hid (fun W (hW : Sl W 1 Ao (onlyOf k).length co (nats (onlyOf k))) => contains_any Ao _ co (onlyOf k) n W hW hlen)
    have HS := Lib.hid (hs.beside (.cells #[.int .i64 (v : Int), .bool false, .slice Ao (onlyOf k).length co, f] 136))
    generalize decide (∃ y ∈ onlyOf k, (y : Int) = n) = b at *
    have HC2 := Lib.hid (HC.out _ HS.out)
    have HB := Lib.hid ((Below.refl w.heap.size w).alloc (Nat.le_refl _) (.cells #[.int .i64 (v : Int), .bool false, .slice Ao (onlyOf k).length co, f] 136))
    generalize (onlyOf k).length = m at *
    clear hs hn HC HS hlen h0 hk
    cases b
    all_goals
      go_enter Tryd.func100, Tryd.ntmps100
      go_wp2_with fail
      refine HC2.out.mono ?_
      rintro e w1 ⟨rfl, rfl⟩
      go_wp2
      go_ret
      exact ⟨rfl, HB.out⟩

/-- What lies in a block of package packet's walk or part stays. -/
def KeepWP (w w' : World) : Prop := ∀ (k : Nat) (cs : Array Value) (t : TypeId) (fr : Nat × Nat), (t = 93 ∨ t = 136) → w.heap[k]? = some (.cells cs t fr) → w'.heap[k]? = some (.cells cs t fr)
/-- What there was below base stays, and the blocks from lo on, below hi, and what lies in a walk or a part. -/
structure FrZ (base lo hi : Nat) (w w' : World) : Prop where
  b : Below base w w'
  z : Zone lo hi w w'
  t : KeepWP w w'
theorem FrZ.refl (base lo hi : Nat) (w : World) : FrZ base lo hi w w := ⟨Below.refl _ _, fun _ _ _ => rfl, fun _ _ _ _ _ h => h⟩
theorem FrZ.trans {base lo hi : Nat} {a b c : World} (h : FrZ base lo hi a b) (k : FrZ base lo hi b c) : FrZ base lo hi a c := ⟨h.b.trans k.b, fun i h1 h2 => (k.z i h1 h2).trans (h.z i h1 h2), fun i cs t fr ht x => k.t i cs t fr ht (h.t i cs t fr ht x)⟩
theorem frz_call {base lo hi : Nat} {w w' : World} (hb : Below w.heap.size w w') (hB : base ≤ w.heap.size) (hh : hi ≤ w.heap.size) : FrZ base lo hi w w' :=
  ⟨hb.mono hB, fun k _ h2 => hb.block k (Nat.lt_of_lt_of_le h2 hh), fun k cs t fr _ h => by rw [hb.block k (Array.getElem?_eq_some_iff.1 h).1]; exact h⟩
theorem frz_store {base lo hi g : Nat} {w : World} {t : TypeId} {cs : Array Value} (hh : Has w g t cs) (ht : t ≠ 93 ∧ t ≠ 136) (hg : base ≤ g) (hz : g < lo ∨ hi ≤ g) (hB : base ≤ w.heap.size) (i : Nat) (u : Value) : FrZ base lo hi w (w.setCell ⟨g, i, none⟩ u) := by
  refine ⟨below_store hg hB i u, fun k h1 h2 => Below.heap_setCell w _ u k (by show k ≠ g; omega), fun k cs' t' fr ht' h => ?_⟩
  rw [Below.heap_setCell w ⟨g, i, none⟩ u k (by
    show k ≠ g
    rintro rfl
    unfold Has at hh
    rw [hh] at h
    injection h with h
    injection h with _ h
    subst h
    exact ht'.elim ht.1 ht.2)]
  exact h
theorem frz_grown {base lo hi : Nat} {w w' : World} {bb sz n : Nat} {e : TypeId} {v : Value} {xs : List Value} (ho : w.ownsRow bb e sz v n xs) (ht : e ≠ 93 ∧ e ≠ 136) (hB : base ≤ w.heap.size) (hh : hi ≤ w.heap.size) (hg : w.grownBy w' v.ownBlock) (h1 : base ≤ bb) (h2 : ∀ k, v.ownBlock = some k → k < lo ∨ hi ≤ k) : FrZ base lo hi w w' := by
  refine ⟨(Below.refl base w).grown hg hB (fun k hk => Nat.le_trans h1 (ho.lt k hk).1), fun k a b => hg.block k (Nat.lt_of_lt_of_le b hh) (fun e => by have := h2 k e.symm; omega), fun k cs t fr ht' h => ?_⟩
  rw [hg.block k (Array.getElem?_eq_some_iff.1 h).1 (fun e' => ?_)]
  · exact h
  · rcases ho.2 with ⟨rfl, _⟩ | ⟨g, cap, cur, rfl, _, hh2, _⟩
    · simp [Value.ownBlock] at e'
    · have e2 : k = g := by simpa [Value.ownBlock] using e'
      subst e2
      rw [hh2] at h
      injection h with h
      injection h with _ h
      subst h
      exact ht'.elim ht.1 ht.2
theorem Has.frz {base lo hi g : Nat} {w w' : World} {t : TypeId} {cs : Array Value} (h : Has w g t cs) (ht : t = 93 ∨ t = 136) (hf : FrZ base lo hi w w') : Has w' g t cs := hf.t g cs t (0, 0) ht h
theorem Wd.low {w : World} (h : Wd w) : 0 < w.heap.size := cell_block (h 0 (by decide))
theorem Wd.frz {base lo hi : Nat} {w w' : World} (h : Wd w) (hb : 0 < base) (hf : FrZ base lo hi w w') : Wd w' := fun i hi => by
  rw [hf.b.cell (p := ⟨0, i, none⟩) hb]; exact h i hi

/-- A panic with an error of package api. -/
def panE (e : Int) : Ending := .panicked [{ v := .iface 29 (.int .i64 e), recovered := false }]
/-- What handles a variable of a packet: function F with the receiver g; St: what it holds. -/
structure NumC (St : World → WS → Prop) (F g base lo hi : Nat) : Prop where
  ent : ∀ args w, (callFunc F args).run Tryd.prog w = .ok (.enter F args) w
  gb : 0 < base
  low : ∀ w s, St w s → base ≤ w.heap.size ∧ hi ≤ w.heap.size
  under : ∀ w w' s, St w s → Below w.heap.size w w' → St w' s
  ok : ∀ (v : Nat) (s : WS) (w : World) (k : Nat), v < 96 → v ≠ 5 → St w s → s.e = 0 → Inv s k → Wd w → (fetch v s).2.e = 0 → Calls Tryd.prog F #[.pointer (some ⟨g, 0, none⟩), .int .i64 (v : Int)] w fun e w' => e = .returned (.int .i64 (fetch v s).1) ∧ St w' (keep v (fetch v s).1 (fetch v s).2) ∧ FrZ base lo hi w w'
  bad : ∀ (v : Nat) (s : WS) (w : World) (k : Nat), v < 96 → v ≠ 5 → St w s → s.e = 0 → Inv s k → Wd w → (fetch v s).2.e ≠ 0 → Calls Tryd.prog F #[.pointer (some ⟨g, 0, none⟩), .int .i64 (v : Int)] w fun e w' => e = panE (fetch v s).2.e ∧ FrZ base lo hi w w'
end Go.Proofs.YtamnhnleipnhdaaDoor
