/-
  link: how a session's waits lie in memory.
-/
import Derived.Test.YtbohoejikihnfaaLkPure

import Derived.Test.YtbohoejikihnfaaBytes8

namespace Go.Proofs.Ytbohoejikihnfaa

open Go.RowKit

/-- A value that is a slice of the bytes xs. -/
def BodyR (P : Nat → Prop) (w : World) (v : Value) (xs : List Nat) : Prop := ∃ A c, v = .slice A xs.length c ∧ Sl w 1 A xs.length c (u8s xs) ∧ (∀ x ∈ xs, x < 256) ∧ ∀ ad, A = some ad → 0 < xs.length → P ad.block
/-- The blocks that were allowed, and those that were made between w and w'. -/
def Nw (P : Nat → Prop) (w w' : World) : Nat → Prop := fun b => P b ∨ (w.heap.size ≤ b ∧ b < w'.heap.size)
theorem sl_row12 {W : World} {s g n c : Nat} {A : Option Addr} {vs : List Value} (h : Sl W s A n c vs) (hne : ∀ a, A = some a → 0 < n → a.block ≠ g) (cs : Array Value) : Sl (W.setRow g cs) s A n c vs := by
  rcases Nat.eq_zero_or_pos n with h0 | h0
  · refine ⟨h.1, h.2.1, fun ad ha j u hu => ?_⟩
    have h1 := (List.getElem?_eq_some_iff.1 hu).1
    rw [h.1, h0] at h1
    omega
  · exact sl_row11 h (fun a ha => hne a ha h0) cs
theorem BodyR.under {P : Nat → Prop} {w w' : World} {v : Value} {xs : List Nat} (h : BodyR P w v xs) (hb : Below w.heap.size w w') : BodyR P w' v xs := by
  obtain ⟨A, c, e, hs, h8⟩ := h
  exact ⟨A, c, e, hs.under hb, h8⟩
theorem BodyR.wide {P Q : Nat → Prop} {w : World} {v : Value} {xs : List Nat} (h : BodyR P w v xs) (hpq : ∀ b, P b → Q b) : BodyR Q w v xs := by
  obtain ⟨A, c, e, hs, h8, hp⟩ := h
  exact ⟨A, c, e, hs, h8, fun ad ha h0 => hpq _ (hp ad ha h0)⟩
theorem BodyR.row {P : Nat → Prop} {W : World} {v : Value} {xs : List Nat} {g : Nat} (h : BodyR P W v xs) (hg : ¬ P g) (cs : Array Value) : BodyR P (W.setRow g cs) v xs := by
  obtain ⟨A, c, e, hs, h8, hp⟩ := h
  exact ⟨A, c, e, sl_row12 hs (fun a ha h0 e' => hg (by rw [← e']; exact hp a ha h0)) cs, h8, hp⟩
theorem BodyR.conv {P : Nat → Prop} {w : World} {v : Value} {xs : List Nat} (h : BodyR P w v xs) : (convert 25 9 v).run Try.prog w = .ok (.string (str8 xs)) w := by
  obtain ⟨A, c, rfl, hs, _⟩ := h
  refine conv8 A c xs w fun hp => ?_
  cases A with
  | none =>
    have h1 := hs.1
    have h2 := hs.2.1 rfl
    rw [u8s_length] at h1
    omega
  | some ad => exact ⟨ad, rfl, fun j v hv => hs.2.2 ad rfl j v hv⟩
theorem str8_beq12 {a b : List Nat} (ha : ∀ x ∈ a, x < 256) (hb : ∀ x ∈ b, x < 256) : ((str8 a).toList == (str8 b).toList) = decide (a = b) := by
  rw [ByteArray.toList_eq, ByteArray.toList_eq]
  have hi : (str8 a).data.toList = (str8 b).data.toList ↔ a = b := by
    refine ⟨fun h => ?_, fun h => by rw [h]⟩
    have hm : ∀ l : List Nat, (∀ x ∈ l, x < 256) → ((str8 l).data.toList.map fun u => u.toNat) = l := fun l hl => by
      simp only [str8, List.map_map]
      conv => rhs; rw [← List.map_id l]
      exact List.map_congr_left fun x hx => by have := hl x hx; simp; omega
    rw [← hm a ha, ← hm b hb, h]
  by_cases h : a = b
  · simp [h]
  · rw [decide_eq_false h, beq_eq_false_iff_ne]; exact fun e => h (hi.1 e)

/-- A wait's cells. -/
def wtC (p : W0 × Value) : List Value := [.int .i64 p.1.t, .int .i64 p.1.due, .int .i64 p.1.tries, p.2]
def cellsW (l : List (W0 × Value)) : List Value := l.flatMap wtC
theorem cellsW_app (l r : List (W0 × Value)) : cellsW (l ++ r) = cellsW l ++ cellsW r := by simp [cellsW]
theorem cellsW_len (l : List (W0 × Value)) : (cellsW l).length = l.length * 4 := by
  induction l with
  | nil => rfl
  | cons x r ih =>
    show (wtC x ++ cellsW r).length = _
    rw [List.length_append, ih, List.length_cons]
    show 4 + r.length * 4 = (r.length + 1) * 4
    omega
theorem cellsW_at {l : List (W0 × Value)} {j : Nat} (h : j < l.length) {k : Nat} (hk : k < 4) : (cellsW l)[j * 4 + k]? = (wtC l[j])[k]? := by
  induction l generalizing j with
  | nil => simp at h
  | cons x r ih =>
    show (wtC x ++ cellsW r)[j * 4 + k]? = _
    cases j with
    | zero =>
      rw [List.getElem?_append_left (by show 0 * 4 + k < 4; omega)]
      simp
    | succ i =>
      rw [List.getElem?_append_right (by show 4 ≤ (i + 1) * 4 + k; omega)]
      show (cellsW r)[(i + 1) * 4 + k - 4]? = _
      rw [show (i + 1) * 4 + k - 4 = i * 4 + k by omega, ih (by simp at h; omega)]
      simp

/-- A slice of n waits. -/
def WsR (P : Nat → Prop) (w : World) (A : Option Addr) (n c : Nat) (ws : List W0) : Prop := ∃ l : List (W0 × Value), l.map (·.1) = ws ∧ l.length = n ∧ (Sl w 4 A n c (cellsW l) ∧ ∀ ad, A = some ad → 0 < n → P ad.block) ∧ ∀ p ∈ l, BodyR P w p.2 p.1.body
theorem WsR.wide {P Q : Nat → Prop} {w : World} {A : Option Addr} {n c : Nat} {ws : List W0} (h : WsR P w A n c ws) (hpq : ∀ b, P b → Q b) : WsR Q w A n c ws := by
  obtain ⟨l, h1, h2, h3, h4⟩ := h
  exact ⟨l, h1, h2, ⟨h3.1, fun ad ha h0 => hpq _ (h3.2 ad ha h0)⟩, fun p hp => (h4 p hp).wide hpq⟩
theorem WsR.row {P : Nat → Prop} {W : World} {A : Option Addr} {n c : Nat} {ws : List W0} {g : Nat} (h : WsR P W A n c ws) (hg : ¬ P g) (cs : Array Value) : WsR P (W.setRow g cs) A n c ws := by
  obtain ⟨l, h1, h2, h3, h4⟩ := h
  exact ⟨l, h1, h2, ⟨sl_row12 h3.1 (fun a ha h0 e' => hg (by rw [← e']; exact h3.2 a ha h0)) cs, h3.2⟩, fun p hp => (h4 p hp).row hg cs⟩
theorem WsR.len {P : Nat → Prop} {w : World} {A : Option Addr} {n c : Nat} {ws : List W0} (h : WsR P w A n c ws) : ws.length = n := by
  obtain ⟨l, rfl, hn, _⟩ := h
  simpa using hn
theorem WsR.under {P : Nat → Prop} {w w' : World} {A : Option Addr} {n c : Nat} {ws : List W0} (h : WsR P w A n c ws) (hb : Below w.heap.size w w') : WsR P w' A n c ws := by
  obtain ⟨l, hl, hn, hs, hp⟩ := h
  exact ⟨l, hl, hn, ⟨hs.1.under hb, hs.2⟩, fun p h => (hp p h).under hb⟩
theorem WsR.nil {P : Nat → Prop} (w : World) : WsR P w none 0 0 [] := ⟨[], rfl, rfl, ⟨sl_nil _ _, fun ad h => by cases h⟩, fun p h => by cases h⟩
theorem WsR.at_ {P : Nat → Prop} {w : World} {A : Option Addr} {n c : Nat} {ws : List W0} (h : WsR P w A n c ws) {j : Nat} {x : W0} (hx : ws[j]? = some x) :
    ∃ b off v, A = some ⟨b, off, none⟩ ∧ BodyR P w v x.body ∧ w.cell? ⟨b, off + j * 4, none⟩ = some (.int .i64 x.t) ∧ w.cell? ⟨b, off + j * 4 + 1, none⟩ = some (.int .i64 x.due) ∧ w.cell? ⟨b, off + j * 4 + 2, none⟩ = some (.int .i64 x.tries) ∧ w.cell? ⟨b, off + j * 4 + 3, none⟩ = some v := by
  obtain ⟨l, rfl, hn, hs, hp⟩ := h
  rw [List.getElem?_map] at hx
  obtain ⟨p, hpx, rfl⟩ := Option.map_eq_some_iff.1 hx
  obtain ⟨hj, hpj⟩ := List.getElem?_eq_some_iff.1 hpx
  have g : ∀ k, k < 4 → ∀ u, (wtC p)[k]? = some u → (cellsW l)[j * 4 + k]? = some u := fun k hk u hu => by rw [cellsW_at hj hk, hpj]; exact hu
  obtain ⟨b, off, e, c0⟩ := hs.1.at_ (g 0 (by omega) _ rfl)
  have nxt : ∀ k, k < 4 → ∀ u, (wtC p)[k]? = some u → w.cell? ⟨b, off + j * 4 + k, none⟩ = some u := fun k hk u hu => by
    obtain ⟨b', off', e', ck⟩ := hs.1.at_ (g k hk _ hu)
    rw [e] at e'
    injection e' with e'
    injection e' with e1 e2 _
    subst e1 e2
    rw [Nat.add_assoc]
    exact ck
  exact ⟨b, off, p.2, e, hp p (hpj ▸ List.getElem_mem hj), c0, nxt 1 (by omega) _ rfl, nxt 2 (by omega) _ rfl, nxt 3 (by omega) _ rfl⟩
theorem own_block12 {w : World} {base : Nat} {e : TypeId} {size n c : Nat} {ad : Addr} {A : Option Addr} {xs : List Value} (h : w.ownsRow base e size (.slice A n c) n xs) (ha : A = some ad) : base ≤ ad.block ∧ ad.block < w.heap.size := by
  subst ha
  exact h.lt _ rfl
/-- A slice of waits of the call's own, whose bodies lie in the elder world w0. -/
def OwW (P : Nat → Prop) (base : Nat) (w0 w : World) (A : Option Addr) (n c : Nat) (ws : List W0) : Prop := ∃ l : List (W0 × Value), l.map (·.1) = ws ∧ l.length = n ∧ w.ownsRow base 48 4 (.slice A n c) n (cellsW l) ∧ ∀ p ∈ l, BodyR P w0 p.2 p.1.body
theorem OwW.done {P : Nat → Prop} {w0 w : World} {A : Option Addr} {n c base : Nat} {ws : List W0} (h : OwW P base w0 w A n c ws) (hb : Below w0.heap.size w0 w) (hbase : w0.heap.size ≤ base) : WsR (Nw P w0 w) w A n c ws := by
  obtain ⟨l, hl, hn, ho, hp⟩ := h
  exact ⟨l, hl, hn, ⟨Sl.of_own ho, fun ad ha _ => .inr ⟨Nat.le_trans hbase (own_block12 ho ha).1, (own_block12 ho ha).2⟩⟩, fun p h => ((hp p h).under hb).wide fun _ => .inl⟩
theorem OwW.nil {P : Nat → Prop} (base : Nat) (w0 w : World) : OwW P base w0 w none 0 0 [] := ⟨[], rfl, rfl, World.ownsRow_nil w base 48 4, fun p h => by cases h⟩
theorem OwW.len {P : Nat → Prop} {w0 w : World} {A : Option Addr} {n c base : Nat} {ws : List W0} (h : OwW P base w0 w A n c ws) : ws.length = n := by
  obtain ⟨l, rfl, hn, _⟩ := h
  simpa using hn

/-- A slice of n texts of bytes. -/
def LsR (P : Nat → Prop) (w : World) (A : Option Addr) (n c : Nat) (xss : List (List Nat)) : Prop := ∃ l : List (List Nat × Value), l.map (·.1) = xss ∧ l.length = n ∧ (Sl w 1 A n c (l.map (·.2)) ∧ ∀ ad, A = some ad → 0 < n → P ad.block) ∧ ∀ p ∈ l, BodyR P w p.2 p.1
theorem LsR.row {P : Nat → Prop} {W : World} {A : Option Addr} {n c : Nat} {xss : List (List Nat)} {g : Nat} (h : LsR P W A n c xss) (hg : ¬ P g) (cs : Array Value) : LsR P (W.setRow g cs) A n c xss := by
  obtain ⟨l, h1, h2, h3, h4⟩ := h
  exact ⟨l, h1, h2, ⟨sl_row12 h3.1 (fun a ha h0 e' => hg (by rw [← e']; exact h3.2 a ha h0)) cs, h3.2⟩, fun p hp => (h4 p hp).row hg cs⟩
theorem LsR.len {P : Nat → Prop} {w : World} {A : Option Addr} {n c : Nat} {xss : List (List Nat)} (h : LsR P w A n c xss) : xss.length = n := by
  obtain ⟨l, rfl, hn, _⟩ := h
  simpa using hn
theorem LsR.under {P : Nat → Prop} {w w' : World} {A : Option Addr} {n c : Nat} {xss : List (List Nat)} (h : LsR P w A n c xss) (hb : Below w.heap.size w w') : LsR P w' A n c xss := by
  obtain ⟨l, hl, hn, hs, hp⟩ := h
  exact ⟨l, hl, hn, ⟨hs.1.under hb, hs.2⟩, fun p h => (hp p h).under hb⟩
theorem LsR.nil {P : Nat → Prop} (w : World) : LsR P w none 0 0 [] := ⟨[], rfl, rfl, ⟨sl_nil _ _, fun ad h => by cases h⟩, fun p h => by cases h⟩
theorem LsR.at_ {P : Nat → Prop} {w : World} {A : Option Addr} {n c : Nat} {xss : List (List Nat)} (h : LsR P w A n c xss) {j : Nat} {x : List Nat} (hx : xss[j]? = some x) :
    ∃ b off v, A = some ⟨b, off, none⟩ ∧ BodyR P w v x ∧ w.cell? ⟨b, off + j, none⟩ = some v := by
  obtain ⟨l, rfl, hn, hs, hp⟩ := h
  rw [List.getElem?_map] at hx
  obtain ⟨p, hpx, rfl⟩ := Option.map_eq_some_iff.1 hx
  obtain ⟨hj, hpj⟩ := List.getElem?_eq_some_iff.1 hpx
  obtain ⟨b, off, e, c0⟩ := hs.1.at_ (j := j) (u := p.2) (by rw [List.getElem?_map, hpx]; rfl)
  exact ⟨b, off, p.2, e, hp p (hpj ▸ List.getElem_mem hj), c0⟩
def OwL (P : Nat → Prop) (base : Nat) (w0 w : World) (A : Option Addr) (n c : Nat) (xss : List (List Nat)) : Prop := ∃ l : List (List Nat × Value), l.map (·.1) = xss ∧ l.length = n ∧ w.ownsRow base 25 1 (.slice A n c) n (l.map (·.2)) ∧ ∀ p ∈ l, BodyR P w0 p.2 p.1
theorem OwL.done {P : Nat → Prop} {w0 w : World} {A : Option Addr} {n c base : Nat} {xss : List (List Nat)} (h : OwL P base w0 w A n c xss) (hb : Below w0.heap.size w0 w) (hbase : w0.heap.size ≤ base) : LsR (Nw P w0 w) w A n c xss := by
  obtain ⟨l, hl, hn, ho, hp⟩ := h
  exact ⟨l, hl, hn, ⟨Sl.of_own ho, fun ad ha _ => .inr ⟨Nat.le_trans hbase (own_block12 ho ha).1, (own_block12 ho ha).2⟩⟩, fun p h => ((hp p h).under hb).wide fun _ => .inl⟩
theorem OwL.nil {P : Nat → Prop} (base : Nat) (w0 w : World) : OwL P base w0 w none 0 0 [] := ⟨[], rfl, rfl, World.ownsRow_nil w base 25 1, fun p h => by cases h⟩

theorem info_wait : (Try.prog.info? 48).map (fun i => (i.zero, i.size, i.bytes)) = some (some (.agg #[.int .i64 0, .int .i64 0, .int .i64 0, .slice none 0 0]), 4, 48) := by kernel_rfl
theorem info_u8s : (Try.prog.info? 25).map (fun i => (i.zero, i.size, i.bytes)) = some (some (.slice none 0 0), 1, 24) := by kernel_rfl
/-- What an append of one wait wants, in the world W behind the making of its cells at block g. -/
def PushW (base : Nat) (W : World) (g : Nat) (A : Option Addr) (n c : Nat) (l : List (W0 × Value)) (p : W0 × Value) : Prop :=
  Hid ((wtC p).length = 1 * 4) ∧ Hid (W.ownsRow base 48 4 (.slice A n c) n (cellsW l)) ∧ Hid (∀ j u, (wtC p)[j]? = some u → W.cell? ((⟨g, 0, none⟩ : Addr).add j) = some u) ∧ Hid (∀ u ∈ wtC p, u.oneCell' = true) ∧
  Hid (n + 1 ≤ maxLen ∧ (n + 1) * 48 ≤ 140737488355328 ∧ base ≤ W.heap.size)
theorem pushW {P : Nat → Prop} {base n c : Nat} {w0 w : World} {A : Option Addr} {l : List (W0 × Value)} (p : W0 × Value) (hv : BodyR P w0 p.2 p.1.body) (ho : w.ownsRow base 48 4 (.slice A n c) n (cellsW l)) (hbase : base ≤ w.heap.size) (hn : n ≤ 1048576) :
    PushW base (w.alloc (.cells #[.int .i64 p.1.t, .int .i64 p.1.due, .int .i64 p.1.tries, p.2] 48)) w.heap.size A n c l p := by
  refine ⟨Lib.hid rfl, Lib.hid (ho.alloc _), Lib.hid fun j u hu => ?_, Lib.hid fun u hu => ?_, Lib.hid ⟨by unfold maxLen; omega, by omega, by simp; omega⟩⟩
  · rw [WideShapes.add_plain, (Has.made w 48 _).cell, Nat.zero_add]
    simpa [wtC] using hu
  · obtain ⟨B, d, e, _⟩ := hv
    simp only [wtC, List.mem_cons, List.not_mem_nil, or_false] at hu
    rcases hu with rfl | rfl | rfl | rfl
    · rfl
    · rfl
    · rfl
    · rw [e]; rfl
theorem PushW.drew {base n c g : Nat} {W : World} {A : Option Addr} {l : List (W0 × Value)} {p : W0 × Value} (h : PushW base W g A n c l p) : PushW base W.drew g A n c l p := h
theorem OwW.snoc {P : Nat → Prop} {base n c : Nat} {w0 W : World} {A : Option Addr} {l : List (W0 × Value)} {p : W0 × Value} {ws : List W0} {x : W0} (hl : l.map (·.1) = ws) (hn : l.length = n) (hp : ∀ q ∈ l, BodyR P w0 q.2 q.1.body) (hv : BodyR P w0 p.2 p.1.body) (hx : p.1 = x)
    (ho : W.ownsRow base 48 4 (.slice A (n + 1) c) (n + 1) (cellsW l ++ wtC p)) : OwW P base w0 W A (n + 1) c (ws ++ [x]) := by
  refine ⟨l ++ [p], by simp [hl, hx], by simp [hn], ?_, fun q hq => ?_⟩
  · have e : cellsW (l ++ [p]) = cellsW l ++ wtC p := by rw [cellsW_app]; simp [cellsW]
    rw [e]; exact ho
  · rcases List.mem_append.1 hq with h | h
    · exact hp q h
    · rw [List.mem_singleton] at h; subst h; exact hv
theorem OwW.keep {P : Nat → Prop} {base n c g : Nat} {w0 W W' : World} {A : Option Addr} {ws : List W0} {t : TypeId} {cs : Array Value} (h : OwW P base w0 W A n c ws) (hg : W.grownBy W' (some g)) (hh : Has W g t cs) (hne : 48 ≠ t) : OwW P base w0 W' A n c ws := by
  obtain ⟨l, h1, h2, h3, h4⟩ := h
  exact ⟨l, h1, h2, own_keep h3 hg (own_apart h3 hh hne), h4⟩
theorem OwW.under {P : Nat → Prop} {base n c : Nat} {w0 W W' : World} {A : Option Addr} {ws : List W0} (h : OwW P base w0 W A n c ws) (hb : Below W.heap.size W W') : OwW P base w0 W' A n c ws := by
  obtain ⟨l, h1, h2, h3, h4⟩ := h
  exact ⟨l, h1, h2, own_under h3 hb (Nat.le_refl _), h4⟩
theorem own_two12 {w : World} {base n1 n2 s1 s2 : Nat} {e1 e2 : TypeId} {v1 v2 : Value} {x1 x2 : List Value} (h1 : w.ownsRow base e1 s1 v1 n1 x1) (h2 : w.ownsRow base e2 s2 v2 n2 x2) (hne : e1 ≠ e2) : v1.ownBlock = none ∨ v1.ownBlock ≠ v2.ownBlock := by
  rcases h2.2 with ⟨rfl, _⟩ | ⟨g, cap, cur, rfl, _, hh, _⟩
  · cases h : v1.ownBlock
    · exact .inl rfl
    · exact .inr (by simp [Value.ownBlock])
  · exact .inr (own_apart h1 hh hne)
theorem OwW.aside {P : Nat → Prop} {base n c n2 s2 : Nat} {w0 W W' : World} {A : Option Addr} {ws : List W0} {t2 : TypeId} {v2 : Value} {xs2 : List Value} (h : OwW P base w0 W A n c ws) (ho : W.ownsRow base t2 s2 v2 n2 xs2) (hne : 48 ≠ t2) (hg : W.grownBy W' v2.ownBlock) : OwW P base w0 W' A n c ws := by
  obtain ⟨l, h1, h2, h3, h4⟩ := h
  exact ⟨l, h1, h2, h3.kept hg (own_two12 h3 ho hne), h4⟩
theorem OwL.aside {P : Nat → Prop} {base n c n2 s2 : Nat} {w0 W W' : World} {A : Option Addr} {xss : List (List Nat)} {t2 : TypeId} {v2 : Value} {xs2 : List Value} (h : OwL P base w0 W A n c xss) (ho : W.ownsRow base t2 s2 v2 n2 xs2) (hne : 25 ≠ t2) (hg : W.grownBy W' v2.ownBlock) : OwL P base w0 W' A n c xss := by
  obtain ⟨l, h1, h2, h3, h4⟩ := h
  exact ⟨l, h1, h2, h3.kept hg (own_two12 h3 ho hne), h4⟩
theorem OwL.keep {P : Nat → Prop} {base n c g : Nat} {w0 W W' : World} {A : Option Addr} {xss : List (List Nat)} {t : TypeId} {cs : Array Value} (h : OwL P base w0 W A n c xss) (hg : W.grownBy W' (some g)) (hh : Has W g t cs) (hne : 25 ≠ t) : OwL P base w0 W' A n c xss := by
  obtain ⟨l, h1, h2, h3, h4⟩ := h
  exact ⟨l, h1, h2, own_keep h3 hg (own_apart h3 hh hne), h4⟩
theorem OwL.under {P : Nat → Prop} {base n c : Nat} {w0 W W' : World} {A : Option Addr} {xss : List (List Nat)} (h : OwL P base w0 W A n c xss) (hb : Below W.heap.size W W') : OwL P base w0 W' A n c xss := by
  obtain ⟨l, h1, h2, h3, h4⟩ := h
  exact ⟨l, h1, h2, own_under h3 hb (Nat.le_refl _), h4⟩
theorem OwL.snoc {P : Nat → Prop} {base n c : Nat} {w0 W : World} {A : Option Addr} {l : List (List Nat × Value)} {p : List Nat × Value} {xss : List (List Nat)} (hl : l.map (·.1) = xss) (hn : l.length = n) (hp : ∀ q ∈ l, BodyR P w0 q.2 q.1) (hv : BodyR P w0 p.2 p.1)
    (ho : W.ownsRow base 25 1 (.slice A (n + 1) c) (n + 1) (l.map (·.2) ++ [p.2])) : OwL P base w0 W A (n + 1) c (xss ++ [p.1]) := by
  refine ⟨l ++ [p], by simp [hl], by simp [hn], by simpa using ho, fun q hq => ?_⟩
  rcases List.mem_append.1 hq with h | h
  · exact hp q h
  · rw [List.mem_singleton] at h; subst h; exact hv
/-- A block made behind the own row was made is not its own. -/
theorem OwW.newer {P : Nat → Prop} {base n c g : Nat} {w0 W W' : World} {A : Option Addr} {ws : List W0} (h : OwW P base w0 W A n c ws) (hg : W.heap.size ≤ g) (hb : Below W.heap.size W W') {W'' : World} (hk : W'.grownBy W'' (some g)) : OwW P base w0 W'' A n c ws := by
  obtain ⟨l, h1, h2, h3, h4⟩ := h
  refine ⟨l, h1, h2, own_keep (own_under h3 hb (Nat.le_refl _)) hk (fun e => ?_), h4⟩
  have := (h3.lt g e).2
  omega
theorem WsR.body {P : Nat → Prop} {w : World} {A : Option Addr} {n c : Nat} {ws : List W0} (h : WsR P w A n c ws) {w' : World} (hb : Below w.heap.size w w') {j : Nat} {x : W0} (hx : ws[j]? = some x) :
    ∃ b off v, A = some ⟨b, off, none⟩ ∧ b < w.heap.size ∧ BodyR P w v x.body ∧ w'.cell? ⟨b, off + j * 4, none⟩ = some (.int .i64 x.t) ∧ w'.cell? ⟨b, off + j * 4 + 1, none⟩ = some (.int .i64 x.due) ∧ w'.cell? ⟨b, off + j * 4 + 2, none⟩ = some (.int .i64 x.tries) ∧ w'.cell? ⟨b, off + j * 4 + 3, none⟩ = some v := by
  obtain ⟨b, off, v, e, hv, c0, c1, c2, c3⟩ := h.at_ hx
  exact ⟨b, off, v, e, cell_block c0, hv, (hb.cell (cell_block c0)).trans c0, (hb.cell (cell_block c1)).trans c1, (hb.cell (cell_block c2)).trans c2, (hb.cell (cell_block c3)).trans c3⟩
/-- A session's cells. -/
def lkC (l : L0) (A : Option Addr) (c : Nat) : Array Value := #[.int .i64 l.period, .int .i64 l.most, .int .i64 l.quiet, .int .i64 l.heard, .slice A l.ws.length c]
def lkZ : Array Value := #[.int .i64 0, .int .i64 0, .int .i64 0, .int .i64 0, .slice none 0 0]
theorem lkC_zero : lkC l0z none 0 = lkZ := rfl
end Go.Proofs.Ytbohoejikihnfaa
