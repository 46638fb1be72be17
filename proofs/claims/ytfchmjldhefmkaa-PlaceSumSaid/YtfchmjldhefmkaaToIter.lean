/-
  package topo as landed: maps.Keys over a set of steps, its iterator; slices.AppendSeq, slices.Collect.
-/
import Derived.Test.YtfchmjldhefmkaaToFol

import Derived.Test.YtfchmjldhefmkaaToC

import Derived.RangeFuncNested

import Derived.RangeFuncBound

import Derived.RangeFuncCalls

import Derived.RangeFuncLeaves

import Derived.RangeFuncBox

import Derived.Sort.MapsRangeIn

import Derived.Shelf.Abstract

import Derived.Shelf.AbstractIn

import Derived.Shelf.RegionOpen

import Derived.OwnWalkIn

import Derived.TacticsInMore

import Derived.RegionIn

import Derived.LoopNIn

import Derived.LoopIn

namespace Go.Proofs.Ytfchmjldhefmkaa

open Go.RowKit Go.Shelf

open Go.Maps (has)

attribute [local go_sem] Oper.semAt_some

/-! What has come, and what is still to come. -/
def Coll13 (D : DataW Unit) (left : Lit → Bool) (ss : List St3) : Prop := ss.Nodup ∧ ∀ x, x ∈ ss ↔ (wfS x ∧ has D (stK x) = true ∧ left (stK x) = false)
theorem Coll13.start (D : DataW Unit) : Coll13 D (has D) [] := ⟨List.nodup_nil, fun x => by cases has D (stK x) <;> simp⟩
theorem Coll13.step {D : DataW Unit} {left : Lit → Bool} {ss : List St3} (h : Coll13 D left ss) {x : St3} (hx : wfS x) {y : DataW Unit} (hlk : left (stK x) = true) (hat : ∀ zd, D.atKey (stK x) zd = y) : Coll13 D (fun z => left z && !z.sameKey (stK x)) (ss ++ [x]) := by
  have hhas : has D (stK x) = true := Go.Maps.has_true_of_atKey hat
  have hnew : x ∉ ss := fun hm => by have := ((h.2 x).1 hm).2.2; rw [hlk] at this; cases this
  refine ⟨List.nodup_append.2 ⟨h.1, by simp, fun a ha b hb => by simp at hb; subst hb; exact fun e => hnew (e ▸ ha)⟩, fun y => ?_⟩
  rw [List.mem_append, List.mem_singleton, h.2 y]
  constructor
  · rintro (⟨h1, h2, h3⟩ | rfl)
    · exact ⟨h1, h2, by show (left (stK y) && !(stK y).sameKey (stK x)) = false; rw [h3]; rfl⟩
    · exact ⟨hx, hhas, by show (left (stK y) && !(stK y).sameKey (stK y)) = false; rw [stK_same hx hx, (eqS_iff _ _).2 rfl]; simp⟩
  · rintro ⟨h1, h2, h3⟩
    by_cases e : y = x
    · exact .inr e
    · refine .inl ⟨h1, h2, ?_⟩
      have e2 : eqS y x = false := by
        cases h4 : eqS y x with
        | false => rfl
        | true => exact absurd ((eqS_iff _ _).1 h4) e
      have h4 : (left (stK y) && !(stK y).sameKey (stK x)) = false := h3
      rw [stK_same h1 hx, e2] at h4
      simpa using h4
def encT (x : St3) : Array Value := #[.agg (stA13 x)]
theorem stA_inj {a b : St3} (h : Value.agg (stA13 a) = Value.agg (stA13 b)) : a = b := by
  obtain ⟨a1, a2⟩ := a
  obtain ⟨b1, b2⟩ := b
  unfold stA13 at h
  simp at h
  obtain ⟨rfl, rfl⟩ := h
  rfl

set_option maxRecDepth 100000 in
set_option maxHeartbeats 4000000 in
theorem otkeys_stops (n : Nat) (hn1 : 1 ≤ n) (Bm b nn : Nat) (D : DataW Unit) (w : World) (hm : Has w Bm 78 #[.map (some b)]) (hown : w.ownsMap Try.prog 45 (plainElem Try.prog 4) b nn D) :
    SeqStopsK Fence.wide n Try.prog 66 #[.pointer (some ⟨Bm, 0, none⟩)] encT KeepsWalks (fun ss => ss.Nodup ∧ ∀ x, x ∈ ss ↔ (wfS x ∧ has D (stK x) = true)) (fun _ => True) (Go.Maps.size D) w := fun l J Jx W hW hJ hJx hY h0 => by
  refine callsIn_of_wp Try.func66 rfl trivial ?_ rfl
  simp only [Try.ntmps66, List.size_toArray, List.length_cons, List.length_nil, Nat.reduceAdd, Nat.reduceSub, Array.replicate_succ, Array.replicate_zero, List.push_toArray, List.append_toArray, List.nil_append, List.cons_append]
  have hmW := hm.under hW hm.lt
  have c0 : W.cell? ⟨Bm, 0, none⟩ = some (.map (some b)) := hmW.cell 0
  have hownW : W.ownsMap Try.prog 45 (plainElem Try.prog 4) b nn D := hown.kept (only_below hW (Nat.le_refl _) none) (by simp)
  clear hm hown hmW
  gi_wp2_with (first
    | (gi_at_range; refine wpListIn_range_own _ rfl _ 78 rfl 45 4 keyed13 Try.underlying78 _ b nn _ rfl hownW ?_; intro w0 hrg0 hg0 hs0)
    | gi_in)
  go_frame
  gi_loopw [3] (fun _ wr => ∃ (left : Lit → Bool) (cnt : Nat) (ss : List St3), wr.ranges Try.prog 45 (plainElem Try.prog 4) b W.heap.size nn D left cnt ∧ ss.length + cnt ≤ Go.Maps.size D ∧ Coll13 D left ss ∧ J ss wr)
    (fun _ wr => wr.rangeLeft b W.heap.size)
  case atStart =>
    exact ⟨_, _, [], hrg0, by simp, Coll13.start D, hJ [] W w0 none h0 hg0 (fun r e => by cases e)⟩
  case round =>
    obtain ⟨left, cnt, ss, hrg, hcs, hC, hJs⟩ := hrel
    gi_wp2_with (first
      | (gi_at_next; refine wpListIn_next_ranges _ rfl _ rfl 45 keyed13 (plainElem Try.prog 4) (fun x : St3 => Value.agg (stA13 x)) id (fun key kl hk => by obtain ⟨x, hx, _⟩ := keyOf_st_inv hk; exact ⟨x, hx⟩) (fun v _ _ => ⟨v, rfl⟩) b W.heap.size nn _ _ _ rfl hrg ?_ ?_)
      | gi_in)
    · intro hc0 hl0
      gi_wp2
      go_end0
      exact ⟨⟨_, rfl⟩, .inl ⟨ss, ⟨hC.1, fun x => by rw [hC.2 x, hl0]; simp⟩, hJs⟩⟩
    · intro x c kl yd yp w2 cnt2 hkey hlk hv hat hrg2 hlt hg2 hs2 hen
      obtain ⟨x', ex, hwf, rfl⟩ := keyOf_st_inv hkey
      obtain rfl : x = x' := stA_inj ex
      have hJ2 : J ss w2 := hJ ss wr w2 (some W.heap.size) hJs hg2 (fun r e => by cases e; exact ⟨Nat.le_refl _, hrg.iter_walk⟩)
      have hJ3 : J ss (w2.alloc (.cells #[.int .i64 x.edge, .bool x.rev] 45)) := hJ ss w2 _ none hJ2 (World.grownBy_alloc w2 _ none) (fun r e => by cases e)
      have hrg3 : (w2.alloc (.cells #[.int .i64 x.edge, .bool x.rev] 45)).ranges Try.prog 45 (plainElem Try.prog 4) b W.heap.size nn D (fun z => left z && !z.sameKey (stK x)) cnt2 := hrg2.alloc _
      obtain ⟨fn, tmps, assign, body, hy, hR⟩ := hY ss x _ hJ3 (by omega)
      have hC2 := hC.step hwf hlk hat
      have HC2 := Lib.hid hC2; have HRG := Lib.hid hrg; have HRG3 := Lib.hid hrg3; have HLT := Lib.hid hlt; have HCS := Lib.hid hcs
      unfold encT stA13 at hy
      unfold stA13 at hen
      have hc0 : (w2.alloc (.cells #[.int .i64 x.edge, .bool x.rev] 45)).cell? ⟨w2.heap.size, 0, none⟩ = some (.int .i64 x.edge) := (Has.made w2 _ #[.int .i64 x.edge, .bool x.rev]).cell 0
      have hc1 : (w2.alloc (.cells #[.int .i64 x.edge, .bool x.rev] 45)).cell? ⟨w2.heap.size, 1, none⟩ = some (.bool x.rev) := (Has.made w2 _ #[.int .i64 x.edge, .bool x.rev]).cell 1
      clear hs2 hC2 hrg hrg3 hrg2 hlt hcs hC hkey ex hv hat hJs hJ2 hg2
      gi_wp2
      refine hR.mono ?_
      rintro e W3 (⟨rfl, hJ4, hk4⟩ | ⟨rfl, hJx4⟩)
      · gi_wp2
        have hrg4 := HRG3.out.of_walks hk4
        go_roundw
        case rel => exact ⟨_, cnt2, ss ++ [x], hrg4, by have h1 := HCS.out; have h2 := HLT.out; simp; omega, HC2.out, hJ4⟩
        case measure => rw [hrg4.left_eq, HRG.out.left_eq]; exact HLT.out
      · gi_wp2
        refine bodyPost_ret (results_none rfl _ _ _) rfl ?_
        exact ⟨⟨_, rfl⟩, .inr ⟨ss ++ [x], trivial, hJx4⟩⟩

theorem otkeys_any (mb : Option Nat) (w : World) :
    Calls Try.prog 45 #[.map mb] w fun e w' => e = .returned (.func (.func 66) #[] #[.pointer (some ⟨w.heap.size, 0, none⟩)]) ∧ w' = w.alloc (.cells #[.map mb] 78) := by
  go_enter Try.func45, Try.ntmps45
  go_wp2
  go_ret
  exact ⟨rfl, rfl⟩
end Go.Proofs.Ytfchmjldhefmkaa
