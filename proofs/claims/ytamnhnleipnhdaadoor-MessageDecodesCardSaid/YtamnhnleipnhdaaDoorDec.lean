/-
  package packet's decoder: what it holds; one read of bits.
-/
import Derived.Test.YtamnhnleipnhdaaDoorPkSize

import Derived.Deep.RegionWith

namespace Go.Proofs.YtamnhnleipnhdaaDoor

open Go.RowKit

open BitsM

/-- What is left behind bit p. -/
def restOf (xs : List Nat) (p : Nat) : List Bool := bitsFrom xs p (8 * xs.length - p)
theorem restOf_length (xs : List Nat) (p : Nat) : (restOf xs p).length = 8 * xs.length - p := bitsFrom_length _ _ _
theorem restOf_take (xs : List Nat) (p k : Nat) (h : p + k ≤ 8 * xs.length) : (restOf xs p).take k = bitsFrom xs p k ∧ (restOf xs p).drop k = restOf xs (p + k) := by
  have e : restOf xs p = bitsFrom xs p k ++ restOf xs (p + k) := by
    unfold restOf
    rw [show 8 * xs.length - p = k + (8 * xs.length - (p + k)) by omega, bitsFrom_add]
  rw [e]
  exact ⟨List.take_left' (bitsFrom_length _ _ _), List.drop_left' (bitsFrom_length _ _ _)⟩

/-- What the decoder holds: bytes xs, of which p bits are read; numbers; its length's value. -/
structure DeR (base lo hi gr : Nat) (p0 : Int) (w : World) (s : WS) (xs : List Nat) (p : Nat) (AG : Option Addr) (nG cG : Nat) (L : Int) : Prop where
  r : IsR w gr xs p
  bits : s.bits = restOf xs p
  at_ : (p : Int) = p0 + totalOf s.out
  len : s.got.length = nG
  g : w.ownsRow base 3 1 (.slice AG nG cG) nG (ints s.got)
  gz : ∀ k, Value.ownBlock (.slice AG nG cG) = some k → k < lo ∨ hi ≤ k
  seen : ∀ i : Nat, s.place = i → 0 < i → i < s.out.length ∧ L = (s.out.getD i (0, 0)).1
def deCells (gr : Nat) (AG : Option Addr) (nG cG : Nat) (L : Int) : Array Value := #[.pointer (some ⟨gr, 0, none⟩), .slice AG nG cG, .int .i64 L]
structure DeAt (base lo hi g gr : Nat) (p0 : Int) (w : World) (s : WS) : Prop where
  gb : base ≤ g
  gz : g < lo ∨ hi ≤ g
  rb : base ≤ gr
  rz : gr < lo ∨ hi ≤ gr
  ne : g ≠ gr
  sz : base ≤ w.heap.size ∧ hi ≤ w.heap.size
  rd : s.rd = true
  mem : ∃ xs p AG nG cG L, Has w g 131 (deCells gr AG nG cG L) ∧ DeR base lo hi gr p0 w s xs p AG nG cG L

theorem IsR.has {w : World} {g : Nat} {xs : List Nat} {p : Nat} (h : IsR w g xs p) : ∃ cs, Has w g 115 cs := by
  obtain ⟨g2, _, h1, _⟩ := h
  exact ⟨_, h1⟩
theorem IsR.own {w w' : World} {g : Nat} {xs : List Nat} {p : Nat} {base : Nat} {e : TypeId} {size n : Nat} {v : Value} {ys : List Value} (h : IsR w g xs p) (ho : w.ownsRow base e size v n ys) (h1 : e ≠ 115) (h2 : e ≠ 5) (hg : w.grownBy w' v.ownBlock) : IsR w' g xs p := by
  obtain ⟨g2, hn, ha, hb, r⟩ := h
  exact ⟨g2, hn, ha.grow hg (fun e' => own_apart ho ha h1 e'.symm), hb.grow hg (fun e' => own_apart ho hb h2 e'.symm), r⟩
theorem frz_only {base lo hi g : Nat} {w w' : World} {t : TypeId} {cs : Array Value} (hh : Has w g t cs) (ht : t ≠ 93 ∧ t ≠ 136) (hg : base ≤ g) (hz : g < lo ∨ hi ≤ g) (hB : base ≤ w.heap.size) (hh' : hi ≤ w.heap.size) (hgr : w.grownBy w' (some g)) : FrZ base lo hi w w' := by
  refine ⟨(Below.refl base w).grown hgr hB (fun k hk => by injection hk with hk; omega), fun k h1 h2 => hgr.block k (by omega) (fun e => by injection e with e; omega), fun k cs' t' fr ht' h => ?_⟩
  rw [hgr.block k (Array.getElem?_eq_some_iff.1 h).1 (fun e => ?_)]
  · exact h
  · injection e with e
    subst e
    unfold Has at hh
    rw [hh] at h
    injection h with h
    injection h with _ h
    subst h
    exact ht'.elim ht.1 ht.2

section

variable {base lo hi g gr : Nat} {p0 : Int} {w w' : World} {s : WS} {xs : List Nat} {p : Nat} {AG : Option Addr} {nG cG : Nat} {L : Int}
theorem DeR.under (h : DeR base lo hi gr p0 w s xs p AG nG cG L) (hb : Below w.heap.size w w') : DeR base lo hi gr p0 w' s xs p AG nG cG L :=
  ⟨h.r.under hb (Nat.le_refl _), h.bits, h.at_, h.len, own_under h.g hb (Nat.le_refl _), h.gz, h.seen⟩
theorem DeAt.under (h : DeAt base lo hi g gr p0 w s) (hb : Below w.heap.size w w') : DeAt base lo hi g gr p0 w' s := by
  obtain ⟨xs, p, AG, nG, cG, L, h1, h2⟩ := h.mem
  exact ⟨h.gb, h.gz, h.rb, h.rz, h.ne, ⟨Nat.le_trans h.sz.1 hb.size, Nat.le_trans h.sz.2 hb.size⟩, h.rd, xs, p, AG, nG, cG, L, h1.under hb h1.lt, h2.under hb⟩
theorem DeAt.zone (h : DeAt base lo hi g gr p0 w s) (hb : Below w.heap.size w w') : DeAt base w.heap.size w'.heap.size g gr p0 w' s := by
  obtain ⟨xs, p, AG, nG, cG, L, a, b⟩ := h.mem
  obtain ⟨cs, hr⟩ := b.r.has
  have r := b.under hb
  exact ⟨h.gb, .inl a.lt, h.rb, .inl hr.lt, h.ne, ⟨Nat.le_trans h.sz.1 hb.size, Nat.le_refl _⟩, h.rd, xs, p, AG, nG, cG, L, a.under hb a.lt, ⟨r.r, r.bits, r.at_, r.len, r.g, fun k hk => .inl (b.g.lt k hk).2, r.seen⟩⟩
/-- A read of the decoder's reader: what it leaves. -/
theorem de_read (h : DeAt base lo hi g gr p0 w s) (hh : Has w g 131 (deCells gr AG nG cG L)) (hr : DeR base lo hi gr p0 w s xs p AG nG cG L) (hg : w.grownBy w' (some gr)) : Has w' g 131 (deCells gr AG nG cG L) ∧ w'.ownsRow base 3 1 (.slice AG nG cG) nG (ints s.got) ∧ FrZ base lo hi w w' := by
  obtain ⟨cs, hrh⟩ := hr.r.has
  exact ⟨hh.grow hg (by simpa using h.ne), own_keep hr.g hg (own_apart hr.g hrh (by decide)), frz_only hrh (by decide) h.rb h.rz h.sz.1 h.sz.2 hg⟩
end

set_option maxRecDepth 100000 in
set_option maxHeartbeats 4000000 in
theorem dnum_short (base lo hi g gr : Nat) (p0 : Int) (v : Nat) (hv : v < 96) (s : WS) (w : World) (h : DeAt base lo hi g gr p0 w s) (hwd : Wd w) (hs : s.bits.length < widthOf v) :
    Calls Tryd.prog 91 #[.pointer (some ⟨g, 0, none⟩), .int .i64 (v : Int)] w fun e w' => e = panE 10 ∧ FrZ base lo hi w w' := by
  obtain ⟨k1, k2⟩ := width_one v (by omega) (by omega)
  obtain ⟨kw, hkw⟩ : ∃ kw, widthOf v = kw := ⟨_, rfl⟩
  have HWA := Lib.hid (fun W (hW : Wd W) => (show Calls Tryd.prog 56 #[.int .i64 (v : Int)] W fun e w' => e = .returned (.int .i64 (kw : Int)) ∧ W = w' from by rw [← hkw]; exact width_any v W hW))
  rw [hkw] at hs k1 k2
  obtain ⟨xs, p, AG, nG, cG, L, hh, hr⟩ := h.mem
  have hsl : 8 * xs.length < p + kw := by rw [hr.bits, restOf_length] at hs; omega
  have hg := get_any gr xs p kw w.drew (isR_draws hr.r 1)
  obtain ⟨e1, e2, e3⟩ := got_short (xs := xs) (p := p) (k := (kw : Int)) (by omega) (by omega) (by rw [Int.toNat_natCast]; exact hsl)
  rw [e1, e2, e3] at hg
  have HG := Lib.hid hg; have HH := Lib.hid hh; have HR := Lib.hid hr; have HX := Lib.hid h
  have q0 : w.cell? ⟨g, 0, none⟩ = some (.pointer (some ⟨gr, 0, none⟩)) := by rw [hh.cell]; rfl
  have HWD : Hid (Wd w.drew) := hwd
  clear hg hh hr h hs hsl hkw e1 e2 e3 hwd
  unfold panE
  go_enter Tryd.func91, Tryd.ntmps91
  go_upto_region 1 with fail
  go_cut [5, 6] (fun s5 s6 wc => s5 = .int .i64 0 ∧ s6 = .int .i64 10 ∧ w.grownBy wc (some gr))
  case first =>
    go_region_with (first
      | (go_at_call 56; refine (HWA.out w.drew HWD.out).mono ?_; rintro e w3 ⟨rfl, rfl⟩)
      | (go_at_call 44; refine HG.out.mono ?_; rintro e w4 ⟨rfl, hr4, hg4⟩))
    all_goals
      go_wp2_with fail
      go_meet
      exact ⟨rfl, rfl, only_trans (only_draw (only_refl w _)) hg4⟩
  case rest =>
    obtain ⟨rfl, rfl, hg4⟩ := hcut
    have HF := Lib.hid (de_read HX.out HH.out HR.out hg4).2.2
    clear hg4
    go_wp2
    exact ⟨rfl, rfl, HF.out⟩
end Go.Proofs.YtamnhnleipnhdaaDoor
