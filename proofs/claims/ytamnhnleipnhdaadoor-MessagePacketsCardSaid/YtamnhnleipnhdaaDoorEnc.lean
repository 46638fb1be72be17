/-
  package packet's encoder: what it holds; next, number.
-/
import Derived.Test.YtamnhnleipnhdaaDoorThruC

namespace Go.Proofs.YtamnhnleipnhdaaDoor

open Go.RowKit

theorem wpList_push2 {P : Program} {ops : Array Oper} {rest : List Oper} {o : Oper} {a : Act} {w : World} {Q : Exit → Act → World → Prop} (hgd : o.guard = none) (s x : Operand) (t : TypeId)
    (ho : o.op = .call { callee := .builtin .append, args := #[s, x], argTypes := #[t, t] })
    (base : Nat) (e : TypeId) (z : Value) (size bytes : Nat) (ht : P.underlying t = some (.slice e)) (hinfo : (P.info? e).map (fun i => (i.zero, i.size, i.bytes)) = some (some z, size, bytes))
    (hzs : z.cells.size = size) (hsz : 0 < size)
    (A : Option Addr) (n c : Nat) (xs : List Value) (hs : a.eval s = .slice A n c) (hown : Hid (w.ownsRow base e size (.slice A n c) n xs))
    (ad : Addr) (m cc : Nat) (news : List Value) (hx : a.eval x = .slice (some ad) m cc) (hl : Hid (news.length = m * size)) (hnews : Hid (∀ j u, news[j]? = some u → w.cell? (ad.add j) = some u)) (h1 : Hid (∀ u ∈ news, u.oneCell' = true))
    (hb : Hid (n + m ≤ maxLen ∧ (n + m) * bytes ≤ 140737488355328 ∧ base ≤ w.heap.size))
    (h : ∀ A' c' w', Hid (w'.ownsRow base e size (.slice A' (n + m) c') (n + m) (xs ++ news)) → Hid (w.grownBy w' (Value.ownBlock (.slice A n c))) → Hid (Value.ownBlock (.slice A' (n + m) c') = Value.ownBlock (.slice A n c) ∨ Value.ownBlock (.slice A' (n + m) c') = some w.heap.size) →
      wpList P ops Q rest (a.put o.dst (.slice A' (n + m) c')) w') : wpList P ops Q (o :: rest) a w := by
  obtain ⟨i, hi, hz, hsize, hby⟩ := info_parts hinfo
  refine wpList_append_own_at w hgd s x t ho base e i z size bytes ht hi hz hsize hby hzs hsz (.slice A n c) n xs hs hown.out ad m cc news hx hl.out hnews.out h1.out hb.out.1 hb.out.2.1 hb.out.2.2 ?_
  intro v' w' h2 h3 _ h5
  obtain ⟨A', c', rfl⟩ := own_shape h2
  exact h A' c' w' h2 h3 h5

/-- What the encoder's slices hold. -/
structure EnR (base lo hi : Nat) (w : World) (s : WS) (AV : Option Addr) (nV cV : Nat) (AO : Option Addr) (nO cO : Nat) : Prop where
  v : SlI base w AV nV cV s.V
  len : s.out.length = nO
  o : w.ownsRow base 53 2 (.slice AO nO cO) nO (pairs s.out)
  oz : ∀ k, Value.ownBlock (.slice AO nO cO) = some k → k < lo ∨ hi ≤ k
  wid : ∀ x ∈ s.out, 0 ≤ x.2 ∧ x.2 ≤ 64
def enCells (id : Int) (s : WS) (size : Int) (AV : Option Addr) (nV cV : Nat) (AO : Option Addr) (nO cO : Nat) : Array Value := #[.int .i64 id, .slice AV nV cV, .slice AO nO cO, .int .i64 size, .int .i64 s.place]
/-- The encoder in block g: it holds the state s of a packet of number id. -/
structure EnAt (base lo hi g : Nat) (id : Int) (w : World) (s : WS) : Prop where
  gb : base ≤ g
  gz : g < lo ∨ hi ≤ g
  sz : base ≤ w.heap.size ∧ hi ≤ w.heap.size
  rd : s.rd = false
  mem : ∃ AV nV cV AO nO cO, Has w g 91 (enCells id s (totalOf s.out) AV nV cV AO nO cO) ∧ EnR base lo hi w s AV nV cV AO nO cO

section

variable {base lo hi g : Nat} {w w' : World} {s : WS} {AV : Option Addr} {nV cV : Nat} {AO : Option Addr} {nO cO : Nat} {id : Int}
theorem EnR.under (h : EnR base lo hi w s AV nV cV AO nO cO) (hb : Below w.heap.size w w') (hB : base ≤ w.heap.size) : EnR base lo hi w' s AV nV cV AO nO cO :=
  ⟨h.v.below (hb.mono hB), h.len, own_under h.o hb (Nat.le_refl _), h.oz, h.wid⟩
theorem EnAt.under (h : EnAt base lo hi g id w s) (hb : Below w.heap.size w w') : EnAt base lo hi g id w' s := by
  obtain ⟨AV, nV, cV, AO, nO, cO, h1, h2⟩ := h.mem
  exact ⟨h.gb, h.gz, ⟨Nat.le_trans h.sz.1 hb.size, Nat.le_trans h.sz.2 hb.size⟩, h.rd, AV, nV, cV, AO, nO, cO, h1.under hb h1.lt, h2.under hb h.sz.1⟩
theorem EnR.store {cs : Array Value} (h : EnR base lo hi w s AV nV cV AO nO cO) (hh : Has w g 91 cs) (hg : base ≤ g) (hB : base ≤ w.heap.size) (i : Nat) (u : Value) : EnR base lo hi (w.setCell ⟨g, i, none⟩ u) s AV nV cV AO nO cO := by
  have hgr : w.grownBy (w.setCell ⟨g, i, none⟩ u) (some g) := only_store (only_refl w (some g)) rfl u
  exact ⟨h.v.below (below_store hg hB i u), h.len, own_keep h.o hgr (own_apart h.o hh (by decide)), h.oz, h.wid⟩
theorem en_store {cs : Array Value} (hh : Has w g 91 cs) (hg : base ≤ g) (hz : g < lo ∨ hi ≤ g) (hB : base ≤ w.heap.size) (i : Nat) (u : Value) : FrZ base lo hi w (w.setCell ⟨g, i, none⟩ u) :=
  frz_store hh (by decide) hg hz hB i u
/-- The encoder's own append. -/
theorem EnR.grow (h : EnR base lo hi w s AV nV cV AO nO cO) (hB : base ≤ w.heap.size) (hh : hi ≤ w.heap.size) (n k : Int) (hk : 0 ≤ k ∧ k ≤ 64) (A' : Option Addr) (c' : Nat) (ho : w'.ownsRow base 53 2 (.slice A' (nO + 1) c') (nO + 1) (pairs s.out ++ [.int .i64 n, .int .i64 k])) (hg : w.grownBy w' (Value.ownBlock (.slice AO nO cO)))
    (hb : Value.ownBlock (.slice A' (nO + 1) c') = Value.ownBlock (.slice AO nO cO) ∨ Value.ownBlock (.slice A' (nO + 1) c') = some w.heap.size) :
    EnR base lo hi w' { s with out := s.out ++ [(n, k)] } AV nV cV A' (nO + 1) c' ∧ FrZ base lo hi w w' := by
  have hf : FrZ base lo hi w w' := frz_grown h.o (by decide) hB hh hg (Nat.le_refl _) h.oz
  refine ⟨⟨h.v.below hf.b, by simp [h.len], by simpa [pairs] using ho, fun k hk => ?_, fun x hx => ?_⟩, hf⟩
  · rcases hb with e | e
    · rw [e] at hk; exact h.oz k hk
    · rw [e] at hk; injection hk with hk; omega
  · rcases List.mem_append.1 hx with hx | hx
    · exact h.wid x hx
    · rw [List.mem_singleton] at hx; subst hx; exact hk
end

set_option maxHeartbeats 1000000 in
theorem next_nil (base lo hi g : Nat) (id : Int) (s : WS) (w : World) (h : EnAt base lo hi g id w s) (hV : s.V = []) :
    Calls Tryd.prog 83 #[.pointer (some ⟨g, 0, none⟩)] w fun e w' => e = panE 20 ∧ w = w' := by
  obtain ⟨AV, nV, cV, AO, nO, cO, h1, h2⟩ := h.mem
  have hn : nV = 0 := by rw [← h2.v.len, hV]; rfl
  subst hn
  have k1 : w.cell? ⟨g, 1, none⟩ = some (.slice AV 0 cV) := by rw [h1.cell]; rfl
  clear h1 h2 h
  unfold panE
  go_enter Tryd.func83, Tryd.ntmps83
  go_wp2
  exact ⟨rfl, rfl, rfl⟩
set_option maxHeartbeats 1000000 in
theorem next_some (base lo hi g : Nat) (id : Int) (s : WS) (V0 : Int) (VT : List Int) (w : World) (h : EnAt base lo hi g id w s) (hV : s.V = V0 :: VT) :
    Calls Tryd.prog 83 #[.pointer (some ⟨g, 0, none⟩)] w fun e w' => e = .returned (.int .i64 V0) ∧ EnAt base lo hi g id w' { s with V := VT } ∧ FrZ base lo hi w w' := by
  obtain ⟨AV, nV, cV, AO, nO, cO, h1, h2⟩ := h.mem
  obtain ⟨m, hm⟩ : ∃ m, nV = m + 1 := ⟨nV - 1, by rw [← h2.v.len, hV]; simp⟩
  subst hm
  have hne : (((m + 1 : Nat) : Int) == 0) = false := by rw [beq_eq_false_iff_ne]; omega
  obtain ⟨vb, voff, rfl, hcv⟩ := h2.v.sl.at_ (j := 0) (u := .int .i64 V0) (by rw [hV]; rfl)
  rw [Nat.add_zero] at hcv
  have hcapv := h2.v.cap
  have hsl := h2.v.sl.from_ hcapv (p := 1) (by omega)
  have hbk := from_block (A := some ⟨vb, voff, none⟩) (c := cV) (p := 1)
  obtain ⟨A2, hA2⟩ : ∃ A2, (if cV = 1 then some (⟨vb, voff, none⟩ : Addr) else (some (⟨vb, voff, none⟩ : Addr)).map (·.add (1 * 1))) = A2 := ⟨_, rfl⟩
  have e1 : ∀ w, (Instr.sliceAt 22 (.slice (some ⟨vb, voff, none⟩) (m + 1) cV) (some (.int .i64 1)) none none).run Tryd.prog w = .ok (.slice A2 m (cV - 1)) w := by
    intro w
    have := cut_from 22 3 Tryd.underlying22 (by kernel_rfl) (by kernel_rfl) (some ⟨vb, voff, none⟩) (m + 1) cV 1 (by omega) w
    rw [hA2] at this
    exact this
  rw [hA2] at hsl hbk
  have hlow : low base A2 := fun a' ha' => by
    obtain ⟨a, h3, h4⟩ := hbk a' ha'
    rw [h4]; exact h2.v.low (by omega) a h3
  have hVT : SlI base w A2 m (cV - 1) VT := ⟨by have := h2.v.len; rw [hV] at this; simpa using this, by omega, by rw [hV] at hsl; exact hsl, fun _ => hlow⟩
  have k1 : w.cell? ⟨g, 1, none⟩ = some (.slice (some ⟨vb, voff, none⟩) (m + 1) cV) := by rw [h1.cell]; rfl
  have z1 := h1.thaw 1
  have HVT := Lib.hid hVT; have H := Lib.hid h; have H1 := Lib.hid h1; have H2 := Lib.hid h2
  clear hVT hlow hsl hbk hA2 hV h1 h2 h
  go_enter Tryd.func83, Tryd.ntmps83
  go_wp2
  go_ret
  have hf := en_store (lo := lo) (hi := hi) H1.out H.out.gb H.out.gz H.out.sz.1 1 (.slice A2 m (cV - 1))
  have hr := H2.out.store H1.out H.out.gb H.out.sz.1 1 (.slice A2 m (cV - 1))
  exact ⟨rfl, ⟨H.out.gb, H.out.gz, ⟨Nat.le_trans H.out.sz.1 hf.b.size, Nat.le_trans H.out.sz.2 hf.b.size⟩, H.out.rd, A2, m, cV - 1, AO, nO, cO, H1.out.stored 1 _, ⟨HVT.out.below hf.b, hr.len, hr.o, hr.oz, hr.wid⟩⟩, hf⟩
end Go.Proofs.YtamnhnleipnhdaaDoor
