/-
  linesideref04.Sort: each number behind the last that it is not less than.
-/
import Derived.Test.YtidokfbjfdkfdaaOdoClean
import Derived.Deep.DeepCutAuto
import Derived.Deep.CutBlock
import Derived.Deep.RegionWith
import Derived.StillTailTactics
import Derived.Deep.RegionHeld3
import Derived.Deep.Onto
import Derived.Deep.AppendLies
import Derived.Deep.DrawnRows
namespace Go.Proofs.Ytidokfbjfdkfdaa
open Go.RowKit Fl
attribute [local irreducible] N E mval top U

def pos (x : Nat) (out : List Nat) : Nat → Nat
  | 0 => 0
  | k + 1 => if lessB x (out.getD k 0) = true then pos x out k else k + 1
theorem pos_le (x : Nat) (out : List Nat) : ∀ k, pos x out k ≤ k
  | 0 => Nat.le_refl _
  | k + 1 => by
    rw [pos]
    split
    · exact Nat.le_succ_of_le (pos_le x out k)
    · exact Nat.le_refl _
def ins (x : Nat) (out : List Nat) : List Nat := out.take (pos x out out.length) ++ [x] ++ out.drop (pos x out out.length)
def sortOf (l : List Nat) : List Nat := l.foldl (fun out x => ins x out) []
theorem sort_step (l : List Nat) (j : Nat) (h : j < l.length) : sortOf (l.take (j + 1)) = ins (l.getD j 0) (sortOf (l.take j)) := by
  rw [List.take_succ_eq_append_getElem h, sortOf, List.foldl_append]
  simp [sortOf, List.getD_eq_getElem?_getD, List.getElem?_eq_getElem h]
theorem ins_length (x : Nat) (out : List Nat) : (ins x out).length = out.length + 1 := by
  have := pos_le x out out.length
  simp [ins]; omega
theorem sort_length_foldl (l : List Nat) : ∀ out : List Nat, (l.foldl (fun out x => ins x out) out).length = out.length + l.length := by
  induction l with
  | nil => intro out; simp
  | cons x l ih => intro out; rw [List.foldl_cons, ih, ins_length, List.length_cons]; omega
theorem sort_length (l : List Nat) : (sortOf l).length = l.length := by rw [sortOf, sort_length_foldl]; simp
theorem ins_mem (x : Nat) (out : List Nat) (z : Nat) : z ∈ ins x out ↔ z = x ∨ z ∈ out := by
  have := List.take_append_drop (pos x out out.length) out
  constructor
  · intro h
    simp only [ins, List.mem_append, List.mem_singleton] at h
    rcases h with (h | h) | h
    · exact .inr (List.mem_of_mem_take h)
    · exact .inl h
    · exact .inr (List.mem_of_mem_drop h)
  · intro h
    simp only [ins, List.mem_append, List.mem_singleton]
    rcases h with h | h
    · exact .inl (.inr h)
    · rw [← this, List.mem_append] at h
      rcases h with h | h
      · exact .inl (.inl h)
      · exact .inr h
theorem sort_mem_foldl (l : List Nat) : ∀ (out : List Nat) (z : Nat), z ∈ l.foldl (fun out x => ins x out) out ↔ z ∈ out ∨ z ∈ l := by
  induction l with
  | nil => intro out z; simp
  | cons x l ih => intro out z; rw [List.foldl_cons, ih, ins_mem, List.mem_cons]; grind
theorem sort_wf {l : List Nat} (h : ∀ z ∈ l, (Lit.float .f64 z).wf = true) : ∀ z ∈ sortOf l, (Lit.float .f64 z).wf = true := by
  intro z hz
  rw [sortOf, sort_mem_foldl] at hz
  exact h z (by simpa using hz)

theorem run_cutlow {P : Program} (t e : TypeId) (h : P.underlying t = some (.slice e)) (he : P.elem t = e) (hs : (P.info? e).map (·.size) = some 1) (A : Option Addr) (n c p : Nat) (hp : p ≤ n) (w : World) :
    (Instr.sliceAt t (.slice A n c) (some (.int .i64 (p : Nat))) none none).run P w = .ok (.slice (if c = p then A else A.map (·.add (p * 1))) (n - p) (c - p)) w := by
  have e1 : (sizeOf e).run P w = .ok 1 w := by
    cases hi : P.info? e with
    | none => rw [hi] at hs; cases hs
    | some i =>
      rw [hi] at hs
      simp only [Option.map_some, Option.some.injEq] at hs
      simp [sizeOf, run_typeInfo _ hi, hs]
  have h0 : (0 : Int) ≤ (p : Nat) := by omega
  have h1 : ((p : Nat) : Int) ≤ (n : Nat) := by omega
  simp [Instr.sliceAt, Instr.slice, run_underlying h, Instr.sliceBounds, run_sliceBound, h0, h1, e1]
theorem run_cuthigh {P : Program} (t e : TypeId) (h : P.underlying t = some (.slice e)) (he : P.elem t = e) (hs : (P.info? e).map (·.size) = some 1) (A : Option Addr) (n c p : Nat) (hp : p ≤ c) (w : World) :
    (Instr.sliceAt t (.slice A n c) none (some (.int .i64 (p : Nat))) none).run P w = .ok (.slice (if c = 0 then A else A.map (·.add (0 * 1))) p c) w := by
  have e1 : (sizeOf e).run P w = .ok 1 w := by
    cases hi : P.info? e with
    | none => rw [hi] at hs; cases hs
    | some i =>
      rw [hi] at hs
      simp only [Option.map_some, Option.some.injEq] at hs
      simp [sizeOf, run_typeInfo _ hi, hs]
  have h0 : (0 : Int) ≤ (p : Nat) := by omega
  have h1 : ((p : Nat) : Int) ≤ (c : Nat) := by omega
  simp [Instr.sliceAt, Instr.slice, run_underlying h, Instr.sliceBounds, run_sliceBound, h0, h1, e1]

/-- What a part of a row holds. -/
theorem sl_low {w : World} {A : Option Addr} {n c : Nat} {l : List Nat} (h : Sl w 1 A n c (flts l)) (hc : n ≤ c) {p : Nat} (hp : p ≤ n) : Sl w 1 (if c = p then A else A.map (·.add (p * 1))) (n - p) (c - p) (flts (l.drop p)) := by
  have hl : l.length = n := by have := h.1; rw [flts_length] at this; omega
  refine ⟨by rw [flts_length, List.length_drop]; omega, fun e => ?_, fun ad ha j u hu => ?_⟩
  · cases A with
    | none => have := h.2.1 rfl; omega
    | some a =>
      rw [Option.map_some] at e
      split at e <;> cases e
  · have hj : j < n - p := by
      have := (List.getElem?_eq_some_iff.1 hu).1
      rw [flts_length, List.length_drop] at this
      omega
    have hu' : (flts l)[p + j]? = some u := by
      unfold flts at hu ⊢
      rw [List.getElem?_map, List.getElem?_drop] at hu
      rw [List.getElem?_map]
      exact hu
    rw [if_neg (by omega)] at ha
    cases A with
    | none => cases ha
    | some a =>
      rw [Option.map_some] at ha
      injection ha with ha
      subst ha
      have h0 := h.2.2 a rfl (p + j) u hu'
      have e : (a.add (p * 1)).add j = a.add (p + j) := by
        unfold Addr.add
        by_cases h1 : p = 0
        · subst h1; simp
        · by_cases h2 : j = 0
          · subst h2; simp [h1]
          · simp [h1, h2, Nat.add_assoc]
      rw [e]
      exact h0
theorem sl_high {w : World} {A : Option Addr} {n c : Nat} {l : List Nat} (h : Sl w 1 A n c (flts l)) {p : Nat} (hp : p ≤ n) : Sl w 1 (if c = 0 then A else A.map (·.add (0 * 1))) p c (flts (l.take p)) := by
  have hl : l.length = n := by have := h.1; rw [flts_length] at this; omega
  refine ⟨by rw [flts_length, List.length_take]; omega, fun e => ?_, fun ad ha j u hu => ?_⟩
  · cases A with
    | none => have := h.2.1 rfl; omega
    | some a =>
      rw [Option.map_some] at e
      split at e <;> cases e
  · have hj : j < p := by
      have := (List.getElem?_eq_some_iff.1 hu).1
      rw [flts_length, List.length_take] at this
      omega
    have hu' : (flts l)[j]? = some u := by
      unfold flts at hu ⊢
      rw [List.getElem?_map, List.getElem?_take_of_lt hj] at hu
      rw [List.getElem?_map]
      exact hu
    cases A with
    | none => split at ha <;> cases ha
    | some a =>
      rw [Option.map_some] at ha
      have e : (a.add (0 * 1)) = a := by unfold Addr.add; simp
      rw [e] at ha
      have ha' : ad = a := by split at ha <;> (injection ha with ha; exact ha.symm)
      subst ha'
      exact h.2.2 ad rfl j u hu'
theorem own_room {w : World} {base : Nat} {A : Option Addr} {m c : Nat} {l : List Nat} (h : OwF base w A m c l) : m ≤ c := by
  rcases h.2 with ⟨e, e2⟩ | ⟨g, cap, cur, e, _, _, e2, _⟩
  · omega
  · injection e with _ _ e3; omega
theorem own_draws {w : World} {base : Nat} {A : Option Addr} {m c : Nat} {l : List Nat} (h : OwF base w A m c l) (n : Nat) : OwF base (w.drewN n) A m c l := h
theorem own_sl {w : World} {base : Nat} {A : Option Addr} {m c : Nat} {l : List Nat} (h : OwF base w A m c l) : Sl w 1 A m c (flts l) := Sl.of_own h
theorem own_low {w w' : World} {base : Nat} {A : Option Addr} {m c : Nat} {l : List Nat} (h : OwF base w A m c l) (hg : w.grownBy w' none) : OwF base w' A m c l := by
  refine World.ownsRow.kept h hg ?_
  cases hv : (Value.slice A m c).ownBlock
  · exact .inl rfl
  · exact .inr (by simp)

/-- wpList_pour, at a region that draws its order. -/
theorem step_pour {P : Program} {ops : Array Oper} {o : Oper} {a : Act} {w : World} {K : Act → World → Prop} {Q : Exit → Act → World → Prop} {E : Prop} (hgd : o.guard = none) (s x : Operand) (t : TypeId)
    (ho : o.op = .call { callee := .builtin .append, args := #[s, x], argTypes := #[t, t] })
    (base : Nat) (e : TypeId) (z : Value) (size bytes : Nat) (ht : P.underlying t = some (.slice e)) (hinfo : (P.info? e).map (fun i => (i.zero, i.size, i.bytes)) = some (some z, size, bytes))
    (hzs : z.cells.size = size) (hsz : 0 < size)
    (A : Option Addr) (n c : Nat) (xs : List Value) (hs : a.eval s = .slice A n c) (hown : Hid (w.ownsRow base e size (.slice A n c) n xs))
    (B : Option Addr) (m cc : Nat) (news : List Value) (hx : a.eval x = .slice B m cc) (hl : Hid (Sl w size B m cc news)) (h1 : Hid (∀ u ∈ news, u.oneCell' = true))
    (hb : Hid (n + m ≤ maxLen ∧ (n + m) * bytes ≤ 140737488355328 ∧ base ≤ w.heap.size))
    (h : ∀ A' c' w', Hid (w'.ownsRow base e size (.slice A' (n + m) c') (n + m) (xs ++ news)) → Hid (w.grownBy w' (Value.ownBlock (.slice A n c))) →
      K (a.put o.dst (.slice A' (n + m) c')) w') : if Region.wanted o (yielded ops a.tmps) = true then Oper.wp P o a w K Q else E := by
  cases B with
  | none =>
    obtain ⟨rfl, rfl⟩ := hl.out.2.1 rfl
    have e0 : news = [] := List.eq_nil_of_length_eq_zero (by simpa using hl.out.1)
    subst e0
    have hw : Region.wanted o (yielded ops a.tmps) = true := by simp [Region.wanted, hgd]
    rw [if_pos hw]
    obtain ⟨i, hi, _⟩ := info_parts hinfo
    have hr := run_append_owned_none (P := P) (w := w) base t o.type e i size ht hi (.slice A n c) n xs hown.out
    unfold Oper.wp execOp
    simp only [ho, resolve, invoke, builtin, Sem.run_bind, Sem.run_pure, Result.andThen_ok, List.map_toArray, List.map_cons, List.map_nil, hs, hx, hr]
    exact h A c w (show Hid _ by simpa using hown) (only_refl _ _)
  | some ad =>
    exact step_push hgd s x t ho base e z size bytes ht hinfo hzs hsz A n c xs hs hown ad m cc news hx hl.out.1 (hl.out.2.2 ad rfl) h1 hb h

theorem sl_grow0 {w w' : World} {A : Option Addr} {n c : Nat} {vs : List Value} (h : Sl w 1 A n c vs) (hg : w.grownBy w' none) : Sl w' 1 A n c vs := ⟨h.1, h.2.1, fun ad ha j u hu => hg.cell (h.2.2 ad ha j u hu) (by simp)⟩
theorem own0 {w : World} {base : Nat} {A : Option Addr} {p c : Nat} {xs : List Value} (h : Hid (w.ownsRow base 22 1 (.slice A (0 + p) c) (0 + p) ([] ++ xs))) : Hid (w.ownsRow base 22 1 (.slice A p c) p xs) := by
  have := h.out
  rw [Nat.zero_add, List.nil_append] at this
  exact this
theorem own1 {w : World} {base : Nat} {A : Option Addr} {p c : Nat} {xs ys : List Value} (h : Hid (w.ownsRow base 22 1 (.slice A (0 + p + 1) c) (0 + p + 1) ([] ++ xs ++ ys))) : Hid (w.ownsRow base 22 1 (.slice A (p + 1) c) (p + 1) (xs ++ ys)) := by
  have := h.out
  rw [Nat.zero_add, List.nil_append] at this
  exact this
theorem own_al {w : World} {base : Nat} {A : Option Addr} {p c : Nat} {xs : List Value} (h : Hid (w.ownsRow base 22 1 (.slice A p c) p xs)) (o : Obj) : Hid ((w.alloc o).ownsRow base 22 1 (.slice A p c) p xs) := World.ownsRow.alloc h.out o
theorem cell_new (w : World) (x : Nat) : Hid (∀ i u, ([.float .f64 x] : List Value)[i]? = some u → (w.alloc (.cells #[.float .f64 x] 22)).cell? ((⟨w.heap.size, 0, none⟩ : Addr).add i) = some u) := by
  intro i u hu
  rw [WideShapes.add_plain, (Has.made w 22 #[.float .f64 x]).cell, Nat.zero_add]
  simpa using hu
theorem cell_kept {w w' : World} {x : Nat} (hg : Hid ((w.alloc (.cells #[.float .f64 x] 22)).drew.grownBy w' none)) : Hid (∀ i u, ([.float .f64 x] : List Value)[i]? = some u → w'.cell? ((⟨w.heap.size, 0, none⟩ : Addr).add i) = some u) := by
  intro i u hu
  exact hg.out.cell ((cell_new w x).out i u hu) (by simp)
theorem bd_al {w : World} {base p : Nat} (hp : p ≤ 65536) (hs : base ≤ w.heap.size) (o : Obj) : Hid (p + 1 ≤ maxLen ∧ (p + 1) * 8 ≤ 140737488355328 ∧ base ≤ (w.alloc o).heap.size) := ⟨by unfold maxLen; omega, by omega, by simp; omega⟩
theorem bd_one {w : World} {base p : Nat} (hp : p ≤ 65536) (hs : base ≤ w.heap.size) : Hid (p + 1 ≤ maxLen ∧ (p + 1) * 8 ≤ 140737488355328 ∧ base ≤ w.heap.size) := ⟨by unfold maxLen; omega, by omega, hs⟩
theorem own_far {w5 w6 : World} {base : Nat} {A5 A6 : Option Addr} {m c5 p c6 : Nat} {l : List Nat} {xs : List Value} (h5 : OwF base w5 A5 m c5 l) (h6 : w6.ownsRow w5.heap.size 22 1 (.slice A6 p c6) p xs) :
    (Value.slice A5 m c5).ownBlock = none ∨ (Value.slice A5 m c5).ownBlock ≠ (Value.slice A6 p c6).ownBlock := by
  cases h : (Value.slice A5 m c5).ownBlock with
  | none => exact .inl rfl
  | some k =>
    refine .inr fun e => ?_
    have h1 := (World.ownsRow.lt h5 k h).2
    have h2 := (World.ownsRow.lt h6 k e.symm).1
    omega

theorem below_cell {w : World} {a : Addr} {v : Value} {o : Obj} (h : w.cell? a = some v) : (w.alloc o).cell? a = some v := by
  rw [((Below.refl w.heap.size w).alloc (Nat.le_refl _) o).cell (cell_block h)]; exact h

theorem cell_far {w5 w6 : World} {a : Addr} {v : Value} {A6 : Option Addr} {p c6 : Nat} {xs : List Value} (h : w5.cell? a = some v) (h6 : w6.ownsRow w5.heap.size 22 1 (.slice A6 p c6) p xs) : some a.block ≠ (Value.slice A6 p c6).ownBlock := by
  intro e
  have h1 := cell_block h
  have h2 := (World.ownsRow.lt h6 _ e.symm).1
  omega

attribute [local go_sem ↓] Go.wp_at_zero Go.wp_at_succ

set_option maxRecDepth 100000 in
set_option maxHeartbeats 8000000 in
theorem rsort_any (A : Option Addr) (n c : Nat) (l : List Nat) (w : World) (hl : SlF w A n c l) (hn : n ≤ 65536) :
    Calls Try.prog 21 #[.slice A n c] w fun e w' => ∃ A' c', e = .returned (.slice A' n c') ∧ OwF w.heap.size w' A' n c' (sortOf l) ∧ Below w.heap.size w w' := by
  have hll := hl.len
  have HL := Lib.hid hl; clear hl
  have HO0 : Hid (OwF w.heap.size w none 0 0 []) := Lib.hid (World.ownsRow_nil w w.heap.size 22 1)
  go_enter Try.func21, Try.ntmps21
  go_wp2
  go_loopg [3, 4] n (fun kk v i wl => ∃ (j : Nat) (A2 : Option Addr) (c2 : Nat), j ≤ n ∧ n - j ≤ kk ∧ i = .int .i64 j ∧ v = .slice A2 j c2 ∧ OwF w.heap.size wl A2 j c2 (sortOf (l.take j)) ∧ Below w.heap.size w wl)
  case atStart => exact ⟨0, none, 0, by omega, by omega, rfl, rfl, HO0.out, Below.refl _ _⟩
  case round =>
    obtain ⟨j, A2, c2, hj, hjk, rfl, rfl, ho, hb⟩ := hrel
    obtain ⟨w1, hw1⟩ : ∃ w1, w1 = wr := ⟨_, rfl⟩
    subst hw1
    obtain ⟨g1, hg1⟩ : ∃ g1, g1 = gk := ⟨_, rfl⟩
    subst hg1
    have HO := Lib.hid ho; have HB := Lib.hid hb; clear ho hb
    by_cases hlt : j < n
    · have HLr := Lib.hid (HL.out.under HB.out)
      obtain ⟨b, off, rfl, hc⟩ := HLr.out.at_ hlt
      have hw := HL.out.wf_at hlt
      have hstep := sort_step l j (by omega)
      have hlen : (sortOf (l.take j)).length = j := by rw [sort_length, List.length_take]; omega
      have hwf := sort_wf (fun z hz => HL.out.wf z (List.mem_of_mem_take hz)) (l := l.take j)
      generalize l.getD j 0 = x at *
      obtain ⟨K, hK⟩ : ∃ K, sortOf (l.take j) = K := ⟨_, rfl⟩
      rw [hK] at hstep HO hlen hwf
      have HST := Lib.hid hstep; clear hstep hK
      have HX := Lib.hid hw; clear hw
      have HC := Lib.hid hc; clear hc
      have HKW := Lib.hid hwf; clear hwf
      have HKL := Lib.hid hlen; clear hlen
      have HSK : Hid (SlF w1 A2 j c2 K) := Lib.hid ⟨HKL.out, HKW.out, own_sl HO.out⟩
      go_upto_block 2 with fail
      go_cut [5] (fun a wx => a = .int .i64 ((pos x K j : Nat) : Int) ∧ ∃ q, wx = w1.drewN q)
      case first =>
        go_wp2_with fail
        go_loopg [5] j (fun kk a wl => ∃ k : Nat, k ≤ j ∧ k ≤ kk ∧ a = .int .i64 k ∧ pos x K j = pos x K k ∧ ∃ q, wl = w1.drewN q)
        case atStart => exact ⟨j, by omega, by omega, rfl, rfl, 0, rfl⟩
        case round =>
          obtain ⟨k, hkj, hkk, rfl, hpk, q, hq⟩ := hrel
          have HQ := Lib.hid hq; clear hq
          have HP := Lib.hid hpk; clear hpk
          cases k with
          | zero =>
            go_wp2_with fail
            go_meet
            exact ⟨by rw [HP.out]; rfl, q, HQ.out⟩
          | succ k =>
            have hc1 : wr.cell? ⟨b, off + j, none⟩ = some (.float .f64 x) := by rw [HQ.out]; exact HC.out
            obtain ⟨b2, off2, e2, hc2⟩ := HSK.out.at_ (j := k) (by omega)
            subst e2
            have hc2 : wr.cell? ⟨b2, off2 + k, none⟩ = some (.float .f64 (K.getD k 0)) := by rw [HQ.out]; exact hc2
            have W2 := Lib.hid (HSK.out.wf_at (j := k) (by omega))
            obtain ⟨y, hy⟩ : ∃ y, K.getD k 0 = y := ⟨_, rfl⟩
            rw [hy] at hc2 W2
            have hpos : pos x K (k + 1) = if lessB x y = true then pos x K k else k + 1 := by rw [pos, hy]
            have x0 : (0 : Int) ≤ j := by omega
            have x1 : (j : Int) < n := by omega
            have y0 : (0 : Int) ≤ k := by omega
            have y1 : (k : Int) < j := by omega
            have HPO := Lib.hid hpos; clear hpos hy
            go_wp2_with fail
            go_quiet ((go_at_call 16; exact Calls.quiet_of_same ((rless_any x y HX.out W2.out _).mono fun _ _ h => ⟨h.1, h.2.symm⟩)))
            cases hb : lessB x y
            · go_wp2
              go_meet
              exact ⟨by rw [HP.out, HPO.out, hb]; rfl, q + nq, by rw [HQ.out, World.drewN_drewN]⟩
            · go_wp2
              go_roundg (gk - 1)
              case measure => omega
              case rel => exact ⟨k, by omega, by omega, by go_num, by rw [HP.out, HPO.out, hb]; rfl, q + nq, by rw [HQ.out, World.drewN_drewN]⟩
      case rest =>
        obtain ⟨rfl, q, hq⟩ := hcut
        have hp := pos_le x K j
        have hins : ins x K = K.take (pos x K j) ++ [x] ++ K.drop (pos x K j) := by rw [ins, HKL.out]
        generalize pos x K j = p at *
        have hov : OwF w.heap.size wc A2 j c2 K := by rw [hq]; exact own_draws HO.out q
        have hroom := own_room hov
        have hbv : Below w.heap.size w wc := by rw [hq]; exact below_draws HB.out q
        have hcv : wc.cell? ⟨b, off + j, none⟩ = some (.float .f64 x) := by rw [hq]; exact HC.out
        clear hq
        obtain ⟨At, hAt⟩ : ∃ At, (if c2 = p then A2 else A2.map (·.add (p * 1))) = At := ⟨_, rfl⟩
        obtain ⟨Ah, hAh⟩ : ∃ Ah, (if c2 = 0 then A2 else A2.map (·.add (0 * 1))) = Ah := ⟨_, rfl⟩
        have e1 : ∀ w, (Instr.sliceAt 31 (.slice A2 j c2) (some (.int .i64 (p : Nat))) none none).run Try.prog w = .ok (.slice At (j - p) (c2 - p)) w := by rw [← hAt]; exact fun w => run_cutlow _ _ Try.underlying31 (by kernel_rfl) (by kernel_rfl) _ _ _ _ hp w
        have e2 : ∀ w, (Instr.sliceAt 31 (.slice A2 j c2) none (some (.int .i64 (p : Nat))) none).run Try.prog w = .ok (.slice Ah p c2) w := by rw [← hAh]; exact fun w => run_cuthigh _ _ Try.underlying31 (by kernel_rfl) (by kernel_rfl) _ _ _ _ (by omega) w
        have hlo := sl_low (own_sl hov) hroom hp
        have hhi := sl_high (own_sl hov) hp
        rw [hAt] at hlo
        rw [hAh] at hhi
        have HO2 := Lib.hid hov; have HB2 := Lib.hid hbv; have HC2 := Lib.hid hcv; have HLO := Lib.hid hlo; have HHI := Lib.hid hhi; have HIN := Lib.hid hins
        clear hov hbv hcv hlo hhi hins hAt hAh HO HB HC HLr HSK
        have HN0 : Hid (wc.ownsRow w.heap.size 22 1 (.slice none 0 0) 0 []) := Lib.hid (World.ownsRow_nil wc w.heap.size 22 1)
        have HF1 := Lib.hid (flts_one (K.drop p))
        have HBD : Hid (0 + (j - p) ≤ maxLen ∧ (0 + (j - p)) * 8 ≤ 140737488355328 ∧ w.heap.size ≤ wc.heap.size) := ⟨by unfold maxLen; omega, by omega, HB2.out.size⟩
        go_wp2_with (with_reducible refine wpList_pour (o := ⟨some 35, _, _, _, _, _⟩) rfl (.const (.slice none 0 0)) (.tmp 34) 31 rfl w.heap.size 22 (.float .f64 0) 1 8 Try.underlying31 info_f64 ?hz (by decide) none 0 0 [] ?hs HN0 At (j - p) (c2 - p) (flts (K.drop p)) ?hx HLO HF1 HBD ?next)
        case hz => rfl
        case hs => rfl
        case hx => rfl
        case next =>
          intro A5 c5 w5 ho5 hg5
          have HO5 := ho5; clear ho5
          have HB5 := Lib.hid (below_own HB2.out HBD.out.2.2 HN0.out (Nat.le_refl _) rfl hg5.out)
          have HC5 : w5.cell? ⟨b, off + j, none⟩ = some (.float .f64 x) := hg5.out.cell HC2.out (by simp [Value.ownBlock])
          have HH5 := Lib.hid (sl_grow0 HHI.out hg5.out)
          clear HB2 HC2 HHI HLO HN0 HBD HF1 HO2 e1 hg5
          have HF2 := Lib.hid (flts_one (K.take p))
          have H1 : Hid (∀ u ∈ ([.float .f64 x] : List Value), u.oneCell' = true) := by
            intro u hu
            simp only [List.mem_singleton] at hu
            subst hu
            rfl
          have HN1 := Lib.hid (show ([.float .f64 x] : List Value).length = 1 * 1 from rfl)
          have HSA : Hid (Sl w5.drew 1 Ah p c2 (flts (K.take p))) := HH5.out
          have HSB : Hid (Sl (w5.alloc (.cells #[.float .f64 x] 22)).drew 1 Ah p c2 (flts (K.take p))) := HH5.out.beside _
          have HBA : Hid (0 + p ≤ maxLen ∧ (0 + p) * 8 ≤ 140737488355328 ∧ w5.heap.size ≤ w5.drew.heap.size) := ⟨by unfold maxLen; omega, by omega, Nat.le_refl _⟩
          have HBB : Hid (0 + p ≤ maxLen ∧ (0 + p) * 8 ≤ 140737488355328 ∧ w5.heap.size ≤ (w5.alloc (.cells #[.float .f64 x] 22)).drew.heap.size) := ⟨by unfold maxLen; omega, by omega, by show _ ≤ (w5.alloc (.cells #[.float .f64 x] 22)).heap.size; simp⟩
          have hp6 : p ≤ 65536 := by omega
          have hp7 : 0 + p ≤ 65536 := by omega
          have HO5D : Hid (OwF w.heap.size w5.drew A5 (j - p) c5 (K.drop p)) := HO5.out
          have HO5E : Hid (OwF w.heap.size (w5.alloc (.cells #[.float .f64 x] 22)).drew A5 (j - p) c5 (K.drop p)) := World.ownsRow.alloc HO5.out (.cells #[.float .f64 x] 22)
          have HB5D : Hid (Below w.heap.size w w5.drew) := below_drew HB5.out
          have HB5E : Hid (Below w.heap.size w (w5.alloc (.cells #[.float .f64 x] 22)).drew) := below_drew (HB5.out.alloc HB5.out.size (.cells #[.float .f64 x] 22))
          have HC5B : (w5.alloc (.cells #[.float .f64 x] 22)).cell? ⟨b, off + j, none⟩ = some (.float .f64 x) := (below_cell HC5)
          have x0 : (0 : Int) ≤ j := by omega
          have x1 : (j : Int) < n := by omega
          go_wp2_with fail
          go_region_held3 (fun w' => w'.cell? ⟨b, off + j, none⟩ = some (.float .f64 x)) (first | go_keep | (simp only []; first | exact HC5 | assumption)) (first
            | (refine step_pour (o := ⟨some 39, _, _, _, _, _⟩) (by rfl) (.const (.slice none 0 0)) (.tmp 38) 31 (by rfl) w5.heap.size 22 (.float .f64 0) 1 8 Try.underlying31 info_f64 (by rfl) (by decide) none 0 0 [] (by rfl) (World.ownsRow_nil _ _ _ _) Ah p c2 (flts (K.take p)) (by rfl) HSA HF2 HBA ?_; intro A6 c6 w6 ho6 hg6; have HO6 := own0 ho6; have hC6 := hg6.out.cell HC5 (by simp [Value.ownBlock]))
            | (refine step_pour (o := ⟨some 39, _, _, _, _, _⟩) (by rfl) (.const (.slice none 0 0)) (.tmp 38) 31 (by rfl) w5.heap.size 22 (.float .f64 0) 1 8 Try.underlying31 info_f64 (by rfl) (by decide) none 0 0 [] (by rfl) (World.ownsRow_nil _ _ _ _) Ah p c2 (flts (K.take p)) (by rfl) HSB HF2 HBB ?_; intro A6 c6 w6 ho6 hg6; have HO6 := own0 ho6; have hC6 := hg6.out.cell HC5B (by simp [Value.ownBlock]))
            | (refine step_push (o := ⟨some 45, _, _, _, _, _⟩) rfl (.tmp 39) (.tmp 44) 31 rfl w5.heap.size 22 (.float .f64 0) 1 8 Try.underlying31 info_f64 rfl (by decide) A6 p c6 (flts (K.take p)) rfl (own_al HO6 _) ⟨w6.heap.size, 0, none⟩ 1 1 [.float .f64 x] rfl HN1 (cell_new w6 x) H1 (bd_al hp6 hg6.out.size _) ?_; intro A7 c7 w7 ho7 hg7; have HO7 := ho7; have HR7 := Lib.hid (World.ownsRow.kept ((own_low HO5D.out hg6.out).alloc (.cells #[.float .f64 x] 22)) hg7.out (own_far HO5.out HO6.out)); have HB7 := Lib.hid (below_own ((below_own HB5D.out HB5.out.size (World.ownsRow_nil w5.drew w5.heap.size 22 1) HB5.out.size rfl hg6.out).alloc (Nat.le_trans HB5.out.size hg6.out.size) (.cells #[.float .f64 x] 22)) (Nat.le_trans HB5.out.size (bd_al hp6 hg6.out.size _).out.2.2) (own_al HO6 _).out HB5.out.size rfl hg7.out); have hC7 := hg7.out.cell (below_cell hC6) (cell_far HC5 HO6.out))
            | (refine step_push (o := ⟨some 45, _, _, _, _, _⟩) rfl (.tmp 39) (.tmp 44) 31 rfl w5.heap.size 22 (.float .f64 0) 1 8 Try.underlying31 info_f64 rfl (by decide) A6 (0 + p) c6 ([] ++ flts (K.take p)) rfl ho6 ⟨w5.heap.size, 0, none⟩ 1 1 [.float .f64 x] rfl HN1 (cell_kept hg6) H1 (bd_one hp7 (Nat.le_trans HBB.out.2.2 hg6.out.size)) ?_; intro A7 c7 w7 ho7 hg7; have HO7 := own1 ho7; have HR7 := Lib.hid (World.ownsRow.kept (own_low HO5E.out hg6.out) hg7.out (own_far HO5.out ho6.out)); have HB7 := Lib.hid (below_own (below_own HB5E.out (Nat.le_trans HB5.out.size HBB.out.2.2) (World.ownsRow_nil _ w5.heap.size 22 1) HB5.out.size rfl hg6.out) (Nat.le_trans HB5.out.size (Nat.le_trans HBB.out.2.2 hg6.out.size)) ho6.out HB5.out.size rfl hg7.out); have hC7 := hg7.out.cell hC6 (cell_far HC5 ho6.out)))
          all_goals
            clear hC6 hC7 HC5 HC5B HO5D HO5E HB5D HB5E HSA HSB HBA HBB HF2 HN1 H1 e2 HO6 ho6 hg6 ho7 hg7 HO5 HH5
            have HSL := Lib.hid (own_sl HR7.out)
            have HF3 := Lib.hid (flts_one (K.drop p))
            have hsz : w5.heap.size ≤ w7.heap.size := by
              obtain ⟨g, cap, _, h1, h2⟩ := World.ownsRow.form HO7.out (by omega)
              omega
            have HBD3 : Hid (p + 1 + (j - p) ≤ maxLen ∧ (p + 1 + (j - p)) * 8 ≤ 140737488355328 ∧ w5.heap.size ≤ w7.heap.size) := ⟨by unfold maxLen; omega, by omega, hsz⟩
            go_wp2_with (with_reducible refine wpList_pour (o := ⟨some 48, _, _, _, _, _⟩) rfl (.tmp 46) (.tmp 47) 31 rfl w5.heap.size 22 (.float .f64 0) 1 8 Try.underlying31 info_f64 ?hz (by decide) A7 (p + 1) c7 (flts (K.take p) ++ [.float .f64 x]) ?hs HO7 A5 (j - p) c5 (flts (K.drop p)) ?hx HSL HF3 HBD3 ?next)
            case hz => rfl
            case hs => rfl
            case hx => rfl
            case next =>
              intro A8 c8 w8 ho8 hg8
              go_wp2
              go_roundg (g1 - 1)
              case measure => omega
              case rel =>
                have e8 : p + 1 + (j - p) = j + 1 := by omega
                refine ⟨j + 1, A8, c8, by omega, by omega, by go_num, by rw [e8], ?_, below_own HB7.out HB7.out.size HO7.out HB5.out.size rfl hg8.out⟩
                have h8 := World.ownsRow.mono ho8.out HB5.out.size
                rw [e8] at h8
                rw [HST.out, HIN.out]
                simpa [OwF, flts] using h8
    · obtain rfl : j = n := by omega
      have e : l.take j = l := by rw [← hll, List.take_length]
      rw [e] at HO
      go_wp2
      go_ret
      exact ⟨A2, c2, rfl, HO.out, HB.out⟩

end Go.Proofs.Ytidokfbjfdkfdaa
