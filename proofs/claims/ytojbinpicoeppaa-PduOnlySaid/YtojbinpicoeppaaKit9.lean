/-
  Small words for structs in memory: a struct handed back with a word beside it; slices cut in their midst; an append of a slice in a region that draws.
-/
import Derived.Test.YtojbinpicoeppaaByteKit
import Derived.Test.YtojbinpicoeppaaCut
import Derived.Laws.ResultCell
namespace Go.Proofs.Ytojbinpicoeppaa
open Go.RowKit

theorem results_row_tmp9 {P : Program} {fn : Func} {p u : Tmp} {ty : TypeId} (h : fn.results = #[.cell p ty, .tmp u]) (tmps : Array Value) (w : World) (g : Nat) (t : TypeId) (cs : Array Value) (d : TypeDesc)
    (hp : tmps.getD p undef = .pointer (some ⟨g, 0, none⟩)) (hg : w.heap[g]? = some (.cells cs t (0, 0)))
    (hu : P.underlying ty = some d) (hd : (match d with | .struct _ | .array _ _ => true | _ => false) = true) (hi : (P.info? ty).map (·.size) = some cs.size) :
    (results fn tmps).run P w = .ok (.tuple #[.agg cs, tmps.getD u undef]) w := by
  rw [results_cell_tmp h, hp]
  simp [asAddr, run_loadVar_row w g t ty cs (0, 0) d hg hu hd hi]

theorem cut_mid9 {P : Program} (t e : TypeId) (h : P.underlying t = some (.slice e)) (hs : (P.info? e).map (·.size) = some 1) (A : Option Addr) (n c p q : Nat) (hp : p ≤ q) (hq : q ≤ c) (w : World) :
    (Instr.sliceAt t (.slice A n c) (some (.int .i64 (p : Nat))) (some (.int .i64 (q : Nat))) none).run P w = .ok (.slice (if c = p then A else A.map (·.add (p * 1))) (q - p) (c - p)) w := by
  have e1 : (sizeOf e).run P w = .ok 1 w := by
    cases hi : P.info? e with
    | none => rw [hi] at hs; cases hs
    | some i =>
      rw [hi] at hs
      simp only [Option.map_some, Option.some.injEq] at hs
      simp [sizeOf, run_typeInfo _ hi, hs]
  have h0 : (0 : Int) ≤ (p : Nat) := by omega
  have h1 : ((p : Nat) : Int) ≤ (q : Nat) := by omega
  have h2 : (0 : Int) ≤ (q : Nat) := by omega
  have h3 : ((q : Nat) : Int) ≤ (c : Nat) := by omega
  simp [Instr.sliceAt, Instr.slice, run_underlying h, Instr.sliceBounds, run_sliceBound, h0, h1, h2, h3, e1]
theorem sl_short9 {w : World} {A : Option Addr} {n c : Nat} {vs : List Value} (h : Sl w 1 A n c vs) {q : Nat} (hq : q ≤ n) : Sl w 1 A q c (vs.take q) := by
  have hl : vs.length = n := by have := h.1; omega
  refine ⟨by rw [List.length_take]; omega, fun e => ?_, fun ad ha j u hu => ?_⟩
  · have := h.2.1 e
    omega
  · have hj : j < q := by
      have := (List.getElem?_eq_some_iff.1 hu).1
      rw [List.length_take] at this
      omega
    rw [List.getElem?_take_of_lt hj] at hu
    exact h.2.2 ad ha j u hu
theorem sl_mid9 {w : World} {A : Option Addr} {n c : Nat} {vs : List Value} (h : Sl w 1 A n c vs) (hc : n ≤ c) {p q : Nat} (hp : p ≤ q) (hq : q ≤ n) : Sl w 1 (if c = p then A else A.map (·.add (p * 1))) (q - p) (c - p) ((vs.take q).drop p) :=
  (sl_short9 h hq).from_ (by omega) hp
theorem u8s_mid (l : List Nat) (p q : Nat) : ((u8s l).take q).drop p = u8s ((l.take q).drop p) := by simp [u8s, List.map_take, List.map_drop]

/-- wpList_pour, at a region that draws its order. -/
theorem step_pour9 {P : Program} {ops : Array Oper} {o : Oper} {a : Act} {w : World} {K : Act → World → Prop} {Q : Exit → Act → World → Prop} {E : Prop} (hgd : o.guard = none) (s x : Operand) (t : TypeId)
    (ho : o.op = .call { callee := .builtin .append, args := #[s, x], argTypes := #[t, t] })
    (base : Nat) (e : TypeId) (z : Value) (size bytes : Nat) (ht : P.underlying t = some (.slice e)) (hinfo : (P.info? e).map (fun i => (i.zero, i.size, i.bytes)) = some (some z, size, bytes))
    (hzs : z.cells.size = size) (hsz : 0 < size)
    (A : Option Addr) (n c : Nat) (xs : List Value) (hs : a.eval s = .slice A n c) (hown : Hid (w.ownsRow base e size (.slice A n c) n xs))
    (B : Option Addr) (m cc : Nat) (news : List Value) (hx : a.eval x = .slice B m cc) (hl : Hid (Sl w size B m cc news)) (h1 : Hid (∀ u ∈ news, u.oneCell' = true))
    (hb : Hid (n + m ≤ maxLen ∧ (n + m) * bytes ≤ 140737488355328 ∧ base ≤ w.heap.size))
    (h : ∀ A' c' w', Hid (w'.ownsRow base e size (.slice A' (n + m) c') (n + m) (xs ++ news)) → Hid (w.grownBy w' (Value.ownBlock (.slice A n c))) →
      K (a.put o.dst (.slice A' (n + m) c')) w') : if Region.wanted o (yielded ops a.tmps) = true then Oper.wp P o a w K Q else E := by
  cases B with
  | none =>
    obtain ⟨rfl, rfl⟩ := hl.out.2.1 rfl
    have e0 : news = [] := List.eq_nil_of_length_eq_zero (by simpa using hl.out.1)
    subst e0
    have hw : Region.wanted o (yielded ops a.tmps) = true := by simp [Region.wanted, hgd]
    rw [if_pos hw]
    obtain ⟨i, hi, _⟩ := info_parts hinfo
    have hr := run_append_owned_none (P := P) (w := w) base t o.type e i size ht hi (.slice A n c) n xs hown.out
    unfold Oper.wp execOp
    simp only [ho, resolve, invoke, builtin, Sem.run_bind, Sem.run_pure, Result.andThen_ok, List.map_toArray, List.map_cons, List.map_nil, hs, hx, hr]
    exact h A c w (show Hid _ by simpa using hown) (only_refl _ _)
  | some ad =>
    exact step_push hgd s x t ho base e z size bytes ht hinfo hzs hsz A n c xs hs hown ad m cc news hx hl.out.1 (hl.out.2.2 ad rfl) h1 hb h
theorem only_row (w : World) (g : Nat) (cs : Array Value) : w.grownBy (w.setRow g cs) (some g) :=
  ⟨rfl, rfl, rfl, by simp, fun k _ hk => setRow_other w g k cs (fun e => hk (by rw [e]))⟩
theorem own_past {w : World} {base : Nat} {e : TypeId} {size n c B : Nat} {A : Option Addr} {xs : List Value} (h : w.ownsRow base e size (.slice A n c) n xs) {a : Addr} (ha : A = some a) (hB : B < base) : B < a.block := by
  subst ha
  rcases h.2 with ⟨e1, _⟩ | ⟨g, cap, cur, e1, hb, _⟩
  · injection e1 with e1
    cases e1
  · injection e1 with e1
    injection e1 with e1
    subst e1
    show B < g
    omega
theorem own_cap9 {w : World} {base : Nat} {e : TypeId} {size n c : Nat} {A : Option Addr} {xs : List Value} (h : w.ownsRow base e size (.slice A n c) n xs) : n ≤ c := by
  rcases h.2 with ⟨e1, e2⟩ | ⟨g, cap, cur, e1, _, _, hc, _⟩
  · omega
  · injection e1 with _ _ e3
    omega
theorem Has.raw {w : World} {g : Nat} {t : TypeId} {cs : Array Value} (h : Has w g t cs) : w.heap[g]? = some (.cells cs t (0, 0)) := h
theorem below_dr {B : Nat} {a w : World} (h : Below B a w) : Below B a w.drew := ⟨h.os, h.tape, h.output, h.size, h.block⟩
theorem cell_beside {w : World} {a : Addr} {v : Value} {o : Obj} (h : w.cell? a = some v) : (w.alloc o).cell? a = some v := by
  rw [World.cell?_alloc_lt w o _ (cell_block h)]; exact h
theorem sl_below {w w' : World} {s : Nat} {A : Option Addr} {m c : Nat} {vs : List Value} {B : Nat} (h : Sl w s A m c vs) (hb : Below B w w') (hB : w.heap.size ≤ B) : Sl w' s A m c vs :=
  h.under ⟨hb.os, hb.tape, hb.output, hb.size, fun k hk => hb.block k (by omega)⟩
theorem sl_at8 {w : World} {A : Option Addr} {n c : Nat} {xs : List Nat} (h : Sl w 1 A n c (u8s xs)) : At8 w A xs := by
  intro hp
  cases A with
  | none =>
    have h1 := h.1
    have h2 := h.2.1 rfl
    rw [u8s_length] at h1
    omega
  | some ad => exact ⟨ad, rfl, fun j v hv => h.2.2 ad rfl j v hv⟩
end Go.Proofs.Ytojbinpicoeppaa
