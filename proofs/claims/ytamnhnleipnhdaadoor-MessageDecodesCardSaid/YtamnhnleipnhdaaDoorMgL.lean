/-
  MdPure, MdOf, MdOwn: merged.
-/
import Derived.Test.YtamnhnleipnhdaaDoorMsEnc
import Derived.Test.YtamnhnleipnhdaaDoorMgK
import Derived.Great.BuildSlice
import Derived.Test.YtamnhnleipnhdaaDoorPkGot

/-
  Decode: its loops, step by step; what a beginning of it answers.
-/
namespace Go.Proofs.YtamnhnleipnhdaaDoor

open Go.RowKit

open BitsM

theorem rv_err : ∀ (L : List Nat) (b : List Bool), (readVars L b).2.2 ≠ 0 → readVars L b = ([], [], (readVars L b).2.2)
  | [], b, h => by simp [readVars] at h
  | v :: L, b, h => by
    rw [readVars] at h ⊢
    split
    · rfl
    split
    · rfl
    split
    · rfl
    · rename_i h1 h2 h3
      rw [if_neg h1, if_neg h2, if_neg h3] at h
      exact absurd rfl h
def rvJoin (N : List Int) (T : List Int × List Bool × Int) : List Int × List Bool × Int := if T.2.2 ≠ 0 then ([], [], T.2.2) else (N ++ T.1, T.2.1, 0)
theorem rv_start (L : List Nat) (b : List Bool) : readVars L b = rvJoin [] (readVars L b) := by
  unfold rvJoin
  split
  · exact rv_err L b (by assumption)
  · rename_i h
    have h : (readVars L b).2.2 = 0 := by omega
    rw [List.nil_append, ← h]
theorem rv_end (N : List Int) (b : List Bool) : rvJoin N (readVars [] b) = (N, b, 0) := by simp [rvJoin, readVars]
theorem rv_short {v : Nat} {L : List Nat} {b : List Bool} (N : List Int) (h : b.length < widthOf v) : rvJoin N (readVars (v :: L) b) = ([], [], 10) := by
  unfold rvJoin
  rw [readVars, if_pos h]
  rfl
theorem rv_bad {v : Nat} {L : List Nat} {b : List Bool} (N : List Int) (h : ¬ b.length < widthOf v) (hm : mayOf v (num (b.take (widthOf v)) : Nat) = false) : rvJoin N (readVars (v :: L) b) = ([], [], 20) := by
  unfold rvJoin
  rw [readVars, if_neg h, if_pos hm]
  rfl
theorem rv_step {v : Nat} {L : List Nat} {b : List Bool} (N : List Int) (h : ¬ b.length < widthOf v) (hm : mayOf v (num (b.take (widthOf v)) : Nat) = true) : rvJoin N (readVars (v :: L) b) = rvJoin (N ++ [((num (b.take (widthOf v)) : Nat) : Int)]) (readVars L (b.drop (widthOf v))) := by
  unfold rvJoin
  have hm2 : ¬ mayOf v (num (b.take (widthOf v)) : Nat) = false := by rw [hm]; decide
  rw [readVars, if_neg h, if_neg hm2]
  by_cases h2 : (readVars L (b.drop (widthOf v))).2.2 ≠ 0
  · rw [if_pos h2, if_pos h2, if_pos h2]
  · rw [if_neg h2, if_neg h2, if_neg (by simp)]
    simp
theorem rv_len : ∀ (L : List Nat) (b : List Bool), (readVars L b).2.1.length ≤ b.length
  | [], b => by simp [readVars]
  | v :: L, b => by
    have ih := rv_len L (b.drop (widthOf v))
    rw [readVars]
    repeat' split
    all_goals simp at ih ⊢
    all_goals omega

def pgJoin (P : List (Int × List Int)) (T : List (Int × List Int) × Int × Int) : List (Int × List Int) × Int × Int := if T.2.2 ≠ 0 then ([], 0, T.2.2) else (P ++ T.1, T.2.1, 0)
theorem pg_start (all : List Bool) : ∀ (k : Nat) (a : Int), packsG all k a = pgJoin [] (packsG all k a)
  | 0, a => by simp [packsG, pgJoin]
  | k + 1, a => by
    unfold pgJoin
    rw [packsG]
    by_cases h1 : (all.length : Int) - a < 8
    · rw [if_pos h1, if_neg (by simp)]; rfl
    rw [if_neg h1]
    by_cases h2 : (getF all a).2.2 ≠ 0
    · rw [if_pos h2, if_pos h2]
    rw [if_neg h2]
    by_cases h3 : (packsG all k (getF all a).2.1).2.2 ≠ 0
    · rw [if_pos h3, if_pos h3]
    · rw [if_neg h3, if_neg (by simp)]; rfl
theorem pg_end {all : List Bool} {a : Int} (P : List (Int × List Int)) (k : Nat) (h : (all.length : Int) - a < 8) : pgJoin P (packsG all (k + 1) a) = (P, a, 0) := by
  unfold pgJoin
  rw [packsG, if_pos h, if_neg (by simp)]
  simp
theorem pg_bad {all : List Bool} {a : Int} (P : List (Int × List Int)) (k : Nat) (h : ¬ (all.length : Int) - a < 8) (he : (getF all a).2.2 ≠ 0) : pgJoin P (packsG all (k + 1) a) = ([], 0, (getF all a).2.2) := by
  unfold pgJoin
  rw [packsG, if_neg h, if_pos he, if_pos he]
theorem pg_step {all : List Bool} {a : Int} (P : List (Int × List Int)) (k : Nat) (h : ¬ (all.length : Int) - a < 8) (he : ¬ (getF all a).2.2 ≠ 0) : pgJoin P (packsG all (k + 1) a) = pgJoin (P ++ [(getF all a).1]) (packsG all k (getF all a).2.1) := by
  unfold pgJoin
  rw [packsG, if_neg h, if_neg he]
  by_cases h3 : (packsG all k (getF all a).2.1).2.2 ≠ 0
  · rw [if_pos h3, if_pos h3, if_pos h3]
  · rw [if_neg h3, if_neg h3, if_neg (by simp)]
    simp
theorem get_step {bits : List Bool} {a : Int} (h : (getF bits a).2.2 = 0) : 0 ≤ a ∧ a + 21 ≤ (getF bits a).2.1 ∧ (getF bits a).2.1 ≤ bits.length ∧ (getF bits a).1.2.length ≤ 8184 := by
  obtain ⟨⟨⟨id, V⟩, e, f⟩, hG⟩ : ∃ G, getF bits a = G := ⟨_, rfl⟩
  rw [hG] at h ⊢
  simp only at h ⊢
  subst h
  obtain ⟨O, R, hi, h0, h1, h2, h3, h4⟩ := get_only hG
  have hb := items_big hi
  obtain ⟨_, D1, D2, _, hV, hO, _⟩ := items_ok hi
  have hl := items_len2 id V
  rw [hi] at hl
  have hlen := congrArg List.length h3
  rw [List.length_drop, List.length_append] at hlen
  have hVl := congrArg List.length hV
  have hOl := congrArg List.length hO
  simp only [List.length_map, List.length_append, List.length_cons, List.length_nil] at hVl hOl
  refine ⟨h0, by omega, by omega, ?_⟩
  simp only at hl
  omega

/-- The number, the variables, the bits left, the error, of a message's beginning. -/
def startF (xs : List Nat) : Int × List Int × List Bool × Int :=
  if (bitsOf xs).length < 8 then (0, [], [], 10) else
  if mknown (num ((bitsOf xs).take 8) : Nat) = false then (0, [], [], 4) else
  if ((bitsOf xs).drop 8).length < 10 then (0, [], [], 10) else
  if num (((bitsOf xs).drop 8).take 10) ≠ xs.length then (0, [], [], 8) else
  if (readVars (mvars (num ((bitsOf xs).take 8) : Nat)) ((bitsOf xs).drop 18)).2.2 ≠ 0 then (0, [], [], (readVars (mvars (num ((bitsOf xs).take 8) : Nat)) ((bitsOf xs).drop 18)).2.2) else
  ((num ((bitsOf xs).take 8) : Nat), (readVars (mvars (num ((bitsOf xs).take 8) : Nat)) ((bitsOf xs).drop 18)).1, (readVars (mvars (num ((bitsOf xs).take 8) : Nat)) ((bitsOf xs).drop 18)).2.1, 0)
/-- The packets from a place on. -/
def packsE (S : List Bool) (a : Int) : List (Int × List Int) × Int :=
  if (packsG S (S.length + 1) a).2.2 ≠ 0 then ([], (packsG S (S.length + 1) a).2.2) else
  if (S.drop (packsG S (S.length + 1) a).2.1.toNat).any (fun b => b) = true then ([], 8) else
  ((packsG S (S.length + 1) a).1, 0)
theorem dec_bad {xs : List Nat} (h : (startF xs).2.2.2 ≠ 0) : decF xs = (mzero, (startF xs).2.2.2) := by
  unfold startF at h ⊢
  unfold decF
  by_cases h1 : (bitsOf xs).length < 8
  · rw [if_pos h1, if_pos h1]
  rw [if_neg h1] at h ⊢
  rw [if_neg h1]
  by_cases h2 : mknown (num ((bitsOf xs).take 8) : Nat) = false
  · rw [if_pos h2, if_pos h2]
  rw [if_neg h2] at h ⊢
  rw [if_neg h2]
  by_cases h3 : ((bitsOf xs).drop 8).length < 10
  · rw [if_pos h3, if_pos h3]
  rw [if_neg h3] at h ⊢
  rw [if_neg h3]
  by_cases h4 : num (((bitsOf xs).drop 8).take 10) ≠ xs.length
  · rw [if_pos h4, if_pos h4]
  rw [if_neg h4] at h ⊢
  rw [if_neg h4]
  by_cases h5 : (readVars (mvars (num ((bitsOf xs).take 8) : Nat)) ((bitsOf xs).drop 18)).2.2 ≠ 0
  · rw [if_pos h5, if_pos h5]
  rw [if_neg h5] at h
  exact absurd rfl h
theorem dec_good {xs : List Nat} {id : Int} {N : List Int} {R : List Bool} (h : startF xs = (id, N, R, 0)) :
    mknown id = true ∧ (mvars id).length = N.length ∧ R.length ≤ 8 * xs.length ∧ 0 < xs.length ∧
    decF xs = if (packsE (bitsOf xs) ((bitsOf xs).length - R.length)).2 ≠ 0 then (mzero, (packsE (bitsOf xs) ((bitsOf xs).length - R.length)).2) else
      if fitsF id ((packsE (bitsOf xs) ((bitsOf xs).length - R.length)).1.map Prod.fst) = false then (mzero, 50) else (mkMsg id N (packsE (bitsOf xs) ((bitsOf xs).length - R.length)).1, 0) := by
  unfold startF at h
  by_cases h1 : (bitsOf xs).length < 8
  · rw [if_pos h1] at h; simp at h
  rw [if_neg h1] at h
  by_cases h2 : mknown (num ((bitsOf xs).take 8) : Nat) = false
  · rw [if_pos h2] at h; simp at h
  rw [if_neg h2] at h
  by_cases h3 : ((bitsOf xs).drop 8).length < 10
  · rw [if_pos h3] at h; simp at h
  rw [if_neg h3] at h
  by_cases h4 : num (((bitsOf xs).drop 8).take 10) ≠ xs.length
  · rw [if_pos h4] at h; simp at h
  rw [if_neg h4] at h
  by_cases h5 : (readVars (mvars (num ((bitsOf xs).take 8) : Nat)) ((bitsOf xs).drop 18)).2.2 ≠ 0
  · rw [if_pos h5] at h; simp only [Prod.mk.injEq] at h; exact absurd h.2.2.2 h5
  rw [if_neg h5] at h
  simp only [Prod.mk.injEq, and_true] at h
  obtain ⟨e1, e2, e3⟩ := h
  have hr := read_only (mvars (num ((bitsOf xs).take 8) : Nat)) ((bitsOf xs).drop 18) _ _ (show _ = (_, _, 0) by
    have h6 : (readVars (mvars (num ((bitsOf xs).take 8) : Nat)) ((bitsOf xs).drop 18)).2.2 = 0 := by omega
    rw [← h6])
  have hll := rv_len (mvars (num ((bitsOf xs).take 8) : Nat)) ((bitsOf xs).drop 18)
  rw [e3, List.length_drop, bitsOf_length] at hll
  rw [bitsOf_length] at h1
  refine ⟨by rw [← e1]; simpa using h2, by rw [← e1, ← e2]; exact hr.1, by omega, by omega, ?_⟩
  unfold decF packsE
  rw [if_neg (by rw [bitsOf_length]; exact h1), if_neg h2, if_neg h3, if_neg h4, if_neg h5, e2, e3, e1]
  by_cases h6 : (packsG (bitsOf xs) ((bitsOf xs).length + 1) ((bitsOf xs).length - R.length)).2.2 ≠ 0
  · rw [if_pos h6, if_pos h6, if_pos h6]
  rw [if_neg h6, if_neg h6]
  by_cases h7 : ((bitsOf xs).drop (packsG (bitsOf xs) ((bitsOf xs).length + 1) ((bitsOf xs).length - R.length)).2.1.toNat).any (fun b => b) = true
  · rw [if_pos h7, if_pos h7, if_pos (by decide)]
  rw [if_neg h7, if_neg h7]
  simp only [ne_eq, not_true_eq_false, if_false]
end Go.Proofs.YtamnhnleipnhdaaDoor

/-
  message.messageOf; what several results are read from.
-/
namespace Go.Proofs.YtamnhnleipnhdaaDoor

open Go.RowKit

open BitsM

open Go.Great

theorem has_setRow {w : World} {g : Nat} {t : TypeId} {old : Array Value} (h : Has w g t old) (cs : Array Value) : Has (w.setRow g cs) g t cs := by
  unfold Has at h ⊢
  simp [World.setRow, Array.getElem?_modify, h]
theorem has_setRow_other {w : World} {g k : Nat} {t : TypeId} {old : Array Value} (h : Has w k t old) (hne : k ≠ g) (cs : Array Value) : Has (w.setRow g cs) k t old := by
  unfold Has at h ⊢
  rw [setRow_other w g k cs hne]; exact h
theorem grown_setRow (w : World) (g : Nat) (cs : Array Value) : w.grownBy (w.setRow g cs) (some g) :=
  ⟨rfl, rfl, rfl, by simp, fun k _ hk => setRow_other w g k cs (fun e => hk (by rw [e]))⟩
theorem results_cell2_tmp {P : Program} {fn : Func} {p q u : Tmp} {ty ty2 : TypeId} (h : fn.results = #[.cell p ty, .cell q ty2, .tmp u]) (tmps : Array Value) (w : World) (g g2 : Nat) (t t2 : TypeId) (cs cs2 : Array Value) (d d2 : TypeDesc)
    (hp : tmps.getD p undef = .pointer (some ⟨g, 0, none⟩)) (hg : Has w g t cs)
    (hu : P.underlying ty = some d) (hd : (match d with | .struct _ | .array _ _ => true | _ => false) = true) (hi : (P.info? ty).map (·.size) = some cs.size)
    (hp2 : tmps.getD q undef = .pointer (some ⟨g2, 0, none⟩)) (hg2 : Has w g2 t2 cs2)
    (hu2 : P.underlying ty2 = some d2) (hd2 : (match d2 with | .struct _ | .array _ _ => true | _ => false) = true) (hi2 : (P.info? ty2).map (·.size) = some cs2.size) :
    (results fn tmps).run P w = .ok (.tuple #[.agg cs, .agg cs2, tmps.getD u undef]) w := by
  have e : (results fn tmps).run P w = ((asAddr (tmps.getD p undef)).run P w).andThen fun a w₁ => ((loadVar ty a).run P w₁).andThen fun x w₂ => ((asAddr (tmps.getD q undef)).run P w₂).andThen fun b w₃ => ((loadVar ty2 b).run P w₃).andThen fun y w₄ => .ok (.tuple #[x, y, tmps.getD u undef]) w₄ := by
    simp only [results, h]
    simp [Sem.run_bind, Result.andThen]
  rw [e, hp, hp2]
  simp [asAddr, run_loadVar_row w g t ty cs (0, 0) d hg hu hd hi, run_loadVar_row w g2 t2 ty2 cs2 (0, 0) d2 hg2 hu2 hd2 hi2]
theorem info_int1 : (Tryd.prog.info? 3).map (·.size) = some 1 := by kernel_rfl
theorem sli_from {base : Nat} {w : World} {A : Option Addr} {n c p : Nat} {V : List Int} (h : SlI base w A n c V) (hp : p ≤ n) : SlI base w (if c = p then A else A.map (·.add (p * 1))) (n - p) (c - p) (V.drop p) := by
  refine ⟨by rw [List.length_drop, h.len], by have := h.cap; omega, ?_, fun hc a ha => ?_⟩
  · have h2 := h.sl.from_ h.cap hp
    rw [show ints (V.drop p) = (ints V).drop p from by simp [ints]]
    exact h2
  · obtain ⟨a', ha', hb⟩ := from_block a ha
    rw [hb]
    exact h.low (by omega) a' ha'

set_option maxRecDepth 100000 in
set_option maxHeartbeats 8000000 in
theorem omg_of (id : Int) (_hk : mknown id = true) (A : Option Addr) (n c : Nat) (N : List Int) (w : World) (hN : SlI w.heap.size w A n c N) (hl : (mvars id).length = N.length) :
    Calls Tryd.prog 72 #[.int .i64 id, .slice A n c] w fun e w' => ∃ t a o A' n' c' V, e = .returned (msgV id t a o A' n' c' none 0 0) ∧ (∀ P, (⟨id, t, a, o, V, P⟩ : Msg) = mkMsg id N P) ∧ SlI w'.heap.size w' A' n' c' V ∧ Below w.heap.size w w' ∧ ∀ a', A' = some a' → ∃ a, A = some a ∧ a'.block = a.block := by
  have hnl : N.length = n := hN.len
  have hb : Below w.heap.size w (w.alloc (.cells #[.int .i64 0, .int .i64 0, .int .i64 0, .int .i64 0, .slice none 0 0, .slice none 0 0] 25)) := (Below.refl _ _).alloc (Nat.le_refl _) _
  obtain ⟨w0, hw0⟩ : ∃ w0, w.alloc (.cells #[.int .i64 0, .int .i64 0, .int .i64 0, .int .i64 0, .slice none 0 0, .slice none 0 0] 25) = w0 := ⟨_, rfl⟩
  rw [hw0] at hb
  have hz : Has w0 w.heap.size 25 #[.int .i64 0, .int .i64 0, .int .i64 0, .int .i64 0, .slice none 0 0, .slice none 0 0] := by rw [← hw0]; exact Has.made _ _ _
  have HZ := Lib.hid hz; have HB := Lib.hid hb; have HN := Lib.hid hN; have HNL := Lib.hid hnl
  have HU := Lib.hid (omg_up id w0)
  have hle : 2 ≤ (mvars id).length ∧ (mup id = false → 3 ≤ (mvars id).length) := by
    unfold mvars baseV
    cases mup id <;> simp
  rw [hl, hnl] at hle
  have hmk : ∀ P, mkMsg id N P = if mup id = true then ⟨id, N.getD 0 0, 0, N.getD 1 0, N.drop 2, P⟩ else ⟨id, N.getD 0 0, N.getD 1 0, N.getD 2 0, N.drop 3, P⟩ := fun P => rfl
  have HMK := Lib.hid hmk
  generalize mup id = u at *
  clear hz hb hN hl hmk
  unfold msgV msgCells
  go_enter Tryd.func72, Tryd.ntmps72
  go_wp2_with fail
  clear hw0
  refine HU.out.mono ?_
  rintro e w1 ⟨rfl, hb1⟩
  have hz1 := HZ.out.under hb1 HZ.out.lt
  have hbw := HB.out.trans (hb1.mono HB.out.size)
  have hN1 := sliUnder HN.out hbw
  have hat : ∀ j, j < n → ∃ b o, A = some ⟨b, o, none⟩ ∧ w1.cell? ⟨b, o + j, none⟩ = some (.int .i64 (N.getD j 0)) := fun j hj => (sln_of hN1).at_ hj
  have HZ1 := Lib.hid hz1; have HBW := Lib.hid hbw; have HN1 := Lib.hid hN1
  clear hz1 hbw hN1 hb1 HU
  cases u
  · have hn3 := hle.2 rfl
    obtain ⟨b, o, rfl, c0⟩ := hat 0 (by omega)
    obtain ⟨b1, o1, hA1, c1⟩ := hat 1 (by omega)
    obtain ⟨b2, o2, hA2, c2⟩ := hat 2 (by omega)
    simp only [Option.some.injEq, Addr.mk.injEq, and_true] at hA1 hA2
    obtain ⟨rfl, rfl⟩ := hA1
    obtain ⟨rfl, rfl⟩ := hA2
    rw [Nat.add_zero] at c0
    have hCU := fun W => cut_from (P := Tryd.prog) 22 3 Tryd.underlying22 (by kernel_rfl) info_int1 (some ⟨b, o, none⟩) n c 3 (by omega) W
    have hsl := sli_from HN.out (p := 3) (by omega)
    obtain ⟨X, hX⟩ : ∃ X, (if c = 3 then (some ⟨b, o, none⟩ : Option Addr) else (some ⟨b, o, none⟩ : Option Addr).map (·.add (3 * 1))) = X := ⟨_, rfl⟩
    have hXB : ∀ a', X = some a' → ∃ a, some (⟨b, o, none⟩ : Addr) = some a ∧ a'.block = a.block := fun a' h => from_block a' (hX.trans h)
    have HXB := Lib.hid hXB
    clear hXB
    rw [hX] at hsl
    simp only [hX] at hCU
    have hCU1 : ∀ W, (Instr.sliceAt 22 (.slice (some ⟨b, o, none⟩) n c) (some (.int .i64 3)) none none).run Tryd.prog W = .ok (.slice X (n - 3) (c - 3)) W := fun W => hCU W
    have HSL := Lib.hid hsl
    have x0 : (0 : Int) < n := by omega
    have x1 : (1 : Int) < n := by omega
    have x2 : (2 : Int) < n := by omega
    have z0 : 0 < n := by omega
    have z1 : 1 < n := by omega
    have z2 : 2 < n := by omega
    have HM2 : Hid (∀ P, mkMsg id N P = ⟨id, N.getD 0 0, N.getD 1 0, N.getD 2 0, N.drop 3, P⟩) := Lib.hid (fun P => by rw [HMK.out]; rfl)
    generalize N.getD 0 0 = y0 at *
    generalize N.getD 1 0 = y1 at *
    generalize N.getD 2 0 = y2 at *
    have HS1 := Lib.hid (show w.heap.size < w1.heap.size from HZ1.out.lt)
    have HZD := Lib.hid HZ1.out.draw
    have HZE : Hid (w1.drew.heap[w.heap.size]? = some (.cells #[.int .i64 0, .int .i64 0, .int .i64 0, .int .i64 0, .slice none 0 0, .slice none 0 0] 25 (0, 0))) := Lib.hid HZ1.out.draw
    clear hCU hsl hX hle hat HMK
    go_wp2_with fail
    go_still_tail 13, (by kernel_rfl)
    change wpList _ _ _ _ _ w1.drew
    go_wp2_with (with_reducible refine wpList_store_rowTo (o := ⟨none, _, _, _, _, _⟩) rfl 25 _ _ rfl rfl w.heap.size #[.int .i64 id, .int .i64 y0, .int .i64 y1, .int .i64 y2, .slice X (n - 3) (c - 3), .slice none 0 0] rfl rfl 25 _ HZE.out (by kernel_rfl) (by kernel_rfl) (by kernel_rfl) ?_)
    refine bodyPost_ret (results_cell_row rfl _ _ w.heap.size 25 _ _ _ rfl (has_setRow HZD.out _) Tryd.underlying25 rfl (by kernel_rfl)) rfl ?_
    have hbf : Below w.heap.size w (w1.drew.setRow w.heap.size #[.int .i64 id, .int .i64 y0, .int .i64 y1, .int .i64 y2, .slice X (n - 3) (c - 3), .slice none 0 0]) := below_row (below_draws HBW.out 1) (Nat.le_refl _) _
    exact ⟨y0, y1, y2, X, n - 3, c - 3, N.drop 3, rfl, fun P => (HM2.out P).symm, sliUnder HSL.out hbf, hbf, HXB.out⟩
  · have hn3 := hle.1
    obtain ⟨b, o, rfl, c0⟩ := hat 0 (by omega)
    obtain ⟨b1, o1, hA1, c1⟩ := hat 1 (by omega)
    simp only [Option.some.injEq, Addr.mk.injEq, and_true] at hA1
    obtain ⟨rfl, rfl⟩ := hA1
    rw [Nat.add_zero] at c0
    have hCU := fun W => cut_from (P := Tryd.prog) 22 3 Tryd.underlying22 (by kernel_rfl) info_int1 (some ⟨b, o, none⟩) n c 2 (by omega) W
    have hsl := sli_from HN.out (p := 2) (by omega)
    obtain ⟨X, hX⟩ : ∃ X, (if c = 2 then (some ⟨b, o, none⟩ : Option Addr) else (some ⟨b, o, none⟩ : Option Addr).map (·.add (2 * 1))) = X := ⟨_, rfl⟩
    have hXB : ∀ a', X = some a' → ∃ a, some (⟨b, o, none⟩ : Addr) = some a ∧ a'.block = a.block := fun a' h => from_block a' (hX.trans h)
    have HXB := Lib.hid hXB
    clear hXB
    rw [hX] at hsl
    simp only [hX] at hCU
    have hCU1 : ∀ W, (Instr.sliceAt 22 (.slice (some ⟨b, o, none⟩) n c) (some (.int .i64 2)) none none).run Tryd.prog W = .ok (.slice X (n - 2) (c - 2)) W := fun W => hCU W
    have HSL := Lib.hid hsl
    have x0 : (0 : Int) < n := by omega
    have x1 : (1 : Int) < n := by omega
    have z0 : 0 < n := by omega
    have z1 : 1 < n := by omega
    have HM2 : Hid (∀ P, mkMsg id N P = ⟨id, N.getD 0 0, 0, N.getD 1 0, N.drop 2, P⟩) := Lib.hid (fun P => by rw [HMK.out]; rfl)
    generalize N.getD 0 0 = y0 at *
    generalize N.getD 1 0 = y1 at *
    have HS1 := Lib.hid (show w.heap.size < w1.heap.size from HZ1.out.lt)
    have HZD := Lib.hid HZ1.out.draw
    have HZE : Hid (w1.drew.heap[w.heap.size]? = some (.cells #[.int .i64 0, .int .i64 0, .int .i64 0, .int .i64 0, .slice none 0 0, .slice none 0 0] 25 (0, 0))) := Lib.hid HZ1.out.draw
    clear hCU hsl hX hle hat HMK
    go_wp2_with fail
    go_still_tail 10, (by kernel_rfl)
    change wpList _ _ _ _ _ w1.drew
    go_wp2_with (with_reducible refine wpList_store_rowTo (o := ⟨none, _, _, _, _, _⟩) rfl 25 _ _ rfl rfl w.heap.size #[.int .i64 id, .int .i64 y0, .int .i64 0, .int .i64 y1, .slice X (n - 2) (c - 2), .slice none 0 0] rfl rfl 25 _ HZE.out (by kernel_rfl) (by kernel_rfl) (by kernel_rfl) ?_)
    refine bodyPost_ret (results_cell_row rfl _ _ w.heap.size 25 _ _ _ rfl (has_setRow HZD.out _) Tryd.underlying25 rfl (by kernel_rfl)) rfl ?_
    have hbf : Below w.heap.size w (w1.drew.setRow w.heap.size #[.int .i64 id, .int .i64 y0, .int .i64 0, .int .i64 y1, .slice X (n - 2) (c - 2), .slice none 0 0]) := below_row (below_draws HBW.out 1) (Nat.le_refl _) _
    exact ⟨y0, 0, y1, X, n - 2, c - 2, N.drop 2, rfl, fun P => (HM2.out P).symm, sliUnder HSL.out hbf, hbf, HXB.out⟩
end Go.Proofs.YtamnhnleipnhdaaDoor

/-
  An own slice of packets; the bits that fill the last byte.
-/
namespace Go.Proofs.YtamnhnleipnhdaaDoor

open Go.RowKit

open BitsM

theorem SlI.grow {w w' : World} {A : Option Addr} {n c : Nat} {V : List Int} {row : Option Nat} (h : SlI w.heap.size w A n c V) (hg : w.grownBy w' row) (hne : 0 < c → ∀ a, A = some a → some a.block ≠ row) : SlI w'.heap.size w' A n c V := by
  refine ⟨h.len, h.cap, h.sl.grow hg (fun a ha hv => ?_), fun hc a ha => Nat.lt_of_lt_of_le (h.low hc a ha) hg.size⟩
  refine hne ?_ a ha
  have h1 := h.len
  have h2 := h.cap
  have : V ≠ [] := fun e => hv (by rw [e]; rfl)
  have := List.length_pos_iff.2 this
  omega

/-- A call's own slice of packets; what they hold lies from lo on, apart from it. -/
structure OwP (base lo : Nat) (w : World) (A : Option Addr) (m c : Nat) (l : List PkE) : Prop where
  own : w.ownsRow base 39 2 (.slice A m c) m (pkCells l)
  len : l.length = m
  each : ∀ p ∈ l, SlI w.heap.size w p.A p.n p.c p.V ∧ p.n ≤ 8184 ∧ (0 < p.c → ∀ a, p.A = some a → lo ≤ a.block ∧ some a.block ≠ Value.ownBlock (.slice A m c))
theorem OwP.nil (base lo : Nat) (w : World) : OwP base lo w none 0 0 [] := ⟨World.ownsRow_nil _ _ _ _, rfl, fun p hp => by cases hp⟩
section

variable {base lo : Nat} {w w' : World} {A : Option Addr} {m c : Nat} {l : List PkE}
theorem OwP.under (h : OwP base lo w A m c l) (hb : Below w.heap.size w w') : OwP base lo w' A m c l :=
  ⟨own_under h.own hb (Nat.le_refl _), h.len, fun p hp => ⟨sliUnder (h.each p hp).1 hb, (h.each p hp).2⟩⟩
theorem OwP.slk (h : OwP base lo w A m c l) : SlK w A m c l := ⟨h.len, own_cap6 h.own, Sl.of_own h.own, fun p hp => (h.each p hp).1⟩
/-- What turns another block leaves it. -/
theorem OwP.apart {g : Nat} {t : TypeId} {cs : Array Value} (h : OwP base lo w A m c l) (hh : Has w g t cs) (ht : 39 ≠ t) (hgl : g < lo) (hg : w.grownBy w' (some g)) : OwP base lo w' A m c l :=
  ⟨own_keep h.own hg (own_apart h.own hh ht), h.len, fun p hp => ⟨(h.each p hp).1.grow hg (fun hc a ha e => by have := ((h.each p hp).2.2 hc a ha).1; injection e with e; omega), (h.each p hp).2⟩⟩
/-- One more. -/
theorem OwP.push {A' : Option Addr} {c' : Nat} {x : PkE} (h : OwP base lo w A m c l) (hx : SlI w.heap.size w x.A x.n x.c x.V) (hn : x.n ≤ 8184) (hxl : 0 < x.c → ∀ a, x.A = some a → lo ≤ a.block ∧ some a.block ≠ Value.ownBlock (.slice A m c))
    (ho : w'.ownsRow base 39 2 (.slice A' (m + 1) c') (m + 1) (pkCells l ++ [.int .i64 x.id, .slice x.A x.n x.c])) (hg : w.grownBy w' (Value.ownBlock (.slice A m c)))
    (hl : Value.ownBlock (.slice A' (m + 1) c') = Value.ownBlock (.slice A m c) ∨ Value.ownBlock (.slice A' (m + 1) c') = some w.heap.size) : OwP base lo w' A' (m + 1) c' (l ++ [x]) := by
  have key : ∀ p : PkE, SlI w.heap.size w p.A p.n p.c p.V → (0 < p.c → ∀ a, p.A = some a → lo ≤ a.block ∧ some a.block ≠ Value.ownBlock (.slice A m c)) → SlI w'.heap.size w' p.A p.n p.c p.V ∧ (0 < p.c → ∀ a, p.A = some a → lo ≤ a.block ∧ some a.block ≠ Value.ownBlock (.slice A' (m + 1) c')) := by
    intro p hp hpl
    refine ⟨hp.grow hg (fun hc a ha => (hpl hc a ha).2), fun hc a ha => ⟨(hpl hc a ha).1, ?_⟩⟩
    rcases hl with e | e
    · rw [e]; exact (hpl hc a ha).2
    · rw [e]
      intro e2
      injection e2 with e2
      have := hp.low hc a ha
      omega
  refine ⟨by simpa [pkCells] using ho, by simp [h.len], fun p hp => ?_⟩
  rcases List.mem_append.1 hp with hp | hp
  · obtain ⟨h1, h2, h3⟩ := h.each p hp
    obtain ⟨k1, k2⟩ := key p h1 h3
    exact ⟨k1, h2, k2⟩
  · rw [List.mem_singleton] at hp
    subst hp
    obtain ⟨k1, k2⟩ := key p hx hxl
    exact ⟨k1, hn, k2⟩
end
theorem info_pkt : (Tryd.prog.info? 39).map (fun i => (i.zero, i.size, i.bytes)) = some (some (.agg #[.int .i64 0, .slice none 0 0]), 2, 32) := by kernel_rfl

/-- The bits that fill the last byte. -/
theorem fill_bits (xs : List Nat) (f : Nat) (hf : f ≤ 8) (hx : 0 < xs.length) : ((bitsOf xs).drop (8 * xs.length - f)).any (fun b => b) = decide ((xs.getD (xs.length - 1) 0) % 2 ^ f ≠ 0) := by
  obtain ⟨v, hv⟩ : ∃ v, xs.getD (xs.length - 1) 0 = v := ⟨_, rfl⟩
  rw [hv]
  have e : (bitsOf xs).drop (8 * xs.length - f) = (List.range f).map fun i => v.testBit (f - 1 - i) := by
    unfold bitsOf
    rw [bitsFrom_drop xs 0 _ _ (by omega), show 8 * xs.length - (8 * xs.length - f) = f by omega, Nat.zero_add]
    unfold bitsFrom
    apply List.map_congr_left
    intro i hi
    rw [List.mem_range] at hi
    rw [show 8 * xs.length - f + i = 8 * (xs.length - 1) + (8 - f + i) by omega, bitAt_byte _ _ _ (by omega), hv]
    congr 1
    omega
  rw [e, Bool.eq_iff_iff, List.any_eq_true, decide_eq_true_eq]
  constructor
  · rintro ⟨b, hb, hb2⟩
    rw [List.mem_map] at hb
    obtain ⟨i, hi, rfl⟩ := hb
    rw [List.mem_range] at hi
    intro h0
    have h1 := Nat.testBit_mod_two_pow v f (f - 1 - i)
    rw [h0, Nat.zero_testBit, decide_eq_true (by omega), Bool.true_and] at h1
    rw [← h1] at hb2
    cases hb2
  · intro h0
    obtain ⟨i, hi⟩ : ∃ i, (v % 2 ^ f).testBit i = true := Nat.exists_testBit_of_ne_zero h0
    rw [Nat.testBit_mod_two_pow, Bool.and_eq_true, decide_eq_true_eq] at hi
    exact ⟨true, List.mem_map.2 ⟨f - 1 - i, List.mem_range.2 (by omega), by rw [show f - 1 - (f - 1 - i) = i by omega]; exact hi.2⟩, rfl⟩
end Go.Proofs.YtamnhnleipnhdaaDoor
