/-
  linesideref07.Rounds, by contract.
-/
import Derived.Test.YtekcnmimfhiblaaCiRot
import Derived.Test.YtekcnmimfhiblaaArrEq
import Derived.Test.YtekcnmimfhiblaaMgB
import Derived.Deep.RegionHeld3
import Derived.Deep.CutBlock
import Derived.Great.BuildSlice
import Derived.Laws.ResultCell
import Derived.Laws.Rows
namespace Go.Proofs.Ytekcnmimfhiblaa
open Go.RowKit
open Go.Great

def keyA (k : Key4) : Array Value := #[.int .u32 (k.a : Nat), .int .u32 (k.b : Nat), .int .u32 (k.c : Nat), .int .u32 (k.d : Nat)]
def keyV (k : Key4) : Value := .agg (keyA k)
def roundA (k : Key4) : Array Value := wordsA .u32 (roundsF k)
theorem round_size (k : Key4) : (roundA k).size = 27 := by simp [roundA, wordsA, rounds_len]
theorem info_u32 : (Try.prog.info? 22).map (fun i => (i.zero, i.size, i.bytes)) = some (some (.int .u32 0), 1, 4) := by kernel_rfl
def w32 (l : List Nat) : List Value := l.map fun (n : Nat) => Value.int .u32 (n : Int)
theorem w32_one (l : List Nat) : ∀ v ∈ w32 l, v.oneCell' = true := by
  intro v hv
  obtain ⟨n, _, rfl⟩ := List.mem_map.1 hv
  rfl
def ksL (k : Key4) (i : Nat) : List Nat := (List.range i).map (keyAt k)
def lsL (k : Key4) (i : Nat) : List Nat := (List.range i).map (lAt k)
theorem ks_succ (k : Key4) (i : Nat) : w32 (ksL k (i + 1)) = w32 (ksL k i) ++ [.int .u32 (keyAt k i : Nat)] := by simp [ksL, w32, List.range_succ]
theorem ls_succ (k : Key4) (i : Nat) : w32 (lsL k (i + 1)) = w32 (lsL k i) ++ [.int .u32 (lAt k i : Nat)] := by simp [lsL, w32, List.range_succ]
theorem ks_at (k : Key4) {i m : Nat} (h : i < m) : (w32 (ksL k m))[i]? = some (.int .u32 (keyAt k i : Nat)) := by simp [ksL, w32, h]
theorem ls_at (k : Key4) {i m : Nat} (h : i < m) : (w32 (lsL k m))[i]? = some (.int .u32 (lAt k i : Nat)) := by simp [lsL, w32, h]

/-- wpList_push that says where the new row lies, at a region that draws its order. -/
theorem step_push2 {P : Program} {ops : Array Oper} {o : Oper} {a : Act} {w : World} {K : Act → World → Prop} {Q : Exit → Act → World → Prop} {E : Prop} (hgd : o.guard = none) (s x : Operand) (t : TypeId)
    (ho : o.op = .call { callee := .builtin .append, args := #[s, x], argTypes := #[t, t] })
    (base : Nat) (e : TypeId) (z : Value) (size bytes : Nat) (ht : P.underlying t = some (.slice e)) (hinfo : (P.info? e).map (fun i => (i.zero, i.size, i.bytes)) = some (some z, size, bytes))
    (hzs : z.cells.size = size) (hsz : 0 < size)
    (A : Option Addr) (n c : Nat) (xs : List Value) (hs : a.eval s = .slice A n c) (hown : Hid (w.ownsRow base e size (.slice A n c) n xs))
    (ad : Addr) (m cc : Nat) (news : List Value) (hx : a.eval x = .slice (some ad) m cc) (hl : Hid (news.length = m * size)) (hnews : Hid (∀ j u, news[j]? = some u → w.cell? (ad.add j) = some u)) (h1 : Hid (∀ u ∈ news, u.oneCell' = true))
    (hb : Hid (n + m ≤ maxLen ∧ (n + m) * bytes ≤ 140737488355328 ∧ base ≤ w.heap.size))
    (h : ∀ A' c' w', Hid (w'.ownsRow base e size (.slice A' (n + m) c') (n + m) (xs ++ news)) → Hid (w.grownBy w' (Value.ownBlock (.slice A n c))) → Hid (Value.ownBlock (.slice A' (n + m) c') = Value.ownBlock (.slice A n c) ∨ Value.ownBlock (.slice A' (n + m) c') = some w.heap.size) →
      K (a.put o.dst (.slice A' (n + m) c')) w') : if Region.wanted o (yielded ops a.tmps) = true then Oper.wp P o a w K Q else E := by
  have hw : Region.wanted o (yielded ops a.tmps) = true := by simp [Region.wanted, hgd]
  rw [if_pos hw]
  obtain ⟨i, hi, hz, hsize, hby⟩ := info_parts hinfo
  obtain ⟨v', w', hr, h2, h3, _, h5⟩ := run_append_own_at (P := P) w base t o.type e i z size bytes ht hi hz hsize hby hzs hsz (.slice A n c) n xs hown.out ad m cc news hl.out hnews.out h1.out hb.out.1 hb.out.2.1 hb.out.2.2
  obtain ⟨A', c', rfl⟩ := own_shape h2
  unfold Oper.wp execOp
  simp only [ho, resolve, invoke, builtin, Sem.run_bind, Sem.run_pure, Result.andThen_ok, List.map_toArray, List.map_cons, List.map_nil, hs, hx, hr]
  exact h A' c' w' h2 h3 h5

theorem push_u32 {base : Nat} {w0 w : World} {A : Option Addr} {m c : Nat} {xs : List Value} (n : Nat) (ho : w.ownsRow base 22 1 (.slice A m c) m xs) (hb : Below base w0 w) (hbase : base ≤ w.heap.size) (hm : m ≤ 1000) :
    Hid (([.int .u32 (n : Nat)] : List Value).length = 1 * 1) ∧ Hid ((w.alloc (.cells #[.int .u32 (n : Nat)] 22)).ownsRow base 22 1 (.slice A m c) m xs) ∧
    Hid (∀ i u, ([.int .u32 (n : Nat)] : List Value)[i]? = some u → (w.alloc (.cells #[.int .u32 (n : Nat)] 22)).cell? ((⟨w.heap.size, 0, none⟩ : Addr).add i) = some u) ∧
    Hid (∀ u ∈ ([.int .u32 (n : Nat)] : List Value), u.oneCell' = true) ∧
    Hid (m + 1 ≤ maxLen ∧ (m + 1) * 4 ≤ 140737488355328 ∧ base ≤ (w.alloc (.cells #[.int .u32 (n : Nat)] 22)).heap.size) ∧
    Hid (Below base w0 (w.alloc (.cells #[.int .u32 (n : Nat)] 22))) := by
  refine ⟨Lib.hid rfl, Lib.hid (ho.alloc _), ?_, Lib.hid ?_, Lib.hid ⟨by unfold maxLen; omega, by omega, by simp; omega⟩, Lib.hid (hb.alloc hbase _)⟩
  · refine Lib.hid fun i u hu => ?_
    rw [WideShapes.add_plain, (Has.made w _ _).cell, Nat.zero_add]
    simpa using hu
  · intro u hu
    simp only [List.mem_cons, List.not_mem_nil, or_false] at hu
    subst hu
    rfl
theorem has_at {W0 : World} {g : Nat} {t : TypeId} {cs : Array Value} (hg : W0.heap.size = g) : Has (W0.alloc (.cells cs t)) g t cs := by
  subst hg
  exact Has.made _ _ _
theorem add_block7 (a : Addr) (j : Nat) : (a.add j).block = a.block := by unfold Addr.add; split <;> rfl
theorem Sl.grow2 {w w' : World} {s : Nat} {A : Option Addr} {m c : Nat} {vs : List Value} {row : Option Nat} (h : Sl w s A m c vs) (hg : w.grownBy w' row) (hne : ∀ a, A = some a → some a.block ≠ row) : Sl w' s A m c vs := by
  refine ⟨h.1, h.2.1, fun ad ha j u hu => ?_⟩
  have h0 := h.2.2 ad ha j u hu
  have hb := cell_block h0
  rw [World.cell?_of_block (w := w) (by rw [add_block7] at hb ⊢; exact hg.block _ hb (hne ad ha))]
  exact h0
theorem has_setRow7 {w : World} {g : Nat} {t : TypeId} {old : Array Value} (h : Has w g t old) (cs : Array Value) : Has (w.setRow g cs) g t cs := by
  unfold Has at h ⊢
  simp [World.setRow, Array.getElem?_modify, h]
theorem has_setRow_other7 {w : World} {g k : Nat} {t : TypeId} {old : Array Value} (h : Has w k t old) (hne : k ≠ g) (cs : Array Value) : Has (w.setRow g cs) k t old := by
  unfold Has at h ⊢
  rw [setRow_other w g k cs hne]; exact h
theorem own_kept2 {w w' : World} {base : Nat} {e : TypeId} {size n : Nat} {v : Value} {xs : List Value} {row : Option Nat} (h : w.ownsRow base e size v n xs) (hg : w.grownBy w' row) (hne : v.ownBlock ≠ row) : w'.ownsRow base e size v n xs := h.kept hg (.inr hne)
theorem apart_push {w : World} {base : Nat} {e : TypeId} {size n : Nat} {v u u' : Value} {xs : List Value} (h : w.ownsRow base e size v n xs) (hne : v.ownBlock ≠ u.ownBlock) (hl : u'.ownBlock = u.ownBlock ∨ u'.ownBlock = some w.heap.size) : v.ownBlock ≠ u'.ownBlock := by
  rcases hl with e1 | e1
  · rw [e1]; exact hne
  · rw [e1]
    intro e2
    have := (h.lt _ e2).2
    omega
theorem set_mid (L : List Value) (n : Nat) (z u : Value) : (L ++ List.replicate (n + 1) z).toArray.setIfInBounds L.length u = ((L ++ [u]) ++ List.replicate n z).toArray := by
  rw [List.setIfInBounds_toArray, List.replicate_succ, List.set_append_right _ _ (Nat.le_refl _), Nat.sub_self, List.set_cons_zero, List.append_assoc, List.singleton_append]
def midA (k : Key4) (i : Nat) : Array Value := (w32 (ksL k i) ++ List.replicate (27 - i) (Value.int .u32 0)).toArray
theorem mid_set (k : Key4) {i : Nat} (h : i < 27) : (midA k i).setIfInBounds i (.int .u32 (keyAt k i : Nat)) = midA k (i + 1) := by
  have hl : (w32 (ksL k i)).length = i := by simp [w32, ksL]
  unfold midA
  rw [show 27 - i = (27 - (i + 1)) + 1 by omega, ks_succ]
  have := set_mid (w32 (ksL k i)) (27 - (i + 1)) (Value.int .u32 0) (Value.int .u32 (keyAt k i : Nat))
  rw [hl] at this
  exact this
theorem mid_at (k : Key4) {i : Nat} (h : i < 27) : (midA k i)[i]? = some (.int .u32 0) := by
  have hl : (w32 (ksL k i)).length = i := by simp [w32, ksL]
  unfold midA
  rw [List.getElem?_toArray, List.getElem?_append_right (by omega), hl, Nat.sub_self, show 27 - i = (27 - (i + 1)) + 1 by omega, List.replicate_succ]
  rfl
theorem mid_end (k : Key4) : midA k 27 = roundA k := by
  unfold midA roundA wordsA roundsF w32 ksL
  simp
theorem xor32i {p q r : Nat} (h : p ^^^ q = r) (hp : p < 4294967296) (hq : q < 4294967296) : bits .xor .u32 (p : Int) (q : Int) = (r : Nat) := by
  rw [u32_xor_nat p q hp hq, h]

set_option maxRecDepth 100000 in
set_option maxHeartbeats 4000000 in
theorem ref_rounds (k : Key4) (hk : k.ok) (w : World) :
    Calls Try.prog 66 #[keyV k] w fun e w' => e = .returned (.agg (roundA k)) ∧ Below w.heap.size w w' := by
  unfold keyV keyA
  go_enter Try.func66, Try.ntmps66
  go_upto_block 0 with fail
  obtain ⟨wa, hwa⟩ : ∃ wa, (w.alloc (.cells #[.int .u32 (k.a : Nat), .int .u32 (k.b : Nat), .int .u32 (k.c : Nat), .int .u32 (k.d : Nat)] 24)).alloc (.cells #[.int .u32 0, .int .u32 0, .int .u32 0, .int .u32 0, .int .u32 0, .int .u32 0, .int .u32 0, .int .u32 0, .int .u32 0, .int .u32 0, .int .u32 0, .int .u32 0, .int .u32 0, .int .u32 0, .int .u32 0, .int .u32 0, .int .u32 0, .int .u32 0, .int .u32 0, .int .u32 0, .int .u32 0, .int .u32 0, .int .u32 0, .int .u32 0, .int .u32 0, .int .u32 0, .int .u32 0] 88) = wa := ⟨_, rfl⟩
  rw [hwa]
  have hsa : wa.heap.size = w.heap.size + 2 := by rw [← hwa]; simp
  have hra : Has wa (w.heap.size + 1) 88 #[.int .u32 0, .int .u32 0, .int .u32 0, .int .u32 0, .int .u32 0, .int .u32 0, .int .u32 0, .int .u32 0, .int .u32 0, .int .u32 0, .int .u32 0, .int .u32 0, .int .u32 0, .int .u32 0, .int .u32 0, .int .u32 0, .int .u32 0, .int .u32 0, .int .u32 0, .int .u32 0, .int .u32 0, .int .u32 0, .int .u32 0, .int .u32 0, .int .u32 0, .int .u32 0, .int .u32 0] := by rw [← hwa]; exact has_at (by simp)
  have hba : Below w.heap.size w wa := by rw [← hwa]; exact ((Below.refl _ _).alloc (Nat.le_refl _) _).alloc (by simp) _
  rw [show w.heap.size + 1 + 1 = wa.heap.size from hsa.symm]
  have hok := World.ownsRow_lit (base := wa.heap.size) (e := 22) (size := 1) wa #[.int .u32 (k.d : Nat)] 1 (Nat.le_refl _) (by unfold maxLen; omega) rfl
  obtain ⟨wb, hwb⟩ : ∃ wb, wa.alloc (.cells #[.int .u32 (k.d : Nat)] 22) = wb := ⟨_, rfl⟩
  rw [hwb] at hok ⊢
  have hsb : wb.heap.size = wa.heap.size + 1 := by rw [← hwb]; simp
  rw [← hsb]
  have hol := World.ownsRow_lit (base := wa.heap.size) (e := 22) (size := 1) wb #[.int .u32 (k.c : Nat), .int .u32 (k.b : Nat), .int .u32 (k.a : Nat)] 3 (by omega) (by unfold maxLen; omega) rfl
  obtain ⟨wz, hwz⟩ : ∃ wz, wb.alloc (.cells #[.int .u32 (k.c : Nat), .int .u32 (k.b : Nat), .int .u32 (k.a : Nat)] 22) = wz := ⟨_, rfl⟩
  have hok2 : wz.ownsRow wa.heap.size 22 1 (.slice (some ⟨wa.heap.size, 0, none⟩) 1 1) 1 (w32 (ksL k 1)) := by rw [← hwz]; exact hok.alloc _
  have hol2 : wz.ownsRow wa.heap.size 22 1 (.slice (some ⟨wb.heap.size, 0, none⟩) 3 3) 3 (w32 (lsL k 3)) := by rw [← hwz]; exact hol
  have hbz : Below wa.heap.size wa wz := by rw [← hwz, ← hwb]; exact ((Below.refl _ _).alloc (Nat.le_refl _) _).alloc (by simp) _
  have hne : Value.ownBlock (.slice (some ⟨wa.heap.size, 0, none⟩) 1 1) ≠ Value.ownBlock (.slice (some ⟨wb.heap.size, 0, none⟩) 3 3) := by
    intro e
    have e : some wa.heap.size = some wb.heap.size := e
    injection e with e
    omega
  rw [hwz]
  have HOK := Lib.hid hok2; have HOL := Lib.hid hol2; have HBZ := Lib.hid hbz; have HBA := Lib.hid hba; have HRA := Lib.hid hra; have HSA := Lib.hid hsa; have HNE := Lib.hid hne
  have HKO := Lib.hid hk
  have hza := hbz.size
  clear hok hol hok2 hol2 hbz hba hra hne hk hwa hwb hwz hsb hsa
  go_wp2
  go_loopw [3, 4, 5] (fun s3 s4 s5 wr => ∃ (i : Nat) (A3 : Option Addr) (c3 : Nat) (A4 : Option Addr) (c4 : Nat), s3 = .slice A3 (i + 1) c3 ∧ s4 = .slice A4 (i + 3) c4 ∧ s5 = .int .i64 (i : Nat) ∧ i ≤ 26 ∧ wr.ownsRow wa.heap.size 22 1 (.slice A3 (i + 1) c3) (i + 1) (w32 (ksL k (i + 1))) ∧ wr.ownsRow wa.heap.size 22 1 (.slice A4 (i + 3) c4) (i + 3) (w32 (lsL k (i + 3))) ∧ Value.ownBlock (.slice A3 (i + 1) c3) ≠ Value.ownBlock (.slice A4 (i + 3) c4) ∧ Below wa.heap.size wa wr ∧ wa.heap.size ≤ wr.heap.size) (fun _ _ s5 _ => 26 - (intOf s5).toNat)
  case atStart => exact ⟨0, some ⟨wa.heap.size, 0, none⟩, 1, some ⟨wb.heap.size, 0, none⟩, 3, rfl, rfl, rfl, by omega, HOK.out, HOL.out, HNE.out, HBZ.out, hza⟩
  case round =>
    clear HOK HOL HBZ HNE hza
    obtain ⟨i, A3, c3, A4, c4, rfl, rfl, rfl, hi, ho3, ho4, hne, hbw, hsz⟩ := hrel
    have HO3 := Lib.hid ho3; have HO4 := Lib.hid ho4; have HNE := Lib.hid hne; have HBW := Lib.hid hbw
    clear ho3 ho4 hne hbw
    by_cases hlt : i < 26
    · obtain ⟨b3, o3, rfl, f3⟩ := (Sl.of_own HO3.out).at_ (ks_at k (i := i) (m := i + 1) (by omega))
      obtain ⟨b4, o4, rfl, f4⟩ := (Sl.of_own HO4.out).at_ (ls_at k (i := i) (m := i + 3) (by omega))
      have hka := keyAt_lt HKO.out (i := i) (by omega)
      have hla := lAt_lt HKO.out (i := i) (by omega)
      have hkn := keyAt_lt HKO.out (i := i + 1) (by omega)
      have HLS := Lib.hid (ls_succ k (i + 3)); have HKS := Lib.hid (ks_succ k (i + 1))
      rw [lAt_succ] at HLS
      have hks := keyAt_succ k i
      rw [lAt_succ] at hks
      obtain ⟨L, hL⟩ : ∃ L, kL (keyAt k i) (lAt k i) i = L := ⟨_, rfl⟩
      rw [hL] at HLS hks
      have HKT := Lib.hid (ks_at k (i := i) (m := i + 1) (by omega))
      have hr8 := rr8_lt hla
      have hLl : L < 4294967296 := by rw [← hL]; exact kL_lt (by omega)
      have hxL := xor32i (p := (keyAt k i + rr8 (lAt k i)) % 4294967296) (q := i) hL (by omega) (by omega)
      have hxK := xor32i (p := rl3 (keyAt k i)) (q := L) hks.symm (rl3_lt hka) hLl
      have HR := Lib.hid (fun W (hW : Below wr.heap.size wr W) => (right8_any (lAt k i) hla W).mono fun e w' h => And.intro h.1 (hW.trans (h.2.mono hW.size)))
      have HL3 := Lib.hid (fun W => left3_any (keyAt k i) hka W)
      generalize keyAt k (i + 1) = kn at *
      generalize rr8 (lAt k i) = r8 at *
      generalize rl3 (keyAt k i) = l3 at *
      generalize lAt k i = la at *
      generalize keyAt k i = ka at *
      have KC := Lib.hid (fun W (hW : Below wr.heap.size wr W) => And.intro ((hW.cell (p := ⟨b3, o3 + i, none⟩) (cell_block f3)).trans f3) ((hW.cell (p := ⟨b4, o4 + i, none⟩) (cell_block f4)).trans f4))
      have hxL2 : bits .xor .u32 ((((ka : Nat) : Int) + ((r8 : Nat) : Int)) % 4294967296) ((i : Nat) : Int) = (L : Nat) := by
        simp only [Int.natCast_emod, Int.natCast_add, Int.cast_ofNat_Int] at hxL
        exact hxL
      have hbd : Below wr.heap.size wr wr.drew := below_draws (Below.refl _ _) 1
      have x0 : (0 : Int) ≤ i := by omega
      have x1 : (i : Int) < 26 := by omega
      have x2 : (i : Int) < (i : Int) + 1 := by omega
      have x3 : (i : Int) < (i : Int) + 3 := by omega
      clear hL hxL hks
      go_wp2_with fail
      go_region_held3 (fun w' => w'.cell? ⟨b3, o3 + i, none⟩ = some (.int .u32 (ka : Nat)) ∧ w'.cell? ⟨b4, o4 + i, none⟩ = some (.int .u32 (la : Nat))) (first | exact KC.out _ (by assumption) | go_keep) (first | (go_at_call 67; refine (HR.out _ (by assumption)).mono ?_; rintro e w6 ⟨rfl, hb6⟩))
      have HB6 := Lib.hid hb6
      have ho3 := own_under HO3.out hb6 (Nat.le_refl _)
      have ho4 := own_under HO4.out hb6 (Nat.le_refl _)
      have hsz6 := Nat.le_trans hsz hb6.size
      obtain ⟨q1, q2, q3, q4, q5, q6⟩ := push_u32 (w := w6) L ho4 (HBW.out.trans (hb6.mono hsz)) hsz6 (by omega)
      have HO3A := Lib.hid (ho3.alloc (.cells #[.int .u32 (L : Nat)] 22))
      have HC3 := Lib.hid (KC.out w6 hb6).1
      clear ho3 ho4 hb6 hbd HO3 HO4 HBW HR f3 f4
      go_wp2_with (with_reducible refine wpList_push2 (o := ⟨some 41, _, _, _, _, _⟩) rfl (.tmp 38) (.tmp 40) 102 rfl wa.heap.size 22 (.int .u32 0) 1 4 Try.underlying102 info_u32 ?hz (by decide) (some ⟨b4, o4, none⟩) (i + 3) c4 (w32 (lsL k (i + 3))) ?hs q2 ⟨w6.heap.size, 0, none⟩ 1 1 [.int .u32 (L : Nat)] ?hx q1 q3 q4 q5 ?next)
      all_goals try rfl
      case next =>
        intro A7 c7 w7 ho7 hg7 hl7
        have ho37 := own_kept2 HO3A.out hg7.out HNE.out
        have hne7 := apart_push (u' := .slice A7 (i + 3 + 1) c7) HO3A.out HNE.out (by simpa using hl7.out)
        have hb7 := below_own q6.out q5.out.2.2 q2.out (Nat.le_refl _) rfl hg7.out
        have HO7 := Lib.hid ho7.out
        obtain ⟨b3', o3', hA3, g3⟩ := (Sl.of_own ho37).at_ HKT.out
        simp only [Option.some.injEq, Addr.mk.injEq, and_true] at hA3
        obtain ⟨rfl, rfl⟩ := hA3
        have HL7 := Lib.hid (HL3.out w7)
        have HO37 := Lib.hid ho37; have HNE7 := Lib.hid hne7; have HB7 := Lib.hid hb7
        have hsz7 : wa.heap.size ≤ w7.heap.size := HB7.out.size
        clear ho37 hne7 hb7 ho7 hg7 hl7 q1 q2 q3 q4 q5 q6 HO3A HC3 HL3 KC HNE HB6 hsz6
        go_wp2_with fail
        refine HL7.out.mono ?_
        rintro e w8 ⟨rfl, hb8⟩
        have ho38 := own_under HO37.out hb8 (Nat.le_refl _)
        have hsz8 := Nat.le_trans hsz7 hb8.size
        obtain ⟨p1, p2, p3, p4, p5, p6⟩ := push_u32 (w := w8) kn ho38 (HB7.out.trans (hb8.mono hsz7)) hsz8 (by omega)
        have HO7A : Hid ((w8.alloc (.cells #[.int .u32 (kn : Nat)] 22)).ownsRow wa.heap.size 22 1 (.slice A7 (i + 3 + 1) c7) (i + 3 + 1) (w32 (lsL k (i + 3)) ++ [.int .u32 (L : Nat)])) := Lib.hid ((own_under HO7.out hb8 (Nat.le_refl _)).alloc _)
        clear ho38 hb8 HO7 HO37 HB7 HL7 g3 hsz7
        go_wp2_with (with_reducible refine wpList_push2 (o := ⟨some 51, _, _, _, _, _⟩) rfl (.tmp 42) (.tmp 50) 102 rfl wa.heap.size 22 (.int .u32 0) 1 4 Try.underlying102 info_u32 ?hz2 (by decide) (some ⟨b3, o3, none⟩) (i + 1) c3 (w32 (ksL k (i + 1))) ?hs2 p2 ⟨w8.heap.size, 0, none⟩ 1 1 [.int .u32 (kn : Nat)] ?hx2 p1 p3 p4 p5 ?next2)
        all_goals try rfl
        case next2 =>
          intro A9 c9 w9 ho9 hg9 hl9
          have HB9 := Lib.hid (below_own p6.out p5.out.2.2 p2.out (Nat.le_refl _) rfl hg9.out)
          have HO79 : Hid (w9.ownsRow wa.heap.size 22 1 (.slice A7 (i + 3 + 1) c7) (i + 3 + 1) (w32 (lsL k (i + 1 + 3)))) := Lib.hid (by
            have h := own_kept2 HO7A.out hg9.out HNE7.out.symm
            rw [show i + 1 + 3 = i + 3 + 1 by omega, HLS.out]
            exact h)
          have HNE9 := Lib.hid (apart_push (u' := .slice A9 (i + 1 + 1) c9) HO7A.out HNE7.out.symm (by simpa using hl9.out)).symm
          have HO9 : Hid (w9.ownsRow wa.heap.size 22 1 (.slice A9 (i + 1 + 1) c9) (i + 1 + 1) (w32 (ksL k (i + 1 + 1)))) := Lib.hid (by rw [HKS.out]; exact ho9.out)
          have hsz9 : wa.heap.size ≤ w9.heap.size := HB9.out.size
          clear ho9 hg9 hl9 HO7A HNE7 p1 p2 p3 p4 p5 p6 hsz8
          go_wp2
          go_roundw
          case rel => exact ⟨i + 1, A9, c9, A7, c7, rfl, rfl, by go_num, by omega, HO9.out, HO79.out, HNE9.out, HB9.out, hsz9⟩
          case measure => simp [intOf]; omega
    obtain rfl : i = 26 := by omega
    have HRB := Lib.hid (HRA.out.under HBW.out (by rw [HSA.out]; omega))
    have HKR := Lib.hid (Sl.of_own HO3.out)
    have hlow : ∀ a, A3 = some a → wa.heap.size ≤ a.block ∧ a.block < wr.heap.size := fun a h => HO3.out.lt a.block (by rw [h]; rfl)
    have HLO := Lib.hid hlow
    obtain ⟨w1, hw1⟩ : ∃ w1, wr = w1 := ⟨_, rfl⟩
    rw [hw1] at HBW HRB HKR HLO hsz ⊢
    clear hw1 hlow HO3 HO4 HNE HRA
    have hm0 : Has (w1.alloc (.cells #[.int .u32 0, .int .u32 0, .int .u32 0, .int .u32 0, .int .u32 0, .int .u32 0, .int .u32 0, .int .u32 0, .int .u32 0, .int .u32 0, .int .u32 0, .int .u32 0, .int .u32 0, .int .u32 0, .int .u32 0, .int .u32 0, .int .u32 0, .int .u32 0, .int .u32 0, .int .u32 0, .int .u32 0, .int .u32 0, .int .u32 0, .int .u32 0, .int .u32 0, .int .u32 0, .int .u32 0] 88)) w1.heap.size 88 (midA k 0) := Has.made w1 88 _
    obtain ⟨w2, hw2⟩ : ∃ w2, w1.alloc (.cells #[.int .u32 0, .int .u32 0, .int .u32 0, .int .u32 0, .int .u32 0, .int .u32 0, .int .u32 0, .int .u32 0, .int .u32 0, .int .u32 0, .int .u32 0, .int .u32 0, .int .u32 0, .int .u32 0, .int .u32 0, .int .u32 0, .int .u32 0, .int .u32 0, .int .u32 0, .int .u32 0, .int .u32 0, .int .u32 0, .int .u32 0, .int .u32 0, .int .u32 0, .int .u32 0, .int .u32 0] 88) = w2 := ⟨_, rfl⟩
    have hb12 : Below w1.heap.size w1 w2 := by rw [← hw2]; exact (Below.refl _ _).alloc (Nat.le_refl _) _
    rw [hw2] at hm0
    have HM0 := Lib.hid hm0; have HB12 := Lib.hid hb12; have HW2 := Lib.hid hw2
    have HKR2 := Lib.hid (HKR.out.under hb12)
    clear hm0 hb12 hw2
    go_wp2
    rw [HW2.out]
    clear HW2
    go_loopw [9] (fun s9 wr => ∃ i : Nat, s9 = .int .i64 (i : Nat) ∧ i ≤ 27 ∧ Has wr w1.heap.size 88 (midA k i) ∧ w2.grownBy wr (some w1.heap.size)) (fun s9 _ => 27 - (intOf s9).toNat)
    case atStart => exact ⟨0, rfl, by omega, HM0.out, only_refl _ _⟩
    case round =>
      obtain ⟨i, rfl, hi, hm, hg⟩ := hrel
      have HM := Lib.hid hm; have HG := Lib.hid hg
      clear hm hg
      by_cases hlt : i < 27
      · obtain ⟨b, o, rfl, f0⟩ := (HKR2.out.grow2 HG.out (fun a ha e => by injection e with e; have := (HLO.out a ha).2; omega)).at_ (ks_at k (i := i) (m := 26 + 1) (by omega))
        have k0 : wr.cell? ⟨w1.heap.size, i, none⟩ = some (.int .u32 0) := by rw [HM.out.cell]; exact mid_at k hlt
        have z0 := HM.out.thaw i
        have HMN : Hid (Has (wr.setCell ⟨w1.heap.size, i, none⟩ (.int .u32 (keyAt k i : Nat))) w1.heap.size 88 (midA k (i + 1))) := Lib.hid (by rw [← mid_set k hlt]; exact HM.out.stored i _)
        have HGN : Hid (w2.grownBy (wr.setCell ⟨w1.heap.size, i, none⟩ (.int .u32 (keyAt k i : Nat))) (some w1.heap.size)) := Lib.hid (only_store HG.out rfl _)
        have x0 : (0 : Int) ≤ i := by omega
        have x1 : (i : Int) < 27 := by omega
        generalize keyAt k i = ka at *
        clear HM HG
        go_wp2
        go_roundw
        case rel => exact ⟨i + 1, by go_num, by omega, HMN.out, HGN.out⟩
        case measure => simp [intOf]; omega
      obtain rfl : i = 27 := by omega
      have hm := HM.out
      rw [mid_end] at hm
      have HME : Hid (wr.heap[w1.heap.size]? = some (.cells (roundA k) 88 (0, 0))) := Lib.hid hm
      have hsa := HSA.out
      have HE : Hid (wr.heap[w.heap.size + 1]? = some (.cells #[.int .u32 0, .int .u32 0, .int .u32 0, .int .u32 0, .int .u32 0, .int .u32 0, .int .u32 0, .int .u32 0, .int .u32 0, .int .u32 0, .int .u32 0, .int .u32 0, .int .u32 0, .int .u32 0, .int .u32 0, .int .u32 0, .int .u32 0, .int .u32 0, .int .u32 0, .int .u32 0, .int .u32 0, .int .u32 0, .int .u32 0, .int .u32 0, .int .u32 0, .int .u32 0, .int .u32 0] 88 (0, 0))) := Lib.hid ((HRB.out.under HB12.out HRB.out.lt).grow HG.out (fun e => by injection e with e; have := HRB.out.lt; omega))
      have HF := Lib.hid (has_setRow7 (show Has wr (w.heap.size + 1) 88 _ from HE.out) (roundA k))
      have hb1 : Below w.heap.size w w1 := HBA.out.trans (HBW.out.mono (by omega))
      have HBF := Lib.hid (below_row (g := w.heap.size + 1) (below_only (hb1.trans (HB12.out.mono hb1.size)) HG.out (Nat.le_trans hb1.size HB12.out.size) hb1.size) (by omega) (roundA k))
      have HIN : Hid ((Try.prog.info? 88).map (·.size) = some (roundA k).size) := Lib.hid (by rw [round_size]; kernel_rfl)
      have HON : Hid ((roundA k).all (·.oneCell') = true) := Lib.hid (by simp [roundA, wordsA, Value.oneCell'])
      have HOS : Hid ((#[.int .u32 0, .int .u32 0, .int .u32 0, .int .u32 0, .int .u32 0, .int .u32 0, .int .u32 0, .int .u32 0, .int .u32 0, .int .u32 0, .int .u32 0, .int .u32 0, .int .u32 0, .int .u32 0, .int .u32 0, .int .u32 0, .int .u32 0, .int .u32 0, .int .u32 0, .int .u32 0, .int .u32 0, .int .u32 0, .int .u32 0, .int .u32 0, .int .u32 0, .int .u32 0, .int .u32 0] : Array Value).size = (roundA k).size) := Lib.hid (by rw [round_size]; rfl)
      clear hm hsa hb1 HM HG HKR HKR2 HLO HRB HB12 HM0 HBW HBA HSA
      obtain ⟨RA, hRA⟩ : ∃ RA, roundA k = RA := ⟨_, rfl⟩
      rw [hRA] at HME HF HBF HIN HON HOS
      have HRA := Lib.hid hRA
      clear hRA
      go_wp2_with (first
        | (with_reducible refine wpList_load_row (o := ⟨some 62, _, _, _, _, _⟩) rfl 88 (.tmp 8) rfl w1.heap.size rfl 88 RA (0, 0) _ HME.out Try.underlying88 rfl HIN.out ?_)
        | (with_reducible refine wpList_store_rowTo (o := ⟨none, _, _, _, _, _⟩) rfl 88 _ _ rfl rfl (w.heap.size + 1) RA rfl rfl 88 _ HE.out HIN.out HOS.out HON.out ?_))
      refine bodyPost_ret (results_cell_row rfl _ _ (w.heap.size + 1) 88 _ _ _ rfl HF.out Try.underlying88 rfl HIN.out) rfl ?_
      exact ⟨by rw [HRA.out], HBF.out⟩
end Go.Proofs.Ytekcnmimfhiblaa
