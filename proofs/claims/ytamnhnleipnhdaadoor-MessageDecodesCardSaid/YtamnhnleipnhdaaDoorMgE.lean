/-
  PkRun, PkWalk, PkTotal, PkSame, PkNeq, PkSame2, PkLaid: merged.
-/
import Derived.Test.YtamnhnleipnhdaaDoorMgD
import Derived.BigQuiet
import Derived.Deep.QuietTactic
import Derived.Test.YtamnhnleipnhdaaDoorMgB

/-
  What the words of a row do with a packet that is gone through: run, as a function; where brackets end; how much there is at most.
-/
namespace Go.Proofs.YtamnhnleipnhdaaDoor

open Go.RowKit

def many (k : Nat) (last : Int) : Nat := if k = 0 then last.toNat else if last = 1 then 1 else if k = 2 ∧ last = 2 then 1 else 0
def repS (f : WS → WS) : Nat → WS → WS
  | 0, s => s
  | m + 1, s => if s.e ≠ 0 then s else repS f m (f s)
mutual
def runN : Nd → Int → WS → Int × WS
  | .v n, _, s => oneS n s
  | .g k b, last, s => (last, repS (fun s => runL b 0 s) (many k last) s)
def runL : List Nd → Int → WS → WS
  | [], _, s => s
  | x :: l, last, s => if s.e ≠ 0 then s else runL l (runN x last s).1 (runN x last s).2
end
mutual
def noN : Nd → Bool
  | .v n => decide (n ≠ 7)
  | .g _ b => noL b
def noL : List Nd → Bool
  | [] => true
  | x :: l => noN x && noL l
end
mutual
def goodN : Nd → Bool
  | .v n => decide (n < 96)
  | .g k b => decide (k < 3) && (goodL b && noL b)
def goodL : List Nd → Bool
  | [] => true
  | x :: l => goodN x && goodL l
end
def c7 : List Nd → Nat
  | [] => 0
  | .v n :: l => (if n = 7 then 1 else 0) + c7 l
  | .g _ _ :: l => c7 l

theorem name_plain (n : Nat) : isOpen (nameV n) = false ∧ isClose (nameV n) = false := by
  by_cases h : n < 96
  · have := List.all_eq_true.1 (show (List.range 96).all (fun n => !isOpen (nameV n) && !isClose (nameV n)) = true from by kernel_rfl) n (List.mem_range.2 h)
    simpa using this
  · have e : nameV n = vnone.name := by
      unfold nameV
      rw [List.getD_eq_getElem?_getD, List.getElem?_eq_none (by have := vrows_length; omega)]; rfl
    rw [e]
    exact ⟨by kernel_rfl, by kernel_rfl⟩
theorem open_deep (k : Nat) (d : Int) : deepen (openW k) d = d + 1 := by
  unfold openW
  split
  · unfold deepen; rw [if_pos (by decide), if_neg (by decide)]; omega
  · split
    · unfold deepen; rw [if_pos (by decide), if_neg (by decide)]; omega
    · unfold deepen; rw [if_pos (by decide), if_neg (by decide)]; omega
theorem close_deep (k : Nat) (d : Int) : deepen (closeW k) d = d - 1 := by
  unfold closeW
  split
  · unfold deepen; rw [if_neg (by decide), if_pos (by decide)]
  · unfold deepen; rw [if_neg (by decide), if_pos (by decide)]
theorem name_deep (n : Nat) (d : Int) : deepen (nameV n) d = d := by
  obtain ⟨h1, h2⟩ := name_plain n
  unfold deepen
  rw [h1, h2, if_neg (by decide), if_neg (by decide)]; omega
theorem getD_mid (pre : List ByteArray) (x : ByteArray) (post : List ByteArray) : (pre ++ x :: post).getD pre.length ⟨#[]⟩ = x := by simp [List.getD_eq_getElem?_getD]
theorem close_step {L : List ByteArray} {i : Nat} {x : ByteArray} (h : L.getD i ⟨#[]⟩ = x) (f : Nat) {d d' : Int} (hd : deepen x d = d') (h0 : d' ≠ 0) : closeGo L (f + 1) i d = closeGo L f (i + 1) d' := by
  rw [closeGo, h, hd, if_neg h0]
mutual
theorem close_node : ∀ (x : Nd) (pre post : List ByteArray) (f : Nat) (d : Int), 1 ≤ d → closeGo (pre ++ wordsN x ++ post) (f + (wordsN x).length) pre.length d = closeGo (pre ++ wordsN x ++ post) f (pre.length + (wordsN x).length) d
  | .v n, pre, post, f, d, hd => by
    simp only [wordsN, List.length_singleton]
    rw [List.append_assoc, List.singleton_append]
    exact close_step (getD_mid pre _ post) f (name_deep n d) (by omega)
  | .g k b, pre, post, f, d, hd => by
    simp only [wordsN]
    have e : pre ++ openW k :: (wordsL b ++ [closeW k]) ++ post = (pre ++ [openW k]) ++ wordsL b ++ (closeW k :: post) := by simp
    have e2 : pre ++ openW k :: (wordsL b ++ [closeW k]) ++ post = pre ++ openW k :: (wordsL b ++ closeW k :: post) := by simp
    have e3 : pre ++ openW k :: (wordsL b ++ [closeW k]) ++ post = (pre ++ [openW k] ++ wordsL b) ++ closeW k :: post := by simp
    have hl : (openW k :: (wordsL b ++ [closeW k])).length = (wordsL b).length + 1 + 1 := by simp
    rw [hl]
    have s1 : closeGo (pre ++ openW k :: (wordsL b ++ [closeW k]) ++ post) (f + 1 + (wordsL b).length + 1) pre.length d = closeGo (pre ++ openW k :: (wordsL b ++ [closeW k]) ++ post) (f + 1 + (wordsL b).length) (pre.length + 1) (d + 1) := by
      refine close_step (x := openW k) ?_ _ (open_deep k d) (by omega)
      rw [e2]; exact getD_mid _ _ _
    have s2 := close_list b (pre ++ [openW k]) (closeW k :: post) (f + 1) (d + 1) (by omega)
    rw [← e, show (pre ++ [openW k]).length = pre.length + 1 by simp] at s2
    have s3 : closeGo (pre ++ openW k :: (wordsL b ++ [closeW k]) ++ post) (f + 1) (pre.length + 1 + (wordsL b).length) (d + 1) = closeGo (pre ++ openW k :: (wordsL b ++ [closeW k]) ++ post) f (pre.length + 1 + (wordsL b).length + 1) d := by
      refine close_step (x := closeW k) ?_ _ (by rw [close_deep]; omega) (by omega)
      rw [e3, show pre.length + 1 + (wordsL b).length = (pre ++ [openW k] ++ wordsL b).length by rw [List.length_append, List.length_append, List.length_singleton]]; exact getD_mid _ _ _
    rw [show f + ((wordsL b).length + 1 + 1) = f + 1 + (wordsL b).length + 1 by omega, s1, s2, s3]
    congr 1
    omega
theorem close_list : ∀ (b : List Nd) (pre post : List ByteArray) (f : Nat) (d : Int), 1 ≤ d → closeGo (pre ++ wordsL b ++ post) (f + (wordsL b).length) pre.length d = closeGo (pre ++ wordsL b ++ post) f (pre.length + (wordsL b).length) d
  | [], pre, post, f, d, _ => by simp [wordsL]
  | x :: l, pre, post, f, d, hd => by
    simp only [wordsL]
    have e1 : pre ++ (wordsN x ++ wordsL l) ++ post = pre ++ wordsN x ++ (wordsL l ++ post) := by simp
    have e2 : pre ++ (wordsN x ++ wordsL l) ++ post = (pre ++ wordsN x) ++ wordsL l ++ post := by simp
    have s1 := close_node x pre (wordsL l ++ post) (f + (wordsL l).length) d hd
    have s2 := close_list l (pre ++ wordsN x) post f d hd
    rw [← e1] at s1
    rw [← e2, List.length_append] at s2
    rw [List.length_append, show f + ((wordsN x).length + (wordsL l).length) = f + (wordsL l).length + (wordsN x).length by omega, s1, s2]
    congr 1
    omega
end
/-- Where what begins at a bracket ends. -/
theorem close_group (k : Nat) (b : List Nd) (pre post : List ByteArray) (n : Nat) (hn : n = (pre ++ wordsN (.g k b) ++ post).length) : closeGo (pre ++ wordsN (.g k b) ++ post) (n - pre.length) pre.length 0 = pre.length + 1 + (wordsL b).length := by
  simp only [wordsN] at *
  have e : pre ++ openW k :: (wordsL b ++ [closeW k]) ++ post = (pre ++ [openW k]) ++ wordsL b ++ (closeW k :: post) := by simp
  have e2 : pre ++ openW k :: (wordsL b ++ [closeW k]) ++ post = pre ++ openW k :: (wordsL b ++ closeW k :: post) := by simp
  have e3 : pre ++ openW k :: (wordsL b ++ [closeW k]) ++ post = (pre ++ [openW k] ++ wordsL b) ++ closeW k :: post := by simp
  have hf : n - pre.length = post.length + 1 + (wordsL b).length + 1 := by rw [hn]; simp; omega
  rw [hf]
  have s1 : closeGo (pre ++ openW k :: (wordsL b ++ [closeW k]) ++ post) (post.length + 1 + (wordsL b).length + 1) pre.length 0 = closeGo (pre ++ openW k :: (wordsL b ++ [closeW k]) ++ post) (post.length + 1 + (wordsL b).length) (pre.length + 1) 1 := by
    refine close_step (x := openW k) ?_ _ (by rw [open_deep]; rfl) (by omega)
    rw [e2]; exact getD_mid _ _ _
  have s2 := close_list b (pre ++ [openW k]) (closeW k :: post) (post.length + 1) 1 (by omega)
  rw [← e, show (pre ++ [openW k]).length = pre.length + 1 by simp] at s2
  rw [s1, s2, closeGo]
  have hx : (pre ++ openW k :: (wordsL b ++ [closeW k]) ++ post).getD (pre.length + 1 + (wordsL b).length) ⟨#[]⟩ = closeW k := by
    rw [e3, show pre.length + 1 + (wordsL b).length = (pre ++ [openW k] ++ wordsL b).length by rw [List.length_append, List.length_append, List.length_singleton]]; exact getD_mid _ _ _
  rw [hx, close_deep, if_pos (by omega)]

/-- How much there is at most. -/
structure Inv (s : WS) (slack : Nat) : Prop where
  b : s.bits.length ≤ 1000000
  v : s.V.length ≤ 1000000
  g : s.got.length ≤ s.out.length
  o : s.out.length + (if s.rd = true then s.bits.length else s.V.length) + slack ≤ 1000000
theorem inv_keep (v n : Int) (s : WS) (k : Nat) (h : Inv s (k + 1)) : Inv (keep v n s) k := by
  obtain ⟨h1, h2, h3, h4⟩ := h
  unfold keep
  split
  · exact ⟨h1, h2, by simp; omega, by simp only [List.length_append, List.length_singleton]; omega⟩
  · split
    · exact ⟨h1, h2, by simp; omega, by simp only [List.length_append, List.length_singleton]; omega⟩
    · exact ⟨h1, h2, by simp; omega, by simp only [List.length_append, List.length_singleton]; omega⟩
theorem inv_less {s : WS} {k k' : Nat} (h : Inv s k) (hk : k' ≤ k) : Inv s k' := ⟨h.b, h.v, h.g, by have := h.o; omega⟩
theorem inv_err {s : WS} {k : Nat} (h : Inv s k) (e : Int) : Inv { s with e := e } k := ⟨h.b, h.v, h.g, h.o⟩
theorem inv_fetch (v : Int) (hv0 : 0 ≤ v) (hv1 : v < 96) (s : WS) (k : Nat) (h : Inv s (k + if v = 7 then 1 else 0)) (he : (fetch v s).2.e = 0) : Inv (fetch v s).2 (k + 1) := by
  obtain ⟨w1, w2⟩ := width_one v hv0 hv1
  obtain ⟨h1, h2, h3, h4⟩ := h
  revert he
  unfold fetch
  by_cases hr : s.rd = true
  · rw [if_pos hr]
    rw [if_pos hr] at h4
    by_cases hs : s.bits.length < widthOf v
    · rw [if_pos hs]
      intro he; exact absurd he (by show (10 : Int) ≠ 0; decide)
    · rw [if_neg hs]
      have hl : (s.bits.drop (widthOf v)).length + 1 ≤ s.bits.length := by rw [List.length_drop]; omega
      exact fun _ => ⟨by show (s.bits.drop (widthOf v)).length ≤ _; omega, h2, h3, by show s.out.length + (if s.rd = true then (s.bits.drop (widthOf v)).length else s.V.length) + (k + 1) ≤ _; rw [if_pos hr]; omega⟩
  · rw [if_neg hr]
    rw [if_neg hr] at h4
    by_cases h7 : v = 7
    · rw [if_pos h7]
      rw [if_pos h7] at h4
      exact fun _ => ⟨h1, h2, h3, by show s.out.length + (if s.rd = true then s.bits.length else s.V.length) + (k + 1) ≤ _; rw [if_neg hr]; omega⟩
    · rw [if_neg h7]
      rw [if_neg h7] at h4
      by_cases hV : s.V = []
      · rw [if_pos hV]
        intro he; exact absurd he (by show (20 : Int) ≠ 0; decide)
      · rw [if_neg hV]
        obtain ⟨V0, VT, hVc⟩ := List.exists_cons_of_ne_nil hV
        have hl : s.V.tail.length + 1 = s.V.length := by rw [hVc]; simp
        exact fun _ => ⟨h1, by show s.V.tail.length ≤ _; omega, h3, by show s.out.length + (if s.rd = true then s.bits.length else s.V.tail.length) + (k + 1) ≤ _; rw [if_neg hr]; omega⟩
theorem inv_fetch_bad (v : Int) (s : WS) (k : Nat) (h : Inv s k) (he : (fetch v s).2.e ≠ 0) (h0 : s.e = 0) : Inv (fetch v s).2 k := by
  revert he
  unfold fetch
  split
  · split
    · exact fun _ => inv_err h _
    · exact fun he => absurd h0 he
  · split
    · exact fun he => absurd h0 he
    · split
      · exact fun _ => inv_err h _
      · exact fun he => absurd h0 he
theorem inv_one (v : Int) (hv0 : 0 ≤ v) (hv1 : v < 96) (s : WS) (k : Nat) (h : Inv s (k + if v = 7 then 1 else 0)) : Inv (oneS v s).2 k := by
  unfold oneS
  by_cases he : s.e ≠ 0
  · rw [if_pos he]
    exact inv_less h (by omega)
  · rw [if_neg he]
    by_cases hf : (fetch v s).2.e ≠ 0
    · rw [if_pos hf]
      exact inv_less (inv_fetch_bad v s _ h hf (by omega)) (by omega)
    · rw [if_neg hf]
      have hi := inv_fetch v hv0 hv1 s k h (by omega)
      split
      · exact inv_err (inv_less hi (by omega)) _
      · exact inv_keep v _ _ k hi

theorem inv_rep (f : WS → WS) (k : Nat) (hf : ∀ s, Inv s k → Inv (f s) k) : ∀ (m : Nat) (s : WS), Inv s k → Inv (repS f m s) k
  | 0, s, h => h
  | m + 1, s, h => by
    rw [repS]
    split
    · exact h
    · exact inv_rep f k hf m _ (hf s h)
theorem noL_c7 : ∀ b : List Nd, noL b = true → c7 b = 0
  | [], _ => rfl
  | .v n :: l, h => by
    simp only [noL, noN, Bool.and_eq_true, decide_eq_true_eq] at h
    rw [c7, if_neg h.1, noL_c7 l h.2]
  | .g _ _ :: l, h => by
    simp only [noL, Bool.and_eq_true] at h
    rw [c7, noL_c7 l h.2]
theorem inv_oneN (n : Nat) (hn : n < 96) (s : WS) (k : Nat) (h : Inv s (k + if n = 7 then 1 else 0)) : Inv (oneS n s).2 k := by
  refine inv_one n (by omega) (by omega) s k ?_
  by_cases h7 : n = 7
  · subst h7; exact h
  · rw [if_neg (by omega)]; rw [if_neg h7] at h; exact h
mutual
theorem inv_runN : ∀ (x : Nd) (l : List Nd) (last : Int) (s : WS) (k : Nat), goodN x = true → Inv s (k + c7 (x :: l)) → Inv (runN x last s).2 (k + c7 l)
  | .v n, l, last, s, k, hg, h => by
    simp only [goodN, decide_eq_true_eq] at hg
    rw [c7] at h
    simp only [runN]
    exact inv_oneN n hg s _ (inv_less h (by omega))
  | .g kk b, l, last, s, k, hg, h => by
    simp only [goodN, Bool.and_eq_true, decide_eq_true_eq] at hg
    rw [c7] at h
    simp only [runN]
    refine inv_rep _ _ (fun s hs => ?_) _ _ h
    exact inv_runL b 0 s _ hg.2.1 (by rw [noL_c7 b hg.2.2]; exact hs)
theorem inv_runL : ∀ (b : List Nd) (last : Int) (s : WS) (k : Nat), goodL b = true → Inv s (k + c7 b) → Inv (runL b last s) k
  | [], last, s, k, hg, h => by simp only [runL]; exact inv_less h (by omega)
  | x :: l, last, s, k, hg, h => by
    simp only [goodL, Bool.and_eq_true] at hg
    simp only [runL]
    split
    · exact inv_less h (by omega)
    · exact inv_runL l _ _ k hg.2 (inv_runN x l last s k hg.1 h)
end
theorem find_name (n : Nat) (h : n < 96) : findOf (nameV n) = n := by
  have := List.all_eq_true.1 (show (List.range 96).all (fun n => decide (findOf (nameV n) = (n : Int))) = true from by kernel_rfl) n (List.mem_range.2 h)
  simpa using this
/-- One variable, whatever went wrong ahead of it. -/
theorem one_any (base g n : Nat) (hn : n < 96) (s : WS) (w : World) (k : Nat) (h : WkAt base g w s) (hB : base ≤ w.heap.size) (hi : Inv s k) :
    Calls Tryd.prog 77 #[.pointer (some ⟨g, 0, none⟩), .int .i64 (n : Nat)] w fun e w' => e = .returned (.int .i64 (oneS n s).1) ∧ WkAt base g w' (oneS n s).2 ∧ Fr base w w' := by
  by_cases he : s.e = 0
  · have h1 := hi.b
    have h2 := hi.v
    have h3 := hi.g
    have h4 := hi.o
    exact one_live base g n s w h hB he (by omega) (by omega) (by omega) (by omega) (by omega) (by omega)
  · refine (one_done base g n s w h he).mono ?_
    rintro e w' ⟨rfl, rfl⟩
    rw [oneS, if_pos he]
    exact ⟨rfl, h, Fr.refl _ _⟩
end Go.Proofs.YtamnhnleipnhdaaDoor

/-
  linesideref05.Walk.run: what the words of a row do.
-/
namespace Go.Proofs.YtamnhnleipnhdaaDoor

open Go.RowKit

theorem cut_both {P : Program} (t e : TypeId) (h : P.underlying t = some (.slice e)) (_he : P.elem t = e) (hs : (P.info? e).map (·.size) = some 1) (A : Option Addr) (n c p q : Nat) (hp : p ≤ q) (hq : q ≤ c) (w : World) :
    (Instr.sliceAt t (.slice A n c) (some (.int .i64 (p : Nat))) (some (.int .i64 (q : Nat))) none).run P w = .ok (.slice (if c = p then A else A.map (·.add (p * 1))) (q - p) (c - p)) w := by
  have e1 : (sizeOf e).run P w = .ok 1 w := by
    cases hi : P.info? e with
    | none => rw [hi] at hs; cases hs
    | some i =>
      rw [hi] at hs
      simp only [Option.map_some, Option.some.injEq] at hs
      simp [sizeOf, run_typeInfo _ hi, hs]
  have h0 : (0 : Int) ≤ (p : Nat) := by omega
  have h1 : ((p : Nat) : Int) ≤ (q : Nat) := by omega
  have h2 : (0 : Int) ≤ (q : Nat) := by omega
  have h3 : ((q : Nat) : Int) ≤ (c : Nat) := by omega
  simp [Instr.sliceAt, Instr.slice, run_underlying h, Instr.sliceBounds, run_sliceBound, h0, h1, h2, h3, e1]

/-- A slice of strings, in a row of strings. -/
structure StrSl (w : World) (A : Option Addr) (n c : Nat) (l : List ByteArray) : Prop where
  len : l.length = n
  cap : n ≤ c
  sl : Sl w 1 A n c (strs l)
  row : ∀ a, A = some a → ∃ cs fr, w.heap[a.block]? = some (.cells cs 9 fr)
theorem StrSl.keep {w w' : World} {A : Option Addr} {n c : Nat} {l : List ByteArray} (h : StrSl w A n c l) (k : KeepStr w w') : StrSl w' A n c l := by
  refine ⟨h.len, h.cap, ⟨h.sl.1, h.sl.2.1, fun ad ha j u hu => ?_⟩, fun a ha => ?_⟩
  · obtain ⟨cs, fr, hr⟩ := h.row ad ha
    have h0 := h.sl.2.2 ad ha j u hu
    rw [World.cell?_of_block (w := w) (by rw [add_block, hr]; exact k _ _ _ hr)]
    exact h0
  · obtain ⟨cs, fr, hr⟩ := h.row a ha
    exact ⟨cs, fr, k _ _ _ hr⟩
theorem StrSl.slw {w : World} {A : Option Addr} {n c : Nat} {l : List ByteArray} (h : StrSl w A n c l) : SlW w A n c l := ⟨h.len, h.sl⟩
theorem StrSl.of_own {base : Nat} {w : World} {A : Option Addr} {n c : Nat} {l : List ByteArray} (h : OwS base w A n c l) : StrSl w A n c l := by
  have hs := Sl.of_own h
  refine ⟨by have := hs.1; rw [strs_length] at this; omega, ?_, hs, fun a ha => ?_⟩
  · rcases h.2 with ⟨e, e2⟩ | ⟨g, cap, cur, e, _, _, e2, _⟩
    · omega
    · injection e with _ _ e3; omega
  · rcases h.2 with ⟨e, _⟩ | ⟨g, cap, cur, e, _, hh, _⟩
    · injection e with e; rw [e] at ha; cases ha
    · injection e with e
      rw [e] at ha
      injection ha with ha
      subst ha
      exact ⟨_, _, hh⟩
/-- The words between two places. -/
theorem StrSl.part {w : World} {A : Option Addr} {n c : Nat} {pre mid post : List ByteArray} (h : StrSl w A n c (pre ++ mid ++ post)) : StrSl w (if c = pre.length then A else A.map (·.add (pre.length * 1))) mid.length (c - pre.length) mid := by
  have hl := h.len
  have hc := h.cap
  simp only [List.length_append] at hl
  have h1 := h.sl.from_ hc (p := pre.length) (by omega)
  have e1 : (strs (pre ++ mid ++ post)).drop pre.length = strs mid ++ strs post := by simp [strs]
  rw [e1] at h1
  refine ⟨rfl, by omega, ⟨by rw [strs_length]; omega, fun e => ?_, fun ad ha j u hu => ?_⟩, fun a ha => ?_⟩
  · have := h1.2.1 e; omega
  · refine h1.2.2 ad ha j u ?_
    have hj := (List.getElem?_eq_some_iff.1 hu).1
    rw [List.getElem?_append_left hj]; exact hu
  · obtain ⟨a0, h2, h3⟩ := from_block a ha
    rw [h3]; exact h.row a0 h2

theorem wordsL_append (a b : List Nd) : wordsL (a ++ b) = wordsL a ++ wordsL b := by
  induction a with
  | nil => simp [wordsL]
  | cons x l ih => simp [wordsL, ih]
mutual
def szN : Nd → Nat
  | .v _ => 1
  | .g _ b => 1 + szL b
def szL : List Nd → Nat
  | [] => 0
  | x :: l => szN x + szL l
end
theorem szL_append (a b : List Nd) : szL (a ++ b) = szL a + szL b := by
  induction a with
  | nil => simp [szL]
  | cons x l ih => simp [szL, ih]; omega
theorem not_word {W T : ByteArray} (l : List UInt8) (hT : T.toList = l) (h : W ≠ T) : (W.toList == l) = false ∧ (W.toList != l) = true := by
  have := bytes_beq W T
  rw [hT, decide_eq_false h] at this
  exact ⟨this, by rw [bne, this]; rfl⟩
theorem is_word {W T : ByteArray} (l : List UInt8) (hT : T.toList = l) (h : W = T) : (W.toList == l) = true ∧ (W.toList != l) = false := by
  have := bytes_beq W T
  rw [hT, decide_eq_true h] at this
  exact ⟨this, by rw [bne, this]; rfl⟩

theorem may_small (v : Nat) (hv : v < 96) (n : Int) (h : mayOf v n = true) : n ≤ 4294967296 := by
  have h1 := List.all_eq_true.1 (show (List.range 96).all (fun v => decide (mostOf (v : Int) ≤ 4294967296) && decide (greatestOf (v : Int) ≤ 4294967296)) = true from by kernel_rfl) v (List.mem_range.2 hv)
  simp only [Bool.and_eq_true, decide_eq_true_eq] at h1
  unfold mayOf at h
  simp only [Bool.and_eq_true, Bool.or_eq_true, decide_eq_true_eq] at h
  omega
theorem one_small (v : Nat) (hv : v < 96) (s : WS) : (oneS v s).1 ≤ 4294967296 := by
  unfold oneS
  split
  · show (0 : Int) ≤ 4294967296; decide
  · split
    · show (0 : Int) ≤ 4294967296; decide
    · by_cases h : mayOf v (fetch v s).1 = false
      · rw [if_pos h]; show (0 : Int) ≤ 4294967296; decide
      · rw [if_neg h]
        exact may_small v hv _ (by simpa using h)

set_option maxRecDepth 100000 in
set_option maxHeartbeats 8000000 in
theorem run_any : ∀ (N : Nat) (b : List Nd), szL b < N → goodL b = true → ∀ (base g : Nat) (s : WS) (w : World) (A : Option Addr) (n c k : Nat), WkAt base g w s → base ≤ w.heap.size → Inv s (k + c7 b) → n ≤ 1048576 → StrSl w A n c (wordsL b) →
    Calls Tryd.prog 69 #[.pointer (some ⟨g, 0, none⟩), .slice A n c] w fun e w' => e = .returned (.tuple #[]) ∧ WkAt base g w' (runL b 0 s) ∧ Fr base w w' := by
  intro N
  induction N with
  | zero => intro b h; exact absurd h (by omega)
  | succ N ih =>
    intro b hsz hgood base g s w A n c k hwk hB hinv hn hstr
    have IH := Lib.hid ih; clear ih
    obtain ⟨R, hR⟩ : ∃ R, runL b 0 s = R := ⟨_, rfl⟩
    rw [hR]
    have hlen := hstr.len
    have HW0 := Lib.hid hwk; have HS0 := Lib.hid hstr; have HI0 := Lib.hid hinv; have HG0 := Lib.hid hgood; have HR := Lib.hid hR; have HSZ := Lib.hid hsz; have HLEN := Lib.hid hlen
    clear hwk hstr hinv hgood hR hsz hlen
    go_enter Tryd.func69, Tryd.ntmps69
    go_wp2
    go_loopg [4, 5] n (fun kk lv iv wl => ∃ (done rest : List Nd) (last : Int) (s' : WS), b = done ++ rest ∧ (wordsL rest).length ≤ kk ∧ iv = .int .i64 (wordsL done).length ∧ lv = .int .i64 last ∧ last ≤ 4294967296 ∧ WkAt base g wl s' ∧ Fr base w wl ∧ Inv s' (k + c7 rest) ∧ goodL rest = true ∧ runL rest last s' = R)
    case atStart => exact ⟨[], b, 0, s, rfl, by rw [HLEN.out]; exact Nat.le_refl _, by simp [wordsL], rfl, by omega, HW0.out, Fr.refl _ _, HI0.out, HG0.out, HR.out⟩
    case round =>
      obtain ⟨done, rest, last, s', hb, hkk, rfl, rfl, hlast, hwk, hfr, hinv, hgood, hrun⟩ := hrel
      obtain ⟨w1, hw1⟩ : ∃ w1, w1 = wr := ⟨_, rfl⟩
      subst hw1
      obtain ⟨g1, hg1⟩ : ∃ g1, g1 = gk := ⟨_, rfl⟩
      subst hg1
      have hwl : wordsL b = wordsL done ++ wordsL rest := by rw [hb, wordsL_append]
      have hnl : n = (wordsL done).length + (wordsL rest).length := by rw [← HLEN.out, hwl, List.length_append]
      have HB := Lib.hid hb; have HFR := Lib.hid hfr; have HINV := Lib.hid hinv; have HGD := Lib.hid hgood; have HRUN := Lib.hid hrun; have HWK := Lib.hid hwk; have HWL := Lib.hid hwl
      clear hb hfr hinv hgood hrun hwl
      have hB1 : base ≤ w1.heap.size := Nat.le_trans hB HFR.out.size
      obtain ⟨hg, AV, nV, cV, AB, nB, cB, AO, nO, cO, AG, nG, cG, hh, hr⟩ := hwk
      have q5 : w1.cell? ⟨g, 5, none⟩ = some (.int .i64 s'.e) := hh.cell 5
      clear hh hr
      have HS1 := Lib.hid (HS0.out.keep HFR.out.k)
      obtain ⟨i, hi⟩ : ∃ i, (wordsL done).length = i := ⟨_, rfl⟩
      rw [hi] at hnl ⊢
      have HI := Lib.hid hi; clear hi
      cases rest with
      | nil =>
        have hin : ¬ (i : Int) < n := by simp [wordsL] at hnl; omega
        clear hnl
        have hR2 : R = s' := by have := HRUN.out; simp only [runL] at this; exact this.symm
        subst hR2
        go_wp2
        refine bodyPost_end (results_none rfl _ _ _) rfl ?_
        exact ⟨rfl, HWK.out, HFR.out⟩
      | cons x l =>
        have hx1 : 0 < (wordsN x).length := by cases x <;> simp [wordsN]
        have hk1 : 1 ≤ g1 ∧ (wordsL l).length ≤ g1 - 1 := by
          rw [show (wordsL (x :: l)).length = (wordsN x).length + (wordsL l).length by simp [wordsL]] at hkk
          omega
        obtain ⟨hk1, hk2⟩ := hk1
        clear hkk
        have hnl2 : n = i + ((wordsN x).length + (wordsL l).length) := by rw [hnl]; simp [wordsL]
        have hin : (i : Int) < n := by omega
        have hi0 : (0 : Int) ≤ i := by omega
        obtain ⟨sb, soff, rfl, hcell⟩ := HS1.out.slw.at_ (j := i) (by omega)
        have HNL := Lib.hid hnl2
        clear hnl hnl2
        by_cases he : s'.e = 0
        · have hee : (s'.e == 0) = true := by rw [he]; rfl
          have hrun := HRUN.out
          simp only [runL] at hrun
          rw [if_neg (by simp [he])] at hrun
          have hinv := HINV.out
          have hgood := HGD.out
          simp only [goodL, Bool.and_eq_true] at hgood
          have hW : (wordsL b).getD i ⟨#[]⟩ = (wordsN x ++ wordsL l).getD 0 ⟨#[]⟩ := by
            rw [HWL.out, ← HI.out]
            simp only [wordsL]
            rw [List.getD_eq_getElem?_getD, List.getElem?_append_right (Nat.le_refl _), Nat.sub_self, ← List.getD_eq_getElem?_getD]
          clear he HRUN HINV HGD
          cases x with
          | v m =>
            have hm : m < 96 := by simpa [goodN] using hgood.1
            have hW2 : (wordsL b).getD i ⟨#[]⟩ = nameV m := by rw [hW]; simp [wordsN, List.getD_eq_getElem?_getD]
            rw [hW2] at hcell
            obtain ⟨p1, p2⟩ := name_plain m
            simp only [isOpen, Bool.or_eq_false_iff, decide_eq_false_iff_not] at p1
            obtain ⟨f1, f1'⟩ := not_word [123] (by kernel_rfl) p1.1.1
            obtain ⟨f2, f2'⟩ := not_word [60] (by kernel_rfl) p1.1.2
            obtain ⟨f3, f3'⟩ := not_word [40, 49, 50] (by kernel_rfl) p1.2
            have hrN : runN (.v m) last s' = oneS m s' := by simp only [runN]
            have hiN := inv_runN (.v m) l last s' k (by simp [goodN, hm]) hinv
            rw [hrN] at hrun hiN
            have cf := ref_find (nameV m)
            rw [find_name m hm] at cf
            have HRN := Lib.hid hrun; have HIN := Lib.hid hiN; have HCF := Lib.hid cf; have HGL := Lib.hid hgood.2; have HI2 := Lib.hid (inv_less hinv (Nat.le_add_right _ _ : k ≤ k + c7 (.v m :: l)))
            clear hrun hiN hrN cf hinv hgood hW hW2 p1 p2
            generalize nameV m = W at *
            go_wp2_with fail
            refine (HCF.out _).mono ?_
            rintro e w2 ⟨rfl, b2⟩
            have HF2 := Lib.hid (fr_call b2 hB1)
            have hB2 : base ≤ w2.heap.size := Nat.le_trans hB1 b2.size
            have hwk2 : WkAt base g w2 s' := by
              obtain ⟨hg, AV, nV, cV, AB, nB, cB, AO, nO, cO, AG, nG, cG, hh, hr⟩ := HWK.out
              exact ⟨hg, AV, nV, cV, AB, nB, cB, AO, nO, cO, AG, nG, cG, hh.under b2 hh.lt, hr.under b2 hB1⟩
            have c2 := one_any base g m hm s' w2 k hwk2 hB2 HI2.out
            clear b2 hwk2
            go_wp2_with fail
            refine c2.mono ?_
            clear c2
            rintro e w3 ⟨rfl, hwk3, hf3⟩
            have HWK3 := Lib.hid hwk3; have HF3 := Lib.hid (HF2.out.trans hf3)
            clear hwk3 hf3
            go_wp2
            go_roundg (g1 - 1)
            case measure => omega
            case rel => exact ⟨done ++ [.v m], l, (oneS m s').1, (oneS m s').2, by rw [HB.out]; simp, hk2, by rw [wordsL_append, List.length_append, HI.out]; simp [wordsL, wordsN], rfl, one_small m hm s', HWK3.out, HFR.out.trans HF3.out, HIN.out, HGL.out, HRN.out⟩
          | g kk body =>
            have hgx := hgood.1
            simp only [goodN, Bool.and_eq_true, decide_eq_true_eq] at hgx
            obtain ⟨hk3, hgb, hnb⟩ := hgx
            have hW2 : (wordsL b).getD i ⟨#[]⟩ = openW kk := by rw [hW]; simp [wordsN, List.getD_eq_getElem?_getD]
            rw [hW2] at hcell
            have hsplit : wordsL b = wordsL done ++ wordsN (.g kk body) ++ wordsL l := by rw [HWL.out]; simp [wordsL]
            have hcl := close_group kk body (wordsL done) (wordsL l) n (by rw [← hsplit, HLEN.out])
            rw [← hsplit, HI.out] at hcl
            have cc := closing_any (some ⟨sb, soff, none⟩) n c (wordsL b) i (by omega) hn w1 HS1.out.slw
            rw [hcl] at cc
            obtain ⟨en, hen⟩ : ∃ en, i + 1 + (wordsL body).length = en := ⟨_, rfl⟩
            rw [hen] at cc
            have hnl3 := HNL.out
            rw [show (wordsN (.g kk body)).length = (wordsL body).length + 2 by simp [wordsN]] at hnl3
            have hen2 : en + 1 ≤ n := by omega
            have hie : i + 1 ≤ en := by omega
            have hstr2 : StrSl w1 (some ⟨sb, soff, none⟩) n c ((wordsL done ++ [openW kk]) ++ wordsL body ++ (closeW kk :: wordsL l)) := by
              have h0 := HS1.out
              rw [hsplit] at h0
              simpa [wordsN] using h0
            have hpart := hstr2.part
            have hcap := hstr2.cap
            rw [List.length_append, List.length_singleton, HI.out] at hpart
            have hbl : (wordsL body).length = en - (i + 1) := by omega
            rw [hbl] at hpart
            obtain ⟨Ab, hAb⟩ : ∃ Ab, (if c = i + 1 then some (⟨sb, soff, none⟩ : Addr) else (some (⟨sb, soff, none⟩ : Addr)).map (·.add ((i + 1) * 1))) = Ab := ⟨_, rfl⟩
            have e1 : ∀ w, (Instr.sliceAt 63 (.slice (some ⟨sb, soff, none⟩) n c) (some (.int .i64 ((i : Int) + 1))) (some (.int .i64 (en : Nat))) none).run Tryd.prog w = .ok (.slice Ab (en - (i + 1)) (c - (i + 1))) w := by
              intro w
              have := cut_both 63 9 Tryd.underlying63 (by kernel_rfl) (by kernel_rfl) (some ⟨sb, soff, none⟩) n c (i + 1) en (by omega) (by omega) w
              rw [hAb] at this
              exact this
            rw [hAb] at hpart
            have hszb : szL body < N := by
              have h0 := HSZ.out
              rw [HB.out, szL_append] at h0
              simp only [szL, szN] at h0
              omega
            have hc70 := noL_c7 body hnb
            have hrN : runN (.g kk body) last s' = (last, repS (fun s => runL body 0 s) (many kk last) s') := by simp only [runN]
            have hinv2 : Inv s' (k + c7 l) := by have := hinv; rwa [show c7 (.g kk body :: l) = c7 l by rw [c7]] at this
            rw [hrN] at hrun
            obtain ⟨M, hMn⟩ : ∃ M, M = many kk last := ⟨_, rfl⟩
            rw [← hMn] at hrun
            have hfin : (wordsL (done ++ [.g kk body])).length = en + 1 := by rw [wordsL_append, List.length_append, HI.out]; simp [wordsL, wordsN]; omega
            have HMN := Lib.hid hMn; have HRN := Lib.hid hrun; have HCC := Lib.hid cc; have HGL := Lib.hid hgood.2; have HIV := Lib.hid hinv2; have HPT := Lib.hid hpart; have HZB := Lib.hid hszb; have HGB := Lib.hid hgb; have HC7 := Lib.hid hc70; have HFIN := Lib.hid hfin; have HEN := Lib.hid hen2; have HIE := Lib.hid hie
            have hen0 : (0 : Int) ≤ en := by omega
            have hen9 : (en : Int) ≤ 1048576 := by omega
            clear hMn hrun cc hgood hinv hinv2 hpart hszb hgb hnb hc70 hrN hfin hW hW2 hsplit hcl hstr2 hbl hAb hnl3 hen2 hie hcap
            obtain rfl | rfl | rfl : kk = 0 ∨ kk = 1 ∨ kk = 2 := by omega
            · obtain ⟨f1, f1'⟩ := is_word [123] (by kernel_rfl) (show (openW 0) = ⟨#[123]⟩ from rfl)
              go_wp2_with fail
              refine HCC.out.mono ?_
              rintro e w' ⟨rfl, rfl⟩
              go_upto_if 55 with fail
              go_cut [7] (fun m7 wx => ∃ mv : Int, m7 = .int .i64 mv ∧ mv.toNat = M ∧ mv ≤ 4294967296 ∧ wx = w1)
              case first =>
                go_wp2
                go_meet
                exact ⟨last, rfl, by rw [HMN.out]; simp [many], hlast, rfl⟩
              case rest =>
                obtain ⟨mv, rfl, hmv, hmv9, hwx⟩ := hcut
                subst hwx
                go_wp2_with fail
                go_loopg [8] M (fun kq jv wl => ∃ (j : Nat) (s2 : WS), j ≤ M ∧ M - j ≤ kq ∧ jv = .int .i64 j ∧ WkAt base g wl s2 ∧ Fr base wc wl ∧ Inv s2 (k + c7 l) ∧ repS (fun s => runL body 0 s) (M - j) s2 = repS (fun s => runL body 0 s) M s')
                case atStart => exact ⟨0, s', by omega, by omega, rfl, HWK.out, Fr.refl _ _, HIV.out, rfl⟩
                case round =>
                  obtain ⟨j, s2, hj, hjq, rfl, hwk2, hf2, hi2, hrep⟩ := hrel
                  have HWK2 := Lib.hid hwk2; have HF2 := Lib.hid hf2; have HI2 := Lib.hid hi2; have HREP := Lib.hid hrep
                  obtain ⟨_, AV2, nV2, cV2, AB2, nB2, cB2, AO2, nO2, cO2, AG2, nG2, cG2, hh2, _⟩ := hwk2
                  have r5 : wr.cell? ⟨g, 5, none⟩ = some (.int .i64 s2.e) := hh2.cell 5
                  have hB2 : base ≤ wr.heap.size := Nat.le_trans hB1 hf2.size
                  clear hh2 hf2 hi2 hrep
                  have hexit : (j = M ∨ s2.e ≠ 0) → runL l last s2 = R := by
                    intro h
                    have h0 := HRN.out
                    have h1 : repS (fun s => runL body 0 s) (M - j) s2 = s2 := by
                      rcases h with h | h
                      · rw [h, Nat.sub_self]; rfl
                      · cases M - j with
                        | zero => rfl
                        | succ q => rw [repS, if_pos h]
                    rw [← HREP.out, h1] at h0
                    exact h0
                  have HEX := Lib.hid hexit; clear hexit
                  by_cases hjM : j < M
                  · have hjm : (j : Int) < mv := by omega
                    by_cases he2 : s2.e = 0
                    · have hee2 : (s2.e == 0) = true := by rw [he2]; rfl
                      have c3 := IH.out body HZB.out HGB.out base g s2 wr Ab (en - (i + 1)) (c - (i + 1)) (k + c7 l) HWK2.out hB2 (by rw [HC7.out]; exact HI2.out) (by have := HEN.out; omega) (HPT.out.keep HF2.out.k)
                      have HE2 := Lib.hid he2; clear he2
                      have C3 := Lib.hid c3; clear c3
                      go_wp2_with fail
                      refine C3.out.mono ?_
                      rintro e w4 ⟨rfl, hwk4, hf4⟩
                      have HWK4 := Lib.hid hwk4; have HF4 := Lib.hid (HF2.out.trans hf4)
                      clear hwk4 hf4
                      go_wp2
                      go_roundg (gk - 1)
                      case measure => omega
                      case rel =>
                        refine ⟨j + 1, runL body 0 s2, by omega, by omega, by go_num, HWK4.out, HF4.out, inv_runL body 0 s2 _ HGB.out (by rw [HC7.out]; exact HI2.out), ?_⟩
                        rw [← HREP.out, show M - j = (M - (j + 1)) + 1 by omega]
                        conv => rhs; rw [repS, if_neg (by simp [HE2.out])]
                    · have hee2 : (s2.e == 0) = false := by rw [beq_eq_false_iff_ne]; exact he2
                      have HX := Lib.hid (HEX.out (.inr he2)); clear he2
                      go_wp2
                      go_roundg (g1 - 1)
                      case measure => omega
                      case rel => exact ⟨done ++ [.g 0 body], l, last, s2, by rw [HB.out]; simp, hk2, by rw [HFIN.out]; go_num, rfl, hlast, HWK2.out, HFR.out.trans HF2.out, HI2.out, HGL.out, HX.out⟩
                  · have hjm : ¬ (j : Int) < mv := by omega
                    have HX := Lib.hid (HEX.out (.inl (by omega)))
                    go_wp2
                    go_roundg (g1 - 1)
                    case measure => omega
                    case rel => exact ⟨done ++ [.g 0 body], l, last, s2, by rw [HB.out]; simp, hk2, by rw [HFIN.out]; go_num, rfl, hlast, HWK2.out, HFR.out.trans HF2.out, HI2.out, HGL.out, HX.out⟩
            · obtain ⟨f1, f1'⟩ := not_word (W := openW 1) [123] (T := ⟨#[123]⟩) (by kernel_rfl) (by decide)
              obtain ⟨f2, f2'⟩ := is_word [60] (by kernel_rfl) (show (openW 1) = ⟨#[60]⟩ from rfl)
              obtain ⟨f3, f3'⟩ := not_word (W := openW 1) [40, 49, 50] (T := ⟨#[40, 49, 50]⟩) (by kernel_rfl) (by decide)
              go_wp2_with fail
              refine HCC.out.mono ?_
              rintro e w' ⟨rfl, rfl⟩
              go_upto_if 55 with fail
              go_cut [7] (fun m7 wx => ∃ mv : Int, m7 = .int .i64 mv ∧ mv.toNat = M ∧ mv ≤ 4294967296 ∧ wx = w1)
              case first =>
                by_cases h1 : last = 1
                · have h11 : (last == 1) = true := by simp [h1]
                  have hm1 : (1 : Int).toNat = M := by rw [HMN.out, many, if_neg (by decide), if_pos h1]; rfl
                  have HM1 := Lib.hid hm1; clear hm1 h1
                  go_wp2
                  go_meet
                  exact ⟨1, rfl, HM1.out, by omega, rfl⟩
                · have h11 : (last == 1) = false := by simp [h1]
                  have hm1 : (0 : Int).toNat = M := by rw [HMN.out, many, if_neg (by decide), if_neg h1, if_neg (fun q => absurd q.1 (by decide))]; rfl
                  have HM1 := Lib.hid hm1; clear hm1 h1
                  go_wp2
                  go_meet
                  exact ⟨0, rfl, HM1.out, by omega, rfl⟩
              case rest =>
                obtain ⟨mv, rfl, hmv, hmv9, hwx⟩ := hcut
                subst hwx
                go_wp2_with fail
                go_loopg [8] M (fun kq jv wl => ∃ (j : Nat) (s2 : WS), j ≤ M ∧ M - j ≤ kq ∧ jv = .int .i64 j ∧ WkAt base g wl s2 ∧ Fr base wc wl ∧ Inv s2 (k + c7 l) ∧ repS (fun s => runL body 0 s) (M - j) s2 = repS (fun s => runL body 0 s) M s')
                case atStart => exact ⟨0, s', by omega, by omega, rfl, HWK.out, Fr.refl _ _, HIV.out, rfl⟩
                case round =>
                  obtain ⟨j, s2, hj, hjq, rfl, hwk2, hf2, hi2, hrep⟩ := hrel
                  have HWK2 := Lib.hid hwk2; have HF2 := Lib.hid hf2; have HI2 := Lib.hid hi2; have HREP := Lib.hid hrep
                  obtain ⟨_, AV2, nV2, cV2, AB2, nB2, cB2, AO2, nO2, cO2, AG2, nG2, cG2, hh2, _⟩ := hwk2
                  have r5 : wr.cell? ⟨g, 5, none⟩ = some (.int .i64 s2.e) := hh2.cell 5
                  have hB2 : base ≤ wr.heap.size := Nat.le_trans hB1 hf2.size
                  clear hh2 hf2 hi2 hrep
                  have hexit : (j = M ∨ s2.e ≠ 0) → runL l last s2 = R := by
                    intro h
                    have h0 := HRN.out
                    have h1 : repS (fun s => runL body 0 s) (M - j) s2 = s2 := by
                      rcases h with h | h
                      · rw [h, Nat.sub_self]; rfl
                      · cases M - j with
                        | zero => rfl
                        | succ q => rw [repS, if_pos h]
                    rw [← HREP.out, h1] at h0
                    exact h0
                  have HEX := Lib.hid hexit; clear hexit
                  by_cases hjM : j < M
                  · have hjm : (j : Int) < mv := by omega
                    by_cases he2 : s2.e = 0
                    · have hee2 : (s2.e == 0) = true := by rw [he2]; rfl
                      have c3 := IH.out body HZB.out HGB.out base g s2 wr Ab (en - (i + 1)) (c - (i + 1)) (k + c7 l) HWK2.out hB2 (by rw [HC7.out]; exact HI2.out) (by have := HEN.out; omega) (HPT.out.keep HF2.out.k)
                      have HE2 := Lib.hid he2; clear he2
                      have C3 := Lib.hid c3; clear c3
                      go_wp2_with fail
                      refine C3.out.mono ?_
                      rintro e w4 ⟨rfl, hwk4, hf4⟩
                      have HWK4 := Lib.hid hwk4; have HF4 := Lib.hid (HF2.out.trans hf4)
                      clear hwk4 hf4
                      go_wp2
                      go_roundg (gk - 1)
                      case measure => omega
                      case rel =>
                        refine ⟨j + 1, runL body 0 s2, by omega, by omega, by go_num, HWK4.out, HF4.out, inv_runL body 0 s2 _ HGB.out (by rw [HC7.out]; exact HI2.out), ?_⟩
                        rw [← HREP.out, show M - j = (M - (j + 1)) + 1 by omega]
                        conv => rhs; rw [repS, if_neg (by simp [HE2.out])]
                    · have hee2 : (s2.e == 0) = false := by rw [beq_eq_false_iff_ne]; exact he2
                      have HX := Lib.hid (HEX.out (.inr he2)); clear he2
                      go_wp2
                      go_roundg (g1 - 1)
                      case measure => omega
                      case rel => exact ⟨done ++ [.g 1 body], l, last, s2, by rw [HB.out]; simp, hk2, by rw [HFIN.out]; go_num, rfl, hlast, HWK2.out, HFR.out.trans HF2.out, HI2.out, HGL.out, HX.out⟩
                  · have hjm : ¬ (j : Int) < mv := by omega
                    have HX := Lib.hid (HEX.out (.inl (by omega)))
                    go_wp2
                    go_roundg (g1 - 1)
                    case measure => omega
                    case rel => exact ⟨done ++ [.g 1 body], l, last, s2, by rw [HB.out]; simp, hk2, by rw [HFIN.out]; go_num, rfl, hlast, HWK2.out, HFR.out.trans HF2.out, HI2.out, HGL.out, HX.out⟩
            · obtain ⟨f1, f1'⟩ := not_word (W := openW 2) [123] (T := ⟨#[123]⟩) (by kernel_rfl) (by decide)
              obtain ⟨f2, f2'⟩ := not_word (W := openW 2) [60] (T := ⟨#[60]⟩) (by kernel_rfl) (by decide)
              obtain ⟨f3, f3'⟩ := is_word [40, 49, 50] (by kernel_rfl) (show (openW 2) = ⟨#[40, 49, 50]⟩ from rfl)
              go_wp2_with fail
              refine HCC.out.mono ?_
              rintro e w' ⟨rfl, rfl⟩
              go_upto_if 55 with fail
              go_cut [7] (fun m7 wx => ∃ mv : Int, m7 = .int .i64 mv ∧ mv.toNat = M ∧ mv ≤ 4294967296 ∧ wx = w1)
              case first =>
                by_cases h1 : last = 1
                · have h11 : (last == 1) = true := by simp [h1]
                  have hm1 : (1 : Int).toNat = M := by rw [HMN.out, many, if_neg (by decide), if_pos h1]; rfl
                  have HM1 := Lib.hid hm1; clear hm1 h1
                  go_wp2
                  go_meet
                  exact ⟨1, rfl, HM1.out, by omega, rfl⟩
                · have h11 : (last == 1) = false := by simp [h1]
                  by_cases h2 : last = 2
                  · have h21 : (last == 2) = true := by simp [h2]
                    have hm1 : (1 : Int).toNat = M := by rw [HMN.out, many, if_neg (by decide), if_neg h1, if_pos ⟨rfl, h2⟩]; rfl
                    have HM1 := Lib.hid hm1; clear hm1 h1 h2
                    go_wp2
                    go_meet
                    exact ⟨1, rfl, HM1.out, by omega, rfl⟩
                  · have h21 : (last == 2) = false := by simp [h2]
                    have hm1 : (0 : Int).toNat = M := by rw [HMN.out, many, if_neg (by decide), if_neg h1, if_neg (fun q => h2 q.2)]; rfl
                    have HM1 := Lib.hid hm1; clear hm1 h1 h2
                    go_wp2
                    go_meet
                    exact ⟨0, rfl, HM1.out, by omega, rfl⟩
              case rest =>
                obtain ⟨mv, rfl, hmv, hmv9, hwx⟩ := hcut
                subst hwx
                go_wp2_with fail
                go_loopg [8] M (fun kq jv wl => ∃ (j : Nat) (s2 : WS), j ≤ M ∧ M - j ≤ kq ∧ jv = .int .i64 j ∧ WkAt base g wl s2 ∧ Fr base wc wl ∧ Inv s2 (k + c7 l) ∧ repS (fun s => runL body 0 s) (M - j) s2 = repS (fun s => runL body 0 s) M s')
                case atStart => exact ⟨0, s', by omega, by omega, rfl, HWK.out, Fr.refl _ _, HIV.out, rfl⟩
                case round =>
                  obtain ⟨j, s2, hj, hjq, rfl, hwk2, hf2, hi2, hrep⟩ := hrel
                  have HWK2 := Lib.hid hwk2; have HF2 := Lib.hid hf2; have HI2 := Lib.hid hi2; have HREP := Lib.hid hrep
                  obtain ⟨_, AV2, nV2, cV2, AB2, nB2, cB2, AO2, nO2, cO2, AG2, nG2, cG2, hh2, _⟩ := hwk2
                  have r5 : wr.cell? ⟨g, 5, none⟩ = some (.int .i64 s2.e) := hh2.cell 5
                  have hB2 : base ≤ wr.heap.size := Nat.le_trans hB1 hf2.size
                  clear hh2 hf2 hi2 hrep
                  have hexit : (j = M ∨ s2.e ≠ 0) → runL l last s2 = R := by
                    intro h
                    have h0 := HRN.out
                    have h1 : repS (fun s => runL body 0 s) (M - j) s2 = s2 := by
                      rcases h with h | h
                      · rw [h, Nat.sub_self]; rfl
                      · cases M - j with
                        | zero => rfl
                        | succ q => rw [repS, if_pos h]
                    rw [← HREP.out, h1] at h0
                    exact h0
                  have HEX := Lib.hid hexit; clear hexit
                  by_cases hjM : j < M
                  · have hjm : (j : Int) < mv := by omega
                    by_cases he2 : s2.e = 0
                    · have hee2 : (s2.e == 0) = true := by rw [he2]; rfl
                      have c3 := IH.out body HZB.out HGB.out base g s2 wr Ab (en - (i + 1)) (c - (i + 1)) (k + c7 l) HWK2.out hB2 (by rw [HC7.out]; exact HI2.out) (by have := HEN.out; omega) (HPT.out.keep HF2.out.k)
                      have HE2 := Lib.hid he2; clear he2
                      have C3 := Lib.hid c3; clear c3
                      go_wp2_with fail
                      refine C3.out.mono ?_
                      rintro e w4 ⟨rfl, hwk4, hf4⟩
                      have HWK4 := Lib.hid hwk4; have HF4 := Lib.hid (HF2.out.trans hf4)
                      clear hwk4 hf4
                      go_wp2
                      go_roundg (gk - 1)
                      case measure => omega
                      case rel =>
                        refine ⟨j + 1, runL body 0 s2, by omega, by omega, by go_num, HWK4.out, HF4.out, inv_runL body 0 s2 _ HGB.out (by rw [HC7.out]; exact HI2.out), ?_⟩
                        rw [← HREP.out, show M - j = (M - (j + 1)) + 1 by omega]
                        conv => rhs; rw [repS, if_neg (by simp [HE2.out])]
                    · have hee2 : (s2.e == 0) = false := by rw [beq_eq_false_iff_ne]; exact he2
                      have HX := Lib.hid (HEX.out (.inr he2)); clear he2
                      go_wp2
                      go_roundg (g1 - 1)
                      case measure => omega
                      case rel => exact ⟨done ++ [.g 2 body], l, last, s2, by rw [HB.out]; simp, hk2, by rw [HFIN.out]; go_num, rfl, hlast, HWK2.out, HFR.out.trans HF2.out, HI2.out, HGL.out, HX.out⟩
                  · have hjm : ¬ (j : Int) < mv := by omega
                    have HX := Lib.hid (HEX.out (.inl (by omega)))
                    go_wp2
                    go_roundg (g1 - 1)
                    case measure => omega
                    case rel => exact ⟨done ++ [.g 2 body], l, last, s2, by rw [HB.out]; simp, hk2, by rw [HFIN.out]; go_num, rfl, hlast, HWK2.out, HFR.out.trans HF2.out, HI2.out, HGL.out, HX.out⟩
        · have hee : (s'.e == 0) = false := by rw [beq_eq_false_iff_ne]; exact he
          have hR2 : R = s' := by have := HRUN.out; simp only [runL] at this; rw [if_pos he] at this; exact this.symm
          subst hR2
          clear hcell he
          go_wp2
          refine bodyPost_end (results_none rfl _ _ _) rfl ?_
          exact ⟨rfl, HWK.out, HFR.out⟩
end Go.Proofs.YtamnhnleipnhdaaDoor

/-
  A slice of numbers and widths; linesideref05.Total.
-/
namespace Go.Proofs.YtamnhnleipnhdaaDoor

open Go.RowKit

/-- A slice that holds these numbers and widths. -/
structure SlP (w : World) (A : Option Addr) (m c : Nat) (l : List (Int × Int)) : Prop where
  len : l.length = m
  sl : Sl w 2 A m c (pairs l)
theorem SlP.under {w w' : World} {A : Option Addr} {m c : Nat} {l : List (Int × Int)} (h : SlP w A m c l) (hb : Below w.heap.size w w') : SlP w' A m c l := ⟨h.len, h.sl.under hb⟩
theorem pairs_length (l : List (Int × Int)) : (pairs l).length = l.length * 2 := by
  induction l with
  | nil => rfl
  | cons x l ih =>
    have e : pairs (x :: l) = .int .i64 x.1 :: .int .i64 x.2 :: pairs l := rfl
    rw [e, List.length_cons, List.length_cons, ih, List.length_cons]; omega
theorem pairs_at : ∀ (l : List (Int × Int)) (j : Nat), j < l.length → (pairs l)[j * 2]? = some (.int .i64 (l.getD j (0, 0)).1) ∧ (pairs l)[j * 2 + 1]? = some (.int .i64 (l.getD j (0, 0)).2)
  | [], j, h => absurd h (by simp)
  | x :: l, 0, _ => ⟨rfl, rfl⟩
  | x :: l, j + 1, h => by
    have e : pairs (x :: l) = .int .i64 x.1 :: .int .i64 x.2 :: pairs l := rfl
    have ih := pairs_at l j (by simpa using h)
    rw [e, show (j + 1) * 2 = j * 2 + 1 + 1 by omega, List.getElem?_cons_succ, List.getElem?_cons_succ, List.getElem?_cons_succ, List.getElem?_cons_succ]
    exact ih
theorem SlP.at_ {w : World} {A : Option Addr} {m c : Nat} {l : List (Int × Int)} (h : SlP w A m c l) {j : Nat} (hj : j < m) :
    ∃ b off, A = some ⟨b, off, none⟩ ∧ w.cell? ⟨b, off + j * 2, none⟩ = some (.int .i64 (l.getD j (0, 0)).1) ∧ w.cell? ⟨b, off + j * 2 + 1, none⟩ = some (.int .i64 (l.getD j (0, 0)).2) := by
  obtain ⟨p1, p2⟩ := pairs_at l j (by have := h.len; omega)
  obtain ⟨b, off, e, h1⟩ := h.sl.at_ p1
  obtain ⟨b', off', e', h2⟩ := h.sl.at_ p2
  subst e
  simp only [Option.some.injEq, Addr.mk.injEq, and_true] at e'
  obtain ⟨rfl, rfl⟩ := e'
  exact ⟨b, off, rfl, h1, by rw [Nat.add_assoc]; exact h2⟩
def totalOf (l : List (Int × Int)) : Int := l.foldl (fun n x => n + x.2) 0
theorem total_snoc (l : List (Int × Int)) (x : Int × Int) : totalOf (l ++ [x]) = totalOf l + x.2 := by simp [totalOf]
theorem total_step (l : List (Int × Int)) (j : Nat) (h : j < l.length) : totalOf (l.take (j + 1)) = totalOf (l.take j) + (l.getD j (0, 0)).2 := by
  rw [List.take_succ_eq_append_getElem h, total_snoc]
  simp [List.getD_eq_getElem?_getD, List.getElem?_eq_getElem h]

set_option maxHeartbeats 2000000 in
theorem total_any (A : Option Addr) (m c : Nat) (l : List (Int × Int)) (w : World) (hl : SlP w A m c l) (hm : m ≤ 1048576) (hw : ∀ x ∈ l, 0 ≤ x.2 ∧ x.2 ≤ 64) :
    Calls Tryd.prog 39 #[.slice A m c] w fun e w' => e = .returned (.int .i64 (totalOf l)) ∧ w = w' := by
  have hlen := hl.len
  obtain ⟨R, hR⟩ : ∃ R, totalOf l = R := ⟨_, rfl⟩
  rw [hR]
  have HL := Lib.hid hl; have HW := Lib.hid hw; have HR := Lib.hid hR; clear hl hw hR
  go_enter Tryd.func39, Tryd.ntmps39
  go_wp2
  go_loop [3, 4] (fun nv iv => ∃ (j : Nat) (t : Int), j ≤ m ∧ iv = .int .i64 j ∧ nv = .int .i64 t ∧ totalOf (l.take j) = t ∧ 0 ≤ t ∧ t ≤ 64 * (j : Int)) (fun _ iv => m - (intOf iv).toNat)
  case atStart => exact ⟨0, 0, by omega, rfl, rfl, rfl, by omega, by omega⟩
  case round =>
    obtain ⟨j, t, hj, rfl, rfl, ht, h0, h1⟩ := hrel
    have HT := Lib.hid ht; clear ht
    by_cases hlt : j < m
    · obtain ⟨b, off, rfl, hc1, hc2⟩ := HL.out.at_ hlt
      have hjl : j < l.length := by omega
      have hb := HW.out (l.getD j (0, 0)) (by rw [List.getD_eq_getElem?_getD, List.getElem?_eq_getElem hjl]; exact List.getElem_mem hjl)
      have hst := total_step l j hjl
      rw [HT.out] at hst
      generalize (l.getD j (0, 0)).2 = x at *
      have HST := Lib.hid hst; clear hst hc1 hjl
      have x0 : (0 : Int) ≤ j := by omega
      have x1 : (j : Int) < m := by omega
      obtain ⟨b0, b1⟩ := hb
      go_wp2
      go_round
      case rel => exact ⟨j + 1, t + x, by omega, by go_num, by go_num, HST.out, by omega, by omega⟩
      case measure => simp [intOf]; omega
    · obtain rfl : j = m := by omega
      have e : l.take j = l := by rw [← hlen, List.take_length]
      have ht := HT.out
      rw [e, HR.out] at ht
      subst ht
      go_wp2
      go_ret
      exact ⟨rfl, rfl⟩
end Go.Proofs.YtamnhnleipnhdaaDoor

/-
  linesideref05: Ints, Up.
-/
namespace Go.Proofs.YtamnhnleipnhdaaDoor

open Go.RowKit

/-- A slice that holds these integers, wherever it lies. -/
structure SlN (w : World) (A : Option Addr) (m c : Nat) (l : List Int) : Prop where
  len : l.length = m
  sl : Sl w 1 A m c (ints l)
theorem SlN.under {w w' : World} {A : Option Addr} {m c : Nat} {l : List Int} (h : SlN w A m c l) (hb : Below w.heap.size w w') : SlN w' A m c l := ⟨h.len, h.sl.under hb⟩
theorem SlN.draws {w : World} {A : Option Addr} {m c : Nat} {l : List Int} (h : SlN w A m c l) (n : Nat) : SlN (w.drewN n) A m c l := ⟨h.len, h.sl.draws n⟩
theorem ints_at {l : List Int} {j : Nat} (h : j < l.length) : (ints l)[j]? = some (.int .i64 (l.getD j 0)) := by
  simp [ints, List.getD_eq_getElem?_getD, List.getElem?_eq_getElem h]
theorem SlN.at_ {w : World} {A : Option Addr} {m c : Nat} {l : List Int} (h : SlN w A m c l) {j : Nat} (hj : j < m) : ∃ b off, A = some ⟨b, off, none⟩ ∧ w.cell? ⟨b, off + j, none⟩ = some (.int .i64 (l.getD j 0)) :=
  h.sl.at_ (ints_at (by have := h.len; omega))
theorem list_eq {α : Type} (d : α) {l k : List α} (h1 : l.length = k.length) (h2 : ∀ t, t < l.length → l.getD t d = k.getD t d) : l = k := by
  apply List.ext_getElem h1
  intro i hi hk
  have := h2 i hi
  simpa [List.getD_eq_getElem?_getD, List.getElem?_eq_getElem hi, List.getElem?_eq_getElem hk] using this

set_option maxRecDepth 100000 in
set_option maxHeartbeats 2000000 in
theorem ints_any (A B : Option Addr) (n c m d : Nat) (l k : List Int) (w : World) (hl : SlN w A n c l) (hk : SlN w B m d k) (hn : n ≤ 1048576) (hm : m ≤ 1048576) :
    Calls Tryd.prog 50 #[.slice A n c, .slice B m d] w fun e w' => e = .returned (.bool (decide (l = k))) ∧ ∃ q, w' = w.drewN q := by
  have hll := hl.len
  have hkl := hk.len
  by_cases hnm : n = m
  · subst hnm
    have hne : ((n : Int) != (n : Int)) = false := by simp
    have HL := Lib.hid hl; have HK := Lib.hid hk; clear hl hk
    have hB : ∀ b, decide (l = k) = b → decide (l = k) = b := fun _ h => h
    obtain ⟨R, hR⟩ : ∃ R, decide (l = k) = R := ⟨_, rfl⟩
    rw [hR]
    have HR := Lib.hid hR; clear hR hB
    go_enter Tryd.func50, Tryd.ntmps50
    go_wp2
    go_loopg [5] n (fun kk i wl => ∃ j : Nat, j ≤ n ∧ n - j ≤ kk ∧ i = .int .i64 j ∧ (∀ t, t < j → l.getD t 0 = k.getD t 0) ∧ ∃ q, wl = w.drewN q)
    case atStart => exact ⟨0, by omega, by omega, rfl, fun t h => absurd h (by omega), 0, rfl⟩
    case round =>
      obtain ⟨j, hj, hjk, rfl, hs, q, hq⟩ := hrel
      have hl := HL.out.draws q
      have hk := HK.out.draws q
      rw [← hq] at hl hk
      have HLr := Lib.hid hl; have HKr := Lib.hid hk; have HQ := Lib.hid hq; clear hl hk hq
      have HS := Lib.hid hs; clear hs
      by_cases hlt : j < n
      · obtain ⟨b, off, rfl, hc⟩ := HLr.out.at_ hlt
        obtain ⟨b2, off2, rfl, hc2⟩ := HKr.out.at_ hlt
        obtain ⟨x, hx⟩ : ∃ x, l.getD j 0 = x := ⟨_, rfl⟩
        obtain ⟨y, hy⟩ : ∃ y, k.getD j 0 = y := ⟨_, rfl⟩
        rw [hx] at hc
        rw [hy] at hc2
        have x1 : (j : Int) < n := by omega
        have x0 : (0 : Int) ≤ j := by omega
        have HX := Lib.hid hx; have HY := Lib.hid hy; clear hx hy
        by_cases he : x = y
        · have xe : (x != y) = false := by simp [he]
          have HE := Lib.hid he; clear he
          go_wp2_with fail
          go_quiet (fail)
          go_wp2
          go_roundg (gk - 1)
          case measure => omega
          case rel =>
            refine ⟨j + 1, by omega, by omega, by go_num, ?_, q + nq, by rw [HQ.out, World.drewN_drewN]⟩
            intro t ht
            by_cases htj : t = j
            · rw [htj, HX.out, HY.out]; exact HE.out
            · exact HS.out t (by omega)
        · have xe : (x != y) = true := by simp [he]
          have hr : R = false := by
            rw [← HR.out]
            refine decide_eq_false ?_
            intro h
            apply he
            rw [← HX.out, ← HY.out, h]
          have HRF := Lib.hid hr; clear hr he
          go_wp2_with fail
          go_quiet (fail)
          go_wp2
          go_ret
          exact ⟨by rw [HRF.out]; rfl, q + nq, by rw [HQ.out, World.drewN_drewN]⟩
      · obtain rfl : j = n := by omega
        have hr : R = true := by rw [← HR.out]; exact decide_eq_true (list_eq 0 (by omega) (fun t ht => HS.out t (by omega)))
        have HRT := Lib.hid hr; clear hr
        go_wp2
        go_ret
        exact ⟨by rw [HRT.out]; rfl, q, HQ.out⟩
  · have e : decide (l = k) = false := decide_eq_false (by intro h; rw [h] at hll; omega)
    rw [e]
    have hne : ((n : Int) != (m : Int)) = true := by simp; omega
    clear hl hk e
    go_enter Tryd.func50, Tryd.ntmps50
    go_wp2
    go_ret
    exact ⟨rfl, 0, rfl⟩

def upB (id : Int) : Bool := decide (id = 0) || decide (id = 1) || decide (id = 11)
end Go.Proofs.YtamnhnleipnhdaaDoor

/-
  Two pairs of a number and a width compared.
-/
namespace Go.Proofs.YtamnhnleipnhdaaDoor

open Go.RowKit

theorem neq_bits (xa xb ya yb : Int) (w : World) : (binOp .neq 53 (.agg #[.int .i64 xa, .int .i64 xb]) (.agg #[.int .i64 ya, .int .i64 yb])).run Tryd.prog w = .ok (.bool (!(decide (xa = ya) && decide (xb = yb)))) w := by
  have u3 := Tryd.underlying3
  have a3 := Tryd.isAgg3
  have z3 := Tryd.sizeOf3
  have hS : Tryd.prog.underlying 53 = some (.struct (Tryd.prog.fieldsOf 53)) := by kernel_rfl
  have hp : Tryd.prog.stoodInHeld 53 = false := by kernel_rfl
  rw [run_neq_struct, show (10000 : Nat) = 9999 + 1 from rfl, run_equalIn_agg w 9999 53 _ _ hS hp]
  simp only [Program.fieldsOf, Tryd.underlying53]
  go_simp
  by_cases h1 : xa = ya <;> by_cases h2 : xb = yb <;> simp [h1, h2]
end Go.Proofs.YtamnhnleipnhdaaDoor

/-
  linesideref05: Same, Lists.
-/
namespace Go.Proofs.YtamnhnleipnhdaaDoor

open Go.RowKit

/-- A packet as a value. -/
def pkV (id : Int) (A : Option Addr) (n c : Nat) : Value := .agg #[.int .i64 id, .slice A n c]

set_option maxHeartbeats 2000000 in
theorem same_any (id jd : Int) (A B : Option Addr) (n c m d : Nat) (l k : List Int) (w : World) (hl : SlN w A n c l) (hk : SlN w B m d k) (hn : n ≤ 1048576) (hm : m ≤ 1048576) :
    Calls Tryd.prog 51 #[pkV id A n c, pkV jd B m d] w fun e w' => e = .returned (.bool (decide (l = k) && decide (id = jd))) ∧ Below w.heap.size w w' := by
  have hq : ∀ W, SlN W A n c l → SlN W B m d k → Hid (Calls Tryd.prog 50 #[.slice A n c, .slice B m d] W fun e w' => e = .returned (.bool (decide (l = k))) ∧ ∃ q, w' = W.drewN q) := fun W h1 h2 => Lib.hid (ints_any A B n c m d l k W h1 h2 hn hm)
  have hb : Below w.heap.size w ((w.alloc (.cells #[.int .i64 id, .slice A n c] 39)).alloc (.cells #[.int .i64 jd, .slice B m d] 39)) :=
    ((Below.refl _ _).alloc (Nat.le_refl _) _).alloc (by simp) _
  have HC := hq _ (hl.under hb) (hk.under hb)
  have HB := Lib.hid hb
  have e1 : (id == jd) = decide (id = jd) := by by_cases h : id = jd <;> simp [h]
  generalize decide (id = jd) = v at *
  generalize decide (l = k) = u at *
  clear hl hk hq hb
  unfold pkV
  cases u
  · go_enter Tryd.func51, Tryd.ntmps51
    go_wp2_with fail
    refine HC.out.mono ?_
    rintro e w' ⟨rfl, q, rfl⟩
    go_wp2
    go_ret
    exact ⟨rfl, below_draws HB.out q⟩
  · go_enter Tryd.func51, Tryd.ntmps51
    go_wp2_with fail
    refine HC.out.mono ?_
    rintro e w' ⟨rfl, q, rfl⟩
    go_wp2
    go_ret
    exact ⟨rfl, below_draws HB.out q⟩

theorem SlP.draws {w : World} {A : Option Addr} {m c : Nat} {l : List (Int × Int)} (h : SlP w A m c l) (n : Nat) : SlP (w.drewN n) A m c l := ⟨h.len, h.sl.draws n⟩

end Go.Proofs.YtamnhnleipnhdaaDoor

/-
  linesideref05.Laid: the bits of numbers and widths that fit.
-/
namespace Go.Proofs.YtamnhnleipnhdaaDoor

open Go.RowKit

open BitsM

def laidOf (l : List (Int × Int)) : List Bool := l.flatMap fun x => wbits x.1.toNat x.2.toNat x.2.toNat
theorem laid_step (l : List (Int × Int)) (j : Nat) (h : j < l.length) : laidOf (l.take (j + 1)) = laidOf (l.take j) ++ wbits (l.getD j (0, 0)).1.toNat (l.getD j (0, 0)).2.toNat (l.getD j (0, 0)).2.toNat := by
  rw [List.take_succ_eq_append_getElem h, laidOf, List.flatMap_append, ← laidOf]
  simp [List.getD_eq_getElem?_getD, List.getElem?_eq_getElem h]
theorem laid_le (l : List (Int × Int)) (hw : ∀ x ∈ l, x.2 ≤ 32) : (laidOf l).length ≤ 32 * l.length := by
  induction l with
  | nil => simp [laidOf]
  | cons x l ih =>
    have e : laidOf (x :: l) = wbits x.1.toNat x.2.toNat x.2.toNat ++ laidOf l := rfl
    have h1 := hw x (by simp)
    have h2 := ih (fun y hy => hw y (by simp [hy]))
    rw [e, List.length_append, wbits_length, List.length_cons]
    omega

/-- Numbers and widths that fit. -/
def FitP (x : Int × Int) : Prop := 0 ≤ x.1 ∧ x.1 < 4294967296 ∧ 1 ≤ x.2 ∧ x.2 ≤ 32

set_option maxRecDepth 100000 in
set_option maxHeartbeats 4000000 in
theorem laid_any (A : Option Addr) (m c : Nat) (l : List (Int × Int)) (w : World) (hl : SlP w A m c l) (hm : m ≤ 65536) (hf : ∀ x ∈ l, FitP x) :
    Calls Tryd.prog 41 #[.slice A m c] w fun e w' =>
      ∃ A' c', e = .returned (.slice A' (laidOf l).length c') ∧ w'.ownsRow w.heap.size 4 1 (.slice A' (laidOf l).length c') (laidOf l).length (bools (laidOf l)) ∧ Below w.heap.size w w' := by
  have hlen := hl.len
  have HL := Lib.hid hl; have HF := Lib.hid hf; clear hl hf
  go_enter Tryd.func41, Tryd.ntmps41
  go_wp2
  go_loopw [3, 4] (fun v i wr => ∃ (j L : Nat) (A3 : Option Addr) (c3 : Nat), j ≤ m ∧ i = .int .i64 (j : Nat) ∧ v = .slice A3 L c3 ∧ (laidOf (l.take j)).length = L ∧ L ≤ 32 * j ∧
      wr.ownsRow w.heap.size 4 1 (.slice A3 L c3) L (bools (laidOf (l.take j))) ∧ Below w.heap.size w wr) (fun _ i _ => m - (intOf i).toNat)
  case atStart => exact ⟨0, 0, none, 0, by omega, rfl, rfl, rfl, by omega, World.ownsRow_nil _ _ _ _, Below.refl _ _⟩
  case round =>
    obtain ⟨j, L, A3, c3, hj, rfl, rfl, hL, hLb, ho, hb⟩ := hrel
    have HO := Lib.hid ho; clear ho
    have HB := Lib.hid hb; clear hb
    have HLL := Lib.hid hL; clear hL
    by_cases hlt : j < m
    · have hjl : j < l.length := by omega
      have hmem : l.getD j (0, 0) ∈ l := by rw [List.getD_eq_getElem?_getD, List.getElem?_eq_getElem hjl]; exact List.getElem_mem hjl
      obtain ⟨f1, f2, f3, f4⟩ := HF.out _ hmem
      have hstep := laid_step l j hjl
      obtain ⟨b0, off0, hA0, hc0, hd0⟩ := (HL.out.under HB.out).at_ hlt
      subst hA0
      obtain ⟨n, hn⟩ : ∃ n : Nat, (l.getD j (0, 0)).1 = n := ⟨(l.getD j (0, 0)).1.toNat, by omega⟩
      obtain ⟨k, hk⟩ : ∃ k : Nat, (l.getD j (0, 0)).2 = k := ⟨(l.getD j (0, 0)).2.toNat, by omega⟩
      have hcell : ∀ W, Below w.heap.size w W → W.cell? ⟨b0, off0 + j * 2, none⟩ = some (.int .i64 n) ∧ W.cell? ⟨b0, off0 + j * 2 + 1, none⟩ = some (.int .i64 k) := fun W hW => by
        obtain ⟨b1, off1, hA1, h1, h2⟩ := (HL.out.under hW).at_ hlt
        simp only [Option.some.injEq, Addr.mk.injEq, and_true] at hA1
        obtain ⟨rfl, rfl⟩ := hA1
        rw [hn] at h1
        rw [hk] at h2
        exact ⟨h1, h2⟩
      rw [hn, hk, Int.toNat_natCast, Int.toNat_natCast] at hstep
      rw [hn] at f1 f2 hc0
      rw [hk] at f3 f4 hd0
      have HST := Lib.hid hstep; have HCL := Lib.hid hcell
      have g1 : n < 4294967296 := by omega
      have g2 : 1 ≤ k := by omega
      have g3 : k ≤ 32 := by omega
      clear hstep hcell hn hk hmem hjl f1 f2 f3 f4
      have x0 : (0 : Int) ≤ j := by omega
      have x1 : (j : Int) < m := by omega
      go_wp2
      go_loopw [3, 5] (fun v kk ws => ∃ (t : Nat) (A4 : Option Addr) (c4 : Nat), t ≤ k ∧ kk = .int .i64 ((k : Int) - 1 - (t : Int)) ∧ v = .slice A4 (L + t) c4 ∧
        ws.ownsRow w.heap.size 4 1 (.slice A4 (L + t) c4) (L + t) (bools (laidOf (l.take j) ++ wbits n k t)) ∧ Below w.heap.size w ws) (fun _ kk _ => (intOf kk + 1).toNat)
      case atStart => exact ⟨0, A3, c3, by omega, by simp, rfl, by rw [wbits_zero, List.append_nil]; exact HO.out, HB.out⟩
      case round =>
        clear HO HB hc0 hd0
        obtain ⟨t, A4, c4, ht, rfl, rfl, ho, hb⟩ := hrel
        have HO := Lib.hid ho; clear ho
        have HB := Lib.hid hb; clear hb
        by_cases ht8 : t < k
        · obtain ⟨hc, hd⟩ := HCL.out wr HB.out
          obtain ⟨R, hR⟩ : ∃ R, R = 2 ^ (k - 1 - t) := ⟨_, rfl⟩
          have hRp : 0 < R := by rw [hR]; exact Nat.two_pow_pos _
          have hRb : R ≤ 4294967296 := by
            rw [hR]
            have : (2 : Nat) ^ (k - 1 - t) ≤ 2 ^ 32 := Nat.pow_le_pow_right (by omega) (by omega)
            omega
          have c6 := fun W => power_any (k - 1 - t) R (by omega) hR W
          rw [show ((k - 1 - t : Nat) : Int) = (k : Int) - 1 - (t : Int) from by omega] at c6
          have HR := Lib.hid hR; clear hR
          have HC6 := Lib.hid c6; clear c6
          obtain ⟨q, hq⟩ : ∃ q, q = n / R := ⟨_, rfl⟩
          obtain ⟨T, hT⟩ : ∃ T, T = n.testBit (k - 1 - t) := ⟨_, rfl⟩
          have hqy : q ≤ n := by rw [hq]; exact Nat.div_le_self _ _
          have hqT : ((q : Int) % 2 == 1) = T := by
            rw [hT, Nat.testBit_eq_decide_div_mod_eq, hq, HR.out, Bool.eq_iff_iff, beq_iff_eq, decide_eq_true_eq]
            omega
          have HT := Lib.hid hT; clear hT
          have HQ := Lib.hid hq; clear hq
          go_wp2_with fail
          have hR0 : R ≠ 0 := by omega
          have e2 : IntKind.i64.wrap ((n : Int) / (R : Int)) = q := by
            rw [show (n : Int) / (R : Int) = (q : Int) from by rw [HQ.out]; simp]
            exact IntWalk.i64_in _ (by omega)
          have e3 : ((q : Int).tmod 2 == 1) = T := by rw [Int.tmod_eq_emod_of_nonneg (by omega)]; exact hqT
          have HN1 := Lib.hid (show ([.bool T] : List Value).length = 1 * 1 from rfl)
          have HO3 : Hid ((wr.alloc (Obj.cells #[.bool T] 4)).drew.ownsRow w.heap.size 4 1 (.slice A4 (L + t) c4) (L + t) (bools (laidOf (l.take j) ++ wbits n k t))) := HO.out.alloc (Obj.cells #[.bool T] 4)
          have HC : Hid (∀ i u, ([.bool T] : List Value)[i]? = some u → (wr.alloc (.cells #[.bool T] 4)).drew.cell? ((⟨wr.heap.size, 0, none⟩ : Addr).add i) = some u) := by
            intro i u hu
            rw [WideShapes.add_plain, Nat.zero_add, (show Has (wr.alloc (.cells #[.bool T] 4)).drew wr.heap.size 4 #[.bool T] from Has.made wr 4 #[.bool T]).cell]
            simpa using hu
          have H1 : Hid (∀ u ∈ ([.bool T] : List Value), u.oneCell' = true) := by
            intro u hu
            simp only [List.mem_singleton] at hu
            subst hu
            rfl
          have HBD : Hid (L + t + 1 ≤ maxLen ∧ (L + t + 1) * 1 ≤ 140737488355328 ∧ w.heap.size ≤ (wr.alloc (.cells #[.bool T] 4)).drew.heap.size) := by
            refine ⟨by unfold maxLen; omega, by omega, ?_⟩
            have := HB.out.size
            show _ ≤ (wr.alloc (.cells #[.bool T] 4)).heap.size
            simp
            omega
          have HB3 : Hid (Below w.heap.size w (wr.alloc (Obj.cells #[.bool T] 4)).drew) := below_draws (HB.out.alloc HB.out.size (Obj.cells #[.bool T] 4)) 1
          clear hqT
          have e : bools (laidOf (l.take j) ++ wbits n k (t + 1)) = bools (laidOf (l.take j) ++ wbits n k t) ++ [.bool T] := by
            rw [wbits_succ, ← List.append_assoc, bools_snoc, ← HT.out]
          have HE := Lib.hid e; clear e
          go_region_law (first
            | (refine step_push (o := ⟨some 34, _, _, _, _, _⟩) rfl (.tmp 22) (.tmp 33) 71 rfl w.heap.size 4 (.bool false) 1 1 Tryd.underlying71 info_bool rfl (by decide) A4 (L + t) c4 (bools (laidOf (l.take j) ++ wbits n k t)) rfl HO3 ⟨wr.heap.size, 0, none⟩ 1 1 [.bool T] rfl HN1 HC H1 HBD ?_; intro A5 c5 w5 ho5 hg5)
            | (go_simp; go_at_call 67; refine (HC6.out _).mono ?_; rintro e w' ⟨rfl, rfl⟩))
          all_goals
            clear e2 e3
            go_wp2
            go_roundw
            · refine ⟨t + 1, A5, c5, by omega, by go_num, rfl, ?_, below_own HB3.out HBD.out.2.2 HO3.out (Nat.le_refl _) rfl hg5.out⟩
              rw [HE.out]
              exact ho5.out
            · simp [intOf]; omega
        · obtain rfl : t = k := by omega
          have hx : laidOf (l.take (j + 1)) = laidOf (l.take j) ++ wbits n t t := HST.out
          have hlx : (laidOf (l.take (j + 1))).length = L + t := by rw [hx, List.length_append, wbits_length, HLL.out]
          rw [← hx] at HO
          have HX := Lib.hid hlx; clear hx hlx
          go_wp2
          go_roundw
          case rel => exact ⟨j + 1, L + t, A4, c4, by omega, by go_num, rfl, HX.out, by omega, HO.out, HB.out⟩
          case measure => simp [intOf]; omega
    · obtain rfl : j = m := by omega
      have e : l.take j = l := by rw [← hlen, List.take_length]
      rw [e] at HO HLL
      have hll := HLL.out
      subst hll
      go_wp2
      go_ret
      exact ⟨A3, c3, rfl, HO.out, HB.out⟩
end Go.Proofs.YtamnhnleipnhdaaDoor
