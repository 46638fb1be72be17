/-
  ShOwnC, ShOwnC2: merged.
-/
import Derived.Test.YtekcnmimfhiblaaShOwnB
import Derived.Deep.DeepCutAuto

/-
  package shake as landed: sent, Data, Take.
-/
namespace Go.Proofs.Ytekcnmimfhiblaa
open Go.RowKit
open Go.Great

/-- A PDU, an error; the body lies in memory of its own. -/
def ShPostS (r : Pdu × Int) (w : World) (e : Ending) (w' : World) : Prop :=
  ∃ A' c', e = .returned (.tuple #[pdV r.1 A' c', .int .i64 r.2]) ∧ Hid (Sl w' 1 A' r.1.body.length c' (u8s r.1.body)) ∧ Hid (∀ a, A' = some a → w.heap.size ≤ a.block) ∧ Hid (Below w.heap.size w w')
def sentPdu (p : Peer) (kd : Int) (xs : List Nat) : Pdu := ⟨kd, ownD p, p.train, 0, p.b, xs, 0⟩
def shSent (p : Peer) (kd : Int) (xs : List Nat) : Pdu × Int :=
  if p.state = 2 then
    if pdMay (sentPdu p kd xs) then (pdSeal p.key (sentPdu p kd xs), 0) else (pdZero, 1)
  else (pdZero, 6)
theorem sent_data (p : Peer) (xs : List Nat) : shSent p 5 xs = shData p xs := by
  unfold shSent shData
  have h : pdMay (sentPdu p 5 xs) ↔ (numbered p ∧ 1 ≤ xs.length ∧ xs.length ≤ 1023) := by
    have hd : ownD p = 0 ∨ ownD p = 1 := by unfold ownD; split <;> simp
    constructor
    · rintro ⟨h1, h2, h3⟩
      unfold pdForm sentPdu at h3
      simp only at h1 h2 h3
      exact ⟨⟨h1, h2⟩, by omega⟩
    · rintro ⟨⟨h1, h2⟩, h3, h4⟩
      exact ⟨h1, h2, .inr (.inr (.inr (.inl ⟨rfl, hd, rfl, h3, h4⟩)))⟩
  by_cases h1 : p.state = 2
  · rw [if_pos h1, if_pos h1]
    by_cases h2 : pdMay (sentPdu p 5 xs)
    · rw [if_pos h2, if_pos (h.1 h2)]; rfl
    · rw [if_neg h2, if_neg (fun h' => h2 (h.2 h'))]
  · rw [if_neg h1, if_neg h1]
theorem sent_end (p : Peer) (y : Nat) : shEnd p y = if (shSent p 6 [y]).2 = 0 then (shClosed p, (shSent p 6 [y]).1, 0) else (peer0, pdZero, (shSent p 6 [y]).2) := by
  unfold shSent shEnd
  have h : pdMay (sentPdu p 6 [y]) ↔ numbered p := by
    have hd : ownD p = 0 ∨ ownD p = 1 := by unfold ownD; split <;> simp
    constructor
    · rintro ⟨h1, h2, h3⟩
      exact ⟨h1, h2⟩
    · rintro ⟨h1, h2⟩
      exact ⟨h1, h2, .inr (.inr (.inr (.inr ⟨rfl, hd, rfl, rfl⟩)))⟩
  by_cases h1 : p.state = 2
  · rw [if_pos h1, if_pos h1]
    by_cases h2 : pdMay (sentPdu p 6 [y])
    · rw [if_pos h2, if_pos (h.1 h2)]; rfl
    · rw [if_neg h2, if_neg (fun h' => h2 (h.2 h'))]; rfl
  · rw [if_neg h1, if_neg h1]; rfl

set_option maxRecDepth 100000 in
set_option maxHeartbeats 4000000 in
theorem osh_sent (p : Peer) (kd : Int) (A : Option Addr) (c : Nat) (xs : List Nat) (hpo : p.ok) (hx8 : bytes8 xs) (hn : xs.length ≤ 2000) (w : World) (hs : Sl w 1 A xs.length c (u8s xs)) :
    Calls Try.prog 41 #[prV p, .int .i64 kd, .slice A xs.length c] w (ShPostS (shSent p kd xs) w) := by
  obtain ⟨wa, hwa⟩ : ∃ wa, (w.alloc (.cells (prA p) 26)).alloc (.cells #[.int .i64 0, .int .i64 0, .int .i64 0, .int .u32 0, .int .u32 0, .slice none 0 0, .int .u64 0] 30) = wa := ⟨_, rfl⟩
  have hbwa : Below w.heap.size w wa := by rw [← hwa]; exact ((Below.refl _ _).alloc (Nat.le_refl _) _).alloc (by simp) _
  have h0 : Has wa (w.heap.size) 26 (prA p) := by rw [← hwa]; exact ((Has.made _ _ _).beside _)
  have h1 : Has wa (w.heap.size + 1) 30 #[.int .i64 0, .int .i64 0, .int .i64 0, .int .u32 0, .int .u32 0, .slice none 0 0, .int .u64 0] := by rw [← hwa]; exact (has_at (by simp))
  have HWA := Lib.hid hwa; have HBWA := Lib.hid hbwa
  have hxo : (sentPdu p kd xs).ok := ⟨show 0 < 4294967296 by decide, hpo.2.2.1, hx8, show 0 < 18446744073709551616 by decide⟩
  have HO := Lib.hid (fun W => osh_outgoing p W)
  have HM := Lib.hid (fun W => opd_may (sentPdu p kd xs) A c hxo hn W)
  have HSEAL := Lib.hid (fun W (hW : Below w.heap.size w W) => opd_seal p.key hpo.2.2.2.1 (sentPdu p kd xs) A c hxo hn W (Sl.under hs hW))
  have HP := Lib.hid h0; have HZ := Lib.hid h1
  have c6 : wa.cell? ⟨w.heap.size, 6, none⟩ = some (.int .i64 p.state) := (h0).cell 6
  clear hwa hbwa h0 h1 hs hpo hn hx8 hxo
  obtain ⟨r, hr⟩ : ∃ r, shSent p kd xs = r := ⟨_, rfl⟩
  rw [hr]
  unfold shSent at hr
  by_cases f1 : p.state = 2
  rotate_left
  · obtain rfl : (pdZero, 6) = r := by rwa [if_neg f1] at hr
    have s0 : (p.state != 2) = true := by simp [f1]
    clear hr f1 HO HM HSEAL
    unfold prV at *
    go_enter Try.func41, Try.ntmps41
    go_upto_region 1 with fail
    rw [HWA.out]
    clear HWA
    have HX0 := Lib.hid (HZ.out); have HX2 := Lib.hid (has_setRow7 HZ.out (pdA pdZero none 0))
    have HXB := Lib.hid (below_row (g := w.heap.size + 1) HBWA.out (by omega) (pdA pdZero none 0))
    go_wp2_with (with_reducible refine wpList_store_rowTo (o := ⟨none, _, _, _, _, _⟩) rfl 30 _ _ rfl rfl (w.heap.size + 1) (pdA pdZero none 0) rfl rfl 30 _ (HX0.out).raw (by kernel_rfl) (by kernel_rfl) (by kernel_rfl) ?_)
    refine bodyPost_ret (results_row_tmp9 rfl _ _ (w.heap.size + 1) 30 _ _ rfl HX2.out Try.underlying30 rfl (by kernel_rfl)) rfl ?_
    exact ⟨none, 0, rfl, Lib.hid (sl_nil _ _), Lib.hid (fun a ha => by cases ha), HXB⟩
  rw [if_pos f1] at hr
  have s0 : (p.state != 2) = false := by simp [f1]
  clear f1
  obtain ⟨d, hd⟩ : ∃ d, ownD p = d := ⟨_, rfl⟩
  unfold sentPdu at *
  rw [hd] at HO HM HSEAL hr
  clear hd
  have HR := Lib.hid hr
  clear hr
  unfold prV pdV keyV keyA at *
  go_enter Try.func41, Try.ntmps41
  go_upto_region 1 with fail
  rw [HWA.out]
  clear HWA
  go_wp2_with fail
  go_cut [8] (fun s8 wx => ∃ gx, s8 = .pointer (some ⟨gx, 0, none⟩) ∧ w.heap.size + 1 < gx ∧ Has wx (w.heap.size) 26 (prA p) ∧ Has wx (w.heap.size + 1) 30 #[.int .i64 0, .int .i64 0, .int .i64 0, .int .u32 0, .int .u32 0, .slice none 0 0, .int .u64 0] ∧ Below w.heap.size w wx ∧ Has wx (gx) 30 (pdA ⟨kd, d, p.train, 0, p.b, xs, 0⟩ A c))
  case first =>
    refine wp_region_held_drew (S := (fun W_ => Has W_ (w.heap.size) 26 (prA p) ∧ Has W_ (w.heap.size + 1) 30 #[.int .i64 0, .int .i64 0, .int .i64 0, .int .u32 0, .int .u32 0, .slice none 0 0, .int .u64 0] ∧ Below w.heap.size w W_)) (by kernel_rfl) ?_ (fun hHeld => ?_)
    · exact ⟨HP.out.draw, HZ.out.draw, below_dr HBWA.out⟩
    refine wpAnyH_take (i := 0) (oi := ⟨some 13, _, _, _, _, _⟩) (v := ?_) rfl (by kernel_rfl) (by kernel_rfl) (by kernel_rfl) (fun _ _ _ h => h) (Or.inl ⟨by rfl, ?_⟩) (by assumption) ?_
    rotate_left
    · intro w_ hSw; (try dsimp only at hSw); go_simp <;> with_reducible rfl
    simp only [Act.put, List.setIfInBounds_toArray, List.set_cons_zero, List.set_cons_succ]
    refine wpAnyH_take (i := 1) (oi := ⟨some 14, _, _, _, _, _⟩) (v := .agg (prA p)) rfl (by kernel_rfl) (by kernel_rfl) (by kernel_rfl) (fun _ _ _ h => h) (yields_load_row9 rfl 26 _ rfl (w.heap.size) rfl 26 (prA p) _ (fun _ ⟨h_, _, _⟩ => h_) Try.underlying26 rfl (by kernel_rfl) (by rfl)) (by assumption) ?_
    simp only [Act.put, List.setIfInBounds_toArray, List.set_cons_zero, List.set_cons_succ]
    refine wpAnyH_take (i := 3) (oi := ⟨some 16, _, _, _, _, _⟩) (v := ?_) rfl (by kernel_rfl) (by kernel_rfl) (by kernel_rfl) (fun _ _ _ h => h) (Or.inl ⟨by rfl, ?_⟩) (by assumption) ?_
    rotate_left
    · intro w_ hSw; (try dsimp only at hSw); go_simp <;> with_reducible rfl
    simp only [Act.put, List.setIfInBounds_toArray, List.set_cons_zero, List.set_cons_succ]
    refine wpAnyH_take (i := 4) (oi := ⟨some 17, _, _, _, _, _⟩) (v := ?_) rfl (by kernel_rfl) (by kernel_rfl) (by kernel_rfl) (fun _ _ _ h => h) (Or.inl ⟨by rfl, ?_⟩) (by assumption) ?_
    rotate_left
    · intro w_ hSw; (try dsimp only at hSw); have hx := hSw.1.cell 1; simp only [prA] at hx; go_simp <;> with_reducible rfl
    simp only [Act.put, List.setIfInBounds_toArray, List.set_cons_zero, List.set_cons_succ]
    refine wpAnyH_take (i := 5) (oi := ⟨some 18, _, _, _, _, _⟩) (v := ?_) rfl (by kernel_rfl) (by kernel_rfl) (by kernel_rfl) (fun _ _ _ h => h) (Or.inl ⟨by rfl, ?_⟩) (by assumption) ?_
    rotate_left
    · intro w_ hSw; (try dsimp only at hSw); go_simp <;> with_reducible rfl
    simp only [Act.put, List.setIfInBounds_toArray, List.set_cons_zero, List.set_cons_succ]
    refine wpAnyH_take (i := 6) (oi := ⟨some 19, _, _, _, _, _⟩) (v := ?_) rfl (by kernel_rfl) (by kernel_rfl) (by kernel_rfl) (fun _ _ _ h => h) (Or.inl ⟨by rfl, ?_⟩) (by assumption) ?_
    rotate_left
    · intro w_ hSw; (try dsimp only at hSw); have hx := hSw.1.cell 8; simp only [prA] at hx; go_simp <;> with_reducible rfl
    simp only [Act.put, List.setIfInBounds_toArray, List.set_cons_zero, List.set_cons_succ]
    refine wpAnyH_take (i := 7) (oi := ⟨some 20, _, _, _, _, _⟩) (v := ?_) rfl (by kernel_rfl) (by kernel_rfl) (by kernel_rfl) (fun _ _ _ h => h) (Or.inl ⟨by rfl, ?_⟩) (by assumption) ?_
    rotate_left
    · intro w_ hSw; (try dsimp only at hSw); go_simp <;> with_reducible rfl
    simp only [Act.put, List.setIfInBounds_toArray, List.set_cons_zero, List.set_cons_succ]
    refine wpAnyH_ready (rs := [2, 9]) (by kernel_rfl) (by simp) ?_
    refine AllReadyH.cons (o := ⟨some 15, _, _, _, _, _⟩) rfl (fun K hK => ?_) ?_
    · go_simp
      obtain ⟨s0, s1, s2⟩ := hHeld
      refine (HO.out _).mono ?_
      rintro e v1 ⟨rfl, hb1⟩
      go_wp2_with fail
      refine hK.out _ _ ?_ (fun hHeld => ?_)
      · exact ⟨s0.under hb1 s0.lt, s1.under hb1 s1.lt, s2.trans (hb1.mono s2.size)⟩
      clear hK K s0 s1 s2
      try simp only [Act.put, List.setIfInBounds_toArray, List.set_cons_zero, List.set_cons_succ]
      refine wpAnyH_take (i := 8) (oi := ⟨some 21, _, _, _, _, _⟩) (v := ?_) rfl (by kernel_rfl) (by kernel_rfl) (by kernel_rfl) (fun _ _ _ h => h) (Or.inl ⟨by rfl, ?_⟩) (by assumption) ?_
      rotate_left
      · intro w_ hSw; (try dsimp only at hSw); go_simp <;> with_reducible rfl
      simp only [Act.put, List.setIfInBounds_toArray, List.set_cons_zero, List.set_cons_succ]
      refine wpAnyH_ready (rs := [9]) (by kernel_rfl) (by simp) ?_
      refine AllReadyH.cons (o := ⟨some 8, _, _, _, _, _⟩) rfl (fun K hK => ?_) ?_
      · go_simp
        obtain ⟨s0, s1, s2⟩ := hHeld
        obtain ⟨gx, hgx⟩ : ∃ gx, v1.heap.size = gx := ⟨_, rfl⟩
        have hgl : w.heap.size + 1 < gx := by rw [← hgx]; exact s1.lt
        rw [hgx]
        refine hK.out _ _ ?_ (fun hHeld => ?_)
        · exact ⟨s0.beside _, s1.beside _, below_al9 s2 _⟩
        refine wpAnyH_more (T := (fun W_ => Has W_ (w.heap.size) 26 (prA p) ∧ Has W_ (w.heap.size + 1) 30 #[.int .i64 0, .int .i64 0, .int .i64 0, .int .u32 0, .int .u32 0, .slice none 0 0, .int .u64 0] ∧ Below w.heap.size w W_ ∧ (∃ o_ : Array Value, Has W_ (gx) 30 o_ ∧ o_.size = 7))) (fun _ ⟨s0, s1, s2, s3⟩ => ⟨s0, s1, s2⟩) ?_
        have hHeld2 : (fun W_ => Has W_ (w.heap.size) 26 (prA p) ∧ Has W_ (w.heap.size + 1) 30 #[.int .i64 0, .int .i64 0, .int .i64 0, .int .u32 0, .int .u32 0, .slice none 0 0, .int .u64 0] ∧ Below w.heap.size w W_ ∧ (∃ o_ : Array Value, Has W_ (gx) 30 o_ ∧ o_.size = 7)) _ := ⟨s0.beside (.cells #[.int .i64 0, .int .i64 0, .int .i64 0, .int .u32 0, .int .u32 0, .slice none 0 0, .int .u64 0] 30), s1.beside (.cells #[.int .i64 0, .int .i64 0, .int .i64 0, .int .u32 0, .int .u32 0, .slice none 0 0, .int .u64 0] 30), below_al9 s2 (.cells #[.int .i64 0, .int .i64 0, .int .i64 0, .int .u32 0, .int .u32 0, .slice none 0 0, .int .u64 0] 30), ⟨#[.int .i64 0, .int .i64 0, .int .i64 0, .int .u32 0, .int .u32 0, .slice none 0 0, .int .u64 0], (by rw [← hgx]; exact Has.made _ _ _), by kernel_rfl⟩⟩
        clear hHeld
        have hHeld := hHeld2
        clear hHeld2 hK K hgx s0 s1 s2
        try simp only [Act.put, List.setIfInBounds_toArray, List.set_cons_zero, List.set_cons_succ]
        refine wpAnyH_ready (rs := [10]) (by kernel_rfl) (by simp) ?_
        refine AllReadyH.cons (o := ⟨none, _, _, _, _, _⟩) rfl (fun K hK => ?_) ?_
        · rw [if_pos (by rfl)]
          obtain ⟨s0, s1, s2, s3⟩ := hHeld
          obtain ⟨o_, h_, e_⟩ := s3
          refine wp_store_row 30 _ _ rfl (gx) (pdA ⟨kd, d, p.train, 0, p.b, xs, 0⟩ A c) (by rfl) (by rfl) 30 o_ h_.raw (by kernel_rfl) e_ (by kernel_rfl) ?_
          refine hK.out _ _ ?_ (fun hHeld => ?_)
          · exact ⟨has_setRow_other7 s0 (by omega) _, has_setRow_other7 s1 (by omega) _, below_row s2 (by omega) _, ⟨_, has_setRow7 h_ (pdA ⟨kd, d, p.train, 0, p.b, xs, 0⟩ A c), by kernel_rfl⟩⟩
          refine wpAnyH_more (T := (fun W_ => Has W_ (w.heap.size) 26 (prA p) ∧ Has W_ (w.heap.size + 1) 30 #[.int .i64 0, .int .i64 0, .int .i64 0, .int .u32 0, .int .u32 0, .slice none 0 0, .int .u64 0] ∧ Below w.heap.size w W_ ∧ Has W_ (gx) 30 (pdA ⟨kd, d, p.train, 0, p.b, xs, 0⟩ A c))) (fun _ ⟨s0, s1, s2, s3⟩ => ⟨s0, s1, s2, ⟨_, s3, by kernel_rfl⟩⟩) ?_
          have hHeld2 : (fun W_ => Has W_ (w.heap.size) 26 (prA p) ∧ Has W_ (w.heap.size + 1) 30 #[.int .i64 0, .int .i64 0, .int .i64 0, .int .u32 0, .int .u32 0, .slice none 0 0, .int .u64 0] ∧ Below w.heap.size w W_ ∧ Has W_ (gx) 30 (pdA ⟨kd, d, p.train, 0, p.b, xs, 0⟩ A c)) _ := ⟨has_setRow_other7 s0 (by omega) _, has_setRow_other7 s1 (by omega) _, below_row s2 (by omega) _, has_setRow7 h_ (pdA ⟨kd, d, p.train, 0, p.b, xs, 0⟩ A c)⟩
          clear hHeld
          have hHeld := hHeld2
          clear hHeld2 hK K h_ e_ s0 s1 s2
          try simp only [Act.put]
          refine wpAnyH_done (by kernel_rfl) ?_ _
          go_wp2_with fail
          go_meet
          exact ⟨gx, rfl, hgl, hHeld⟩
        exact AllReadyH.nil
      exact AllReadyH.nil
    refine AllReadyH.cons (o := ⟨some 8, _, _, _, _, _⟩) rfl (fun K hK => ?_) ?_
    · go_simp
      obtain ⟨s0, s1, s2⟩ := hHeld
      obtain ⟨gx, hgx⟩ : ∃ gx, wa.heap.size = gx := ⟨_, rfl⟩
      have hgl : w.heap.size + 1 < gx := by rw [← hgx]; exact s1.lt
      rw [hgx]
      refine hK.out _ _ ?_ (fun hHeld => ?_)
      · exact ⟨s0.beside _, s1.beside _, below_al9 s2 _⟩
      refine wpAnyH_more (T := (fun W_ => Has W_ (w.heap.size) 26 (prA p) ∧ Has W_ (w.heap.size + 1) 30 #[.int .i64 0, .int .i64 0, .int .i64 0, .int .u32 0, .int .u32 0, .slice none 0 0, .int .u64 0] ∧ Below w.heap.size w W_ ∧ (∃ o_ : Array Value, Has W_ (gx) 30 o_ ∧ o_.size = 7))) (fun _ ⟨s0, s1, s2, s3⟩ => ⟨s0, s1, s2⟩) ?_
      have hHeld2 : (fun W_ => Has W_ (w.heap.size) 26 (prA p) ∧ Has W_ (w.heap.size + 1) 30 #[.int .i64 0, .int .i64 0, .int .i64 0, .int .u32 0, .int .u32 0, .slice none 0 0, .int .u64 0] ∧ Below w.heap.size w W_ ∧ (∃ o_ : Array Value, Has W_ (gx) 30 o_ ∧ o_.size = 7)) _ := ⟨s0.beside (.cells #[.int .i64 0, .int .i64 0, .int .i64 0, .int .u32 0, .int .u32 0, .slice none 0 0, .int .u64 0] 30), s1.beside (.cells #[.int .i64 0, .int .i64 0, .int .i64 0, .int .u32 0, .int .u32 0, .slice none 0 0, .int .u64 0] 30), below_al9 s2 (.cells #[.int .i64 0, .int .i64 0, .int .i64 0, .int .u32 0, .int .u32 0, .slice none 0 0, .int .u64 0] 30), ⟨#[.int .i64 0, .int .i64 0, .int .i64 0, .int .u32 0, .int .u32 0, .slice none 0 0, .int .u64 0], (by rw [← hgx]; exact Has.made _ _ _), by kernel_rfl⟩⟩
      clear hHeld
      have hHeld := hHeld2
      clear hHeld2 hK K hgx s0 s1 s2
      try simp only [Act.put, List.setIfInBounds_toArray, List.set_cons_zero, List.set_cons_succ]
      refine wpAnyH_ready (rs := [2]) (by kernel_rfl) (by simp) ?_
      refine AllReadyH.cons (o := ⟨some 15, _, _, _, _, _⟩) rfl (fun K hK => ?_) ?_
      · go_simp
        obtain ⟨s0, s1, s2, s3⟩ := hHeld
        refine (HO.out _).mono ?_
        rintro e v1 ⟨rfl, hb1⟩
        go_wp2_with fail
        refine hK.out _ _ ?_ (fun hHeld => ?_)
        · exact ⟨s0.under hb1 s0.lt, s1.under hb1 s1.lt, s2.trans (hb1.mono s2.size), (let ⟨o_, h_, e_⟩ := s3; ⟨o_, h_.under hb1 h_.lt, e_⟩)⟩
        clear hK K s0 s1 s2 s3
        try simp only [Act.put, List.setIfInBounds_toArray, List.set_cons_zero, List.set_cons_succ]
        refine wpAnyH_take (i := 8) (oi := ⟨some 21, _, _, _, _, _⟩) (v := ?_) rfl (by kernel_rfl) (by kernel_rfl) (by kernel_rfl) (fun _ _ _ h => h) (Or.inl ⟨by rfl, ?_⟩) (by assumption) ?_
        rotate_left
        · intro w_ hSw; (try dsimp only at hSw); go_simp <;> with_reducible rfl
        simp only [Act.put, List.setIfInBounds_toArray, List.set_cons_zero, List.set_cons_succ]
        refine wpAnyH_ready (rs := [10]) (by kernel_rfl) (by simp) ?_
        refine AllReadyH.cons (o := ⟨none, _, _, _, _, _⟩) rfl (fun K hK => ?_) ?_
        · rw [if_pos (by rfl)]
          obtain ⟨s0, s1, s2, s3⟩ := hHeld
          obtain ⟨o_, h_, e_⟩ := s3
          refine wp_store_row 30 _ _ rfl (gx) (pdA ⟨kd, d, p.train, 0, p.b, xs, 0⟩ A c) (by rfl) (by rfl) 30 o_ h_.raw (by kernel_rfl) e_ (by kernel_rfl) ?_
          refine hK.out _ _ ?_ (fun hHeld => ?_)
          · exact ⟨has_setRow_other7 s0 (by omega) _, has_setRow_other7 s1 (by omega) _, below_row s2 (by omega) _, ⟨_, has_setRow7 h_ (pdA ⟨kd, d, p.train, 0, p.b, xs, 0⟩ A c), by kernel_rfl⟩⟩
          refine wpAnyH_more (T := (fun W_ => Has W_ (w.heap.size) 26 (prA p) ∧ Has W_ (w.heap.size + 1) 30 #[.int .i64 0, .int .i64 0, .int .i64 0, .int .u32 0, .int .u32 0, .slice none 0 0, .int .u64 0] ∧ Below w.heap.size w W_ ∧ Has W_ (gx) 30 (pdA ⟨kd, d, p.train, 0, p.b, xs, 0⟩ A c))) (fun _ ⟨s0, s1, s2, s3⟩ => ⟨s0, s1, s2, ⟨_, s3, by kernel_rfl⟩⟩) ?_
          have hHeld2 : (fun W_ => Has W_ (w.heap.size) 26 (prA p) ∧ Has W_ (w.heap.size + 1) 30 #[.int .i64 0, .int .i64 0, .int .i64 0, .int .u32 0, .int .u32 0, .slice none 0 0, .int .u64 0] ∧ Below w.heap.size w W_ ∧ Has W_ (gx) 30 (pdA ⟨kd, d, p.train, 0, p.b, xs, 0⟩ A c)) _ := ⟨has_setRow_other7 s0 (by omega) _, has_setRow_other7 s1 (by omega) _, below_row s2 (by omega) _, has_setRow7 h_ (pdA ⟨kd, d, p.train, 0, p.b, xs, 0⟩ A c)⟩
          clear hHeld
          have hHeld := hHeld2
          clear hHeld2 hK K h_ e_ s0 s1 s2
          try simp only [Act.put]
          refine wpAnyH_done (by kernel_rfl) ?_ _
          go_wp2_with fail
          go_meet
          exact ⟨gx, rfl, hgl, hHeld⟩
        exact AllReadyH.nil
      exact AllReadyH.nil
    exact AllReadyH.nil
  case rest =>
    obtain ⟨gx, rfl, hgl, hp1, hz1, hb1, hx1⟩ := hcut
    have HC := Lib.hid (fun W (hW : Below wc.heap.size wc W) => And.intro (hp1.under hW hp1.lt) (And.intro (hz1.under hW hz1.lt) (hx1.under hW hx1.lt)))
    have HX := Lib.hid hx1; have HB1 := Lib.hid hb1
    clear hp1 hz1 hb1 hx1 HP HZ HO c6
    go_wp2_with (with_reducible refine wpList_load_row (o := ⟨some 22, _, _, _, _, _⟩) rfl 30 _ rfl (gx) rfl 30 (pdA ⟨kd, d, p.train, 0, p.b, xs, 0⟩ A c) (0, 0) _ (HX.out).raw Try.underlying30 rfl (by kernel_rfl) ?_)
    refine (HM.out _).mono ?_
    rintro e w2 ⟨rfl, hb2⟩
    obtain ⟨hp2, hz2, hx2⟩ := HC.out w2 hb2
    have hbw := HB1.out.trans (hb2.mono HB1.out.size)
    by_cases f2 : pdMay ⟨kd, d, p.train, 0, p.b, xs, 0⟩
    · have hrr := HR.out
      rw [if_pos f2] at hrr
      rw [decide_eq_true f2]
      have HSL := Lib.hid hrr
      have HS1 := Lib.hid (HSEAL.out w2 hbw)
      have HZ2 := Lib.hid hz2; have HX2 := Lib.hid hx2; have HBW := Lib.hid hbw
      have c9 : w2.cell? ⟨w.heap.size, 9, none⟩ = some (.int .u32 (p.key.a : Nat)) := (hp2).cell 9
      have c10 : w2.cell? ⟨w.heap.size, 10, none⟩ = some (.int .u32 (p.key.b : Nat)) := (hp2).cell 10
      have c11 : w2.cell? ⟨w.heap.size, 11, none⟩ = some (.int .u32 (p.key.c : Nat)) := (hp2).cell 11
      have c12 : w2.cell? ⟨w.heap.size, 12, none⟩ = some (.int .u32 (p.key.d : Nat)) := (hp2).cell 12
      clear hrr f2 hp2 hz2 hx2 hbw hb2 HC HM HR HX HSEAL
      go_wp2_with (with_reducible refine wpList_load_row (o := ⟨some 28, _, _, _, _, _⟩) rfl 30 _ rfl (gx) rfl 30 (pdA ⟨kd, d, p.train, 0, p.b, xs, 0⟩ A c) (0, 0) _ (HX2.out).raw Try.underlying30 rfl (by kernel_rfl) ?_)
      refine HS1.out.mono ?_
      rintro e w3 ⟨A2, c2, rfl, hsl, _, hfr, hb3, _⟩
      have HZ3 := Lib.hid (HZ2.out.under hb3.out HZ2.out.lt); have HB3 := Lib.hid (HBW.out.trans (hb3.out.mono HBW.out.size))
      have HF3 : Hid (∀ a, A2 = some a → w.heap.size + 1 < a.block) := Lib.hid (fun a ha => Nat.lt_of_lt_of_le HZ2.out.lt (hfr.out a ha))
      clear hfr hb3 HZ2 HX2 HBW HS1 c9 c10 c11 c12
      obtain rfl := HSL.out
      clear HSL
      generalize pdSeal p.key ⟨kd, d, p.train, 0, p.b, xs, 0⟩ = Q at *
      unfold pdV
      have HX0 := Lib.hid (HZ3.out); have HX2 := Lib.hid (has_setRow7 HZ3.out (pdA Q A2 c2))
      have HXB := Lib.hid (below_row (g := w.heap.size + 1) HB3.out (by omega) (pdA Q A2 c2))
      go_wp2_with (with_reducible refine wpList_store_rowTo (o := ⟨none, _, _, _, _, _⟩) rfl 30 _ _ rfl rfl (w.heap.size + 1) (pdA Q A2 c2) rfl rfl 30 _ (HX0.out).raw (by kernel_rfl) (by kernel_rfl) (by kernel_rfl) ?_)
      refine bodyPost_ret (results_row_tmp9 rfl _ _ (w.heap.size + 1) 30 _ _ rfl HX2.out Try.underlying30 rfl (by kernel_rfl)) rfl ?_
      exact ⟨A2, c2, rfl, Lib.hid (sl_row9 hsl.out (fun a ha => by have := HF3.out a ha; omega) _), Lib.hid (fun a ha => by have := HF3.out a ha; omega), HXB⟩
    · have hrr := HR.out
      rw [if_neg f2] at hrr
      rw [decide_eq_false f2]
      subst hrr
      have HZ2 := Lib.hid hz2; have HBW := Lib.hid hbw
      clear f2 hp2 hz2 hx2 hbw hb2 HC HM HR HX HSEAL
      have HX0 := Lib.hid (HZ2.out); have HX2 := Lib.hid (has_setRow7 HZ2.out (pdA pdZero none 0))
      have HXB := Lib.hid (below_row (g := w.heap.size + 1) HBW.out (by omega) (pdA pdZero none 0))
      go_wp2_with (with_reducible refine wpList_store_rowTo (o := ⟨none, _, _, _, _, _⟩) rfl 30 _ _ rfl rfl (w.heap.size + 1) (pdA pdZero none 0) rfl rfl 30 _ (HX0.out).raw (by kernel_rfl) (by kernel_rfl) (by kernel_rfl) ?_)
      refine bodyPost_ret (results_row_tmp9 rfl _ _ (w.heap.size + 1) 30 _ _ rfl HX2.out Try.underlying30 rfl (by kernel_rfl)) rfl ?_
      exact ⟨none, 0, rfl, Lib.hid (sl_nil _ _), Lib.hid (fun a ha => by cases ha), HXB⟩

set_option maxRecDepth 100000 in
set_option maxHeartbeats 4000000 in
theorem osh_data (p : Peer) (A : Option Addr) (c : Nat) (xs : List Nat) (hpo : p.ok) (hx8 : bytes8 xs) (hn : xs.length ≤ 2000) (w : World) (hs : Sl w 1 A xs.length c (u8s xs)) :
    Calls Try.prog 19 #[prV p, .slice A xs.length c] w (ShPostD A (shData p xs) w) := by
  rw [← sent_data]
  obtain ⟨wa, hwa⟩ : ∃ wa, (w.alloc (.cells (prA p) 26)).alloc (.cells #[.int .i64 0, .int .i64 0, .int .i64 0, .int .u32 0, .int .u32 0, .slice none 0 0, .int .u64 0] 30) = wa := ⟨_, rfl⟩
  have hbwa : Below w.heap.size w wa := by rw [← hwa]; exact ((Below.refl _ _).alloc (Nat.le_refl _) _).alloc (by simp) _
  have h0 : Has wa (w.heap.size) 26 (prA p) := by rw [← hwa]; exact ((Has.made _ _ _).beside _)
  have h1 : Has wa (w.heap.size + 1) 30 #[.int .i64 0, .int .i64 0, .int .i64 0, .int .u32 0, .int .u32 0, .slice none 0 0, .int .u64 0] := by rw [← hwa]; exact (has_at (by simp))
  have HWA := Lib.hid hwa; have HBWA := Lib.hid hbwa
  have HS := Lib.hid (osh_sent p 5 A c xs hpo hx8 hn wa (Sl.under hs hbwa))
  have HP := Lib.hid h0; have HZ := Lib.hid h1
  clear hwa hbwa h0 h1 hs hpo hn hx8
  generalize shSent p 5 xs = r at *
  obtain ⟨Q, g⟩ := r
  unfold prV at *
  go_enter Try.func19, Try.ntmps19
  go_upto_region 1 with fail
  rw [HWA.out]
  clear HWA
  go_wp2_with (with_reducible refine wpList_load_row (o := ⟨some 6, _, _, _, _, _⟩) rfl 26 _ rfl (w.heap.size) rfl 26 (prA p) (0, 0) _ (HP.out).raw Try.underlying26 rfl (by kernel_rfl) ?_)
  refine HS.out.mono ?_
  rintro e w1 ⟨A2, c2, rfl, hsl, hfr, hb1⟩
  have HZ1 := Lib.hid (HZ.out.under hb1.out HZ.out.lt); have HB1 := Lib.hid (HBWA.out.trans (hb1.out.mono HBWA.out.size))
  have HF1 : Hid (∀ a, A2 = some a → w.heap.size + 1 < a.block) := Lib.hid (fun a ha => Nat.lt_of_lt_of_le HZ.out.lt (hfr.out a ha))
  clear hfr hb1 HZ HS HP
  unfold pdV
  have HX0 := Lib.hid (HZ1.out); have HX2 := Lib.hid (has_setRow7 HZ1.out (pdA Q A2 c2))
  have HXB := Lib.hid (below_row (g := w.heap.size + 1) HB1.out (by omega) (pdA Q A2 c2))
  go_wp2_with (with_reducible refine wpList_store_rowTo (o := ⟨none, _, _, _, _, _⟩) rfl 30 _ _ rfl rfl (w.heap.size + 1) (pdA Q A2 c2) rfl rfl 30 _ (HX0.out).raw (by kernel_rfl) (by kernel_rfl) (by kernel_rfl) ?_)
  refine bodyPost_ret (results_row_tmp9 rfl _ _ (w.heap.size + 1) 30 _ _ rfl HX2.out Try.underlying30 rfl (by kernel_rfl)) rfl ?_
  exact ⟨A2, c2, rfl, Lib.hid (sl_row9 hsl.out (fun a ha => by have := HF1.out a ha; omega) _), Lib.hid (fun a ha => .inl (by have := HF1.out a ha; omega)), HXB⟩

set_option maxRecDepth 100000 in
set_option maxHeartbeats 4000000 in
theorem osh_take (p : Peer) (q : Pdu) (A : Option Addr) (c : Nat) (hpo : p.ok) (hk : q.ok) (hn : q.body.length ≤ 2000) (w : World) (hs : Sl w 1 A q.body.length c (u8s q.body)) :
    Calls Try.prog 21 #[prV p, pdV q A c] w (ShPostT A (shTake p q) w) := by
  obtain ⟨wa, hwa⟩ : ∃ wa, (w.alloc (.cells (prA p) 26)).alloc (.cells (pdA q A c) 30) = wa := ⟨_, rfl⟩
  have hbwa : Below w.heap.size w wa := by rw [← hwa]; exact ((Below.refl _ _).alloc (Nat.le_refl _) _).alloc (by simp) _
  have h0 : Has wa (w.heap.size) 26 (prA p) := by rw [← hwa]; exact ((Has.made _ _ _).beside _)
  have h1 : Has wa (w.heap.size + 1) 30 (pdA q A c) := by rw [← hwa]; exact (has_at (by simp))
  have HWA := Lib.hid hwa; have HBWA := Lib.hid hbwa
  have HCM := Lib.hid (osh_receivable p q A c 5 hpo hk hn wa (hs.under hbwa))
  have HCL := Lib.hid (fun W (hW : Below w.heap.size w W) => oclone_any A q.body.length c q.body rfl W (sl_at8 (Sl.under hs hW)) (by omega))
  have HP := Lib.hid h0; have HQ := Lib.hid h1
  have HC := Lib.hid (fun W (hW : Below wa.heap.size wa W) => h1.under hW h1.lt)
  clear hwa hbwa h0 h1 hs hpo hk hn
  obtain ⟨E, hE⟩ : ∃ E, shCame p q 5 = E := ⟨_, rfl⟩
  rw [hE] at HCM
  by_cases f1 : E = 0
  · subst f1
    have hr : shTake p q = (q.body, 0) := by unfold shTake; rw [if_pos hE]
    rw [hr]
    clear hr hE
    unfold prV pdV at *
    go_enter Try.func21, Try.ntmps21
    go_upto_region 1 with fail
    rw [HWA.out]
    clear HWA
    go_wp2_with (first | (with_reducible refine wpList_load_row (o := ⟨some 7, _, _, _, _, _⟩) rfl 26 _ rfl (w.heap.size) rfl 26 (prA p) (0, 0) _ (HP.out).raw Try.underlying26 rfl (by kernel_rfl) ?_) | (with_reducible refine wpList_load_row (o := ⟨some 8, _, _, _, _, _⟩) rfl 30 _ rfl (w.heap.size + 1) rfl 30 (pdA q A c) (0, 0) _ (HQ.out).raw Try.underlying30 rfl (by kernel_rfl) ?_))
    refine HCM.out.mono ?_
    rintro e w1 ⟨rfl, hb1⟩
    have hq := HC.out w1 hb1
    have d5 : w1.cell? ⟨w.heap.size + 1, 5, none⟩ = some (.slice A q.body.length c) := (hq).cell 5
    have hbw := HBWA.out.trans (hb1.mono HBWA.out.size)
    have HBW := Lib.hid hbw
    have HCL1 := Lib.hid (HCL.out w1 hbw)
    clear hb1 hq hbw HCL HC HP HQ HCM
    go_wp2_with fail
    refine HCL1.out.mono ?_
    rintro e w2 ⟨A2, c2, rfl, ho, hb2, _⟩
    have HSL := Lib.hid (Sl.of_own ho.out)
    have HFR : Hid (∀ a, A2 = some a → w.heap.size ≤ a.block) := Lib.hid (fun a e => by
      have h1 := (ho.out.lt a.block (by subst e; rfl)).1
      have h2 := HBW.out.size
      omega)
    have HB2 := Lib.hid (HBW.out.trans (hb2.out.mono HBW.out.size))
    clear ho hb2 HBW HCL1 d5
    go_wp2
    go_ret2
    exact ⟨A2, c2, rfl, HSL, Lib.hid (fun a ha => .inl (HFR.out a ha)), HB2⟩
  · have hr : shTake p q = ([], E) := by unfold shTake; rw [if_neg (by rw [hE]; exact f1), hE]
    rw [hr]
    have s0 : (E != 0) = true := by simp [f1]
    clear hr hE f1
    unfold prV pdV at *
    go_enter Try.func21, Try.ntmps21
    go_upto_region 1 with fail
    rw [HWA.out]
    clear HWA
    go_wp2_with (first | (with_reducible refine wpList_load_row (o := ⟨some 7, _, _, _, _, _⟩) rfl 26 _ rfl (w.heap.size) rfl 26 (prA p) (0, 0) _ (HP.out).raw Try.underlying26 rfl (by kernel_rfl) ?_) | (with_reducible refine wpList_load_row (o := ⟨some 8, _, _, _, _, _⟩) rfl 30 _ rfl (w.heap.size + 1) rfl 30 (pdA q A c) (0, 0) _ (HQ.out).raw Try.underlying30 rfl (by kernel_rfl) ?_))
    refine HCM.out.mono ?_
    rintro e w1 ⟨rfl, hb1⟩
    have HBW := Lib.hid (HBWA.out.trans (hb1.mono HBWA.out.size))
    clear hb1
    go_wp2
    go_ret2
    exact ⟨none, 0, rfl, Lib.hid (sl_nil _ _), Lib.hid (fun a ha => by cases ha), HBW⟩
end Go.Proofs.Ytekcnmimfhiblaa

/-
  package shake as landed: End, Close.
-/
namespace Go.Proofs.Ytekcnmimfhiblaa
open Go.RowKit
open Go.Great

set_option maxRecDepth 100000 in
set_option maxHeartbeats 4000000 in
theorem osh_end (p : Peer) (y : Nat) (hpo : p.ok) (hy : y < 256) (w : World) :
    Calls Try.prog 23 #[prV p, .int .u8 (y : Nat)] w (ShPostE (shEnd p y) w) := by
  rw [sent_end]
  obtain ⟨wa, hwa⟩ : ∃ wa, ((w.alloc (.cells (prA p) 26)).alloc (.cells #[.int .i64 0, .int .i64 0, .int .u32 0, .int .u32 0, .int .u32 0, .int .u32 0, .int .i64 0, .int .u32 0, .int .u32 0, .int .u32 0, .int .u32 0, .int .u32 0, .int .u32 0, .bool false, .int .u32 0, .int .u32 0] 26)).alloc (.cells #[.int .i64 0, .int .i64 0, .int .i64 0, .int .u32 0, .int .u32 0, .slice none 0 0, .int .u64 0] 30) = wa := ⟨_, rfl⟩
  have hbwa : Below w.heap.size w wa := by rw [← hwa]; exact (((Below.refl _ _).alloc (Nat.le_refl _) _).alloc (by simp) _).alloc (by simp; omega) _
  have h0 : Has wa (w.heap.size) 26 (prA p) := by rw [← hwa]; exact (((Has.made _ _ _).beside _).beside _)
  have h1 : Has wa (w.heap.size + 1) 26 #[.int .i64 0, .int .i64 0, .int .u32 0, .int .u32 0, .int .u32 0, .int .u32 0, .int .i64 0, .int .u32 0, .int .u32 0, .int .u32 0, .int .u32 0, .int .u32 0, .int .u32 0, .bool false, .int .u32 0, .int .u32 0] := by rw [← hwa]; exact ((has_at (by simp)).beside _)
  have h2 : Has wa (w.heap.size + 1 + 1) 30 #[.int .i64 0, .int .i64 0, .int .i64 0, .int .u32 0, .int .u32 0, .slice none 0 0, .int .u64 0] := by rw [← hwa]; exact (has_at (by simp))
  have HWA := Lib.hid hwa; have HBWA := Lib.hid hbwa
  obtain ⟨gr, hgr⟩ : ∃ gr, wa.heap.size = gr := ⟨_, rfl⟩
  obtain ⟨wr, hwr⟩ : ∃ wr, wa.alloc (.cells #[.int .u8 (y : Nat)] 5) = wr := ⟨_, rfl⟩
  have hbr : Below wa.heap.size wa wr := by rw [← hwr]; exact (Below.refl _ _).alloc (Nat.le_refl _) _
  have hrr : Has wr gr 5 #[.int .u8 (y : Nat)] := by rw [← hwr, ← hgr]; exact Has.made _ _ _
  have hSe : Calls Try.prog 41 #[prV p, .int .i64 6, .slice (some ⟨gr, 0, none⟩) 1 1] wr (ShPostS (shSent p 6 [y]) wr) :=
    osh_sent p 6 (some ⟨gr, 0, none⟩) 1 [y] hpo (fun x hx => (by simp at hx; omega)) (show 1 ≤ 2000 by decide) wr (sl_byte hrr)
  have HS := Lib.hid hSe
  have HCL := Lib.hid (fun W => osh_closed p W)
  have HP := Lib.hid h0
  have HC := Lib.hid (fun W (hW : Below wr.heap.size wr W) => And.intro ((h0.under hbr h0.lt).under hW (h0.under hbr h0.lt).lt) (And.intro ((h1.under hbr h1.lt).under hW (h1.under hbr h1.lt).lt) ((h2.under hbr h2.lt).under hW (h2.under hbr h2.lt).lt)))
  have HBR := Lib.hid (hbwa.trans (hbr.mono hbwa.size))
  have HGL := Lib.hid (h2.under hbr h2.lt).lt
  have HGR := Lib.hid hgr; have HWR := Lib.hid hwr
  clear hwa hbwa h0 h1 h2 hgr hwr hbr hrr hSe hpo hy
  generalize shSent p 6 [y] = r at *
  obtain ⟨Q, g⟩ := r
  by_cases hg : g = 0
  · subst hg
    rw [if_pos rfl]
    unfold prV at *
    go_enter Try.func23, Try.ntmps23
    go_upto_region 1 with fail
    rw [HWA.out]
    clear HWA
    go_wp2_with (with_reducible refine wpList_load_row (o := ⟨some 10, _, _, _, _, _⟩) rfl 26 _ rfl (w.heap.size) rfl 26 (prA p) (0, 0) _ (HP.out).raw Try.underlying26 rfl (by kernel_rfl) ?_)
    rw [HGR.out, HWR.out]
    refine HS.out.mono ?_
    rintro e w1 ⟨A2, c2, rfl, hsl, hfr, hb1⟩
    obtain ⟨hp1, hz1, hz2⟩ := HC.out w1 hb1.out
    have hbw := HBR.out.trans (hb1.out.mono HBR.out.size)
    have hf1 : ∀ a, A2 = some a → w.heap.size + 1 + 1 < a.block := fun a ha => Nat.lt_of_lt_of_le HGL.out (hfr.out a ha)
    obtain ⟨gx, hgx⟩ : ∃ gx, w1.heap.size = gx := ⟨_, rfl⟩
    obtain ⟨wc, hwc⟩ : ∃ wc, w1.alloc (.cells (pdA Q A2 c2) 30) = wc := ⟨_, rfl⟩
    have hbc : Below w1.heap.size w1 wc := by rw [← hwc]; exact (Below.refl _ _).alloc (Nat.le_refl _) _
    have hxc : Has wc gx 30 (pdA Q A2 c2) := by rw [← hwc, ← hgx]; exact Has.made _ _ _
    have hgl : w.heap.size + 1 + 1 < gx := by rw [← hgx]; exact hz2.lt
    have HX := Lib.hid hxc; have HY1 := Lib.hid (hz1.under hbc hz1.lt); have HY2 := Lib.hid (hz2.under hbc hz2.lt); have HPC := Lib.hid (hp1.under hbc hp1.lt); have HBC := Lib.hid (hbw.trans (hbc.mono hbw.size)); have HSL := Lib.hid (hsl.out.under hbc)
    have HWC := Lib.hid hwc; have HGX := Lib.hid hgx
    clear hp1 hz1 hz2 hbw hbc hxc hwc hgx hsl hfr hb1 HC HS HP HBR HGR HWR HBWA
    unfold pdV
    unfold pdA at HWC ⊢
    go_upto_region 2 with fail
    rw [HWC.out, HGX.out]
    go_upto_region 4 with fail
    go_cut [6] (fun sx wx => sx = .int .i64 0 ∧ Has wx (w.heap.size) 26 (prA p) ∧ Has wx (w.heap.size + 1) 26 (prA (shClosed p)) ∧ Has wx (w.heap.size + 1 + 1) 30 (pdA Q A2 c2) ∧ Has wx (gx) 30 (pdA Q A2 c2) ∧ Sl wx 1 A2 Q.body.length c2 (u8s Q.body) ∧ Below w.heap.size w wx)
    case first =>
      refine wp_region_held_drew (S := (fun W_ => Has W_ (w.heap.size) 26 (prA p) ∧ (∃ o_ : Array Value, Has W_ (w.heap.size + 1) 26 o_ ∧ o_.size = 16) ∧ (∃ o_ : Array Value, Has W_ (w.heap.size + 1 + 1) 30 o_ ∧ o_.size = 7) ∧ Has W_ (gx) 30 (pdA Q A2 c2) ∧ Sl W_ 1 A2 Q.body.length c2 (u8s Q.body) ∧ Below w.heap.size w W_)) (by kernel_rfl) ?_ (fun hHeld => ?_)
      · exact ⟨HPC.out.draw, ⟨_, HY1.out.draw, by kernel_rfl⟩, ⟨_, HY2.out.draw, by kernel_rfl⟩, HX.out.draw, HSL.out, below_dr HBC.out⟩
      refine wpAnyH_take (i := 0) (oi := ⟨some 21, _, _, _, _, _⟩) (v := .agg (prA p)) rfl (by kernel_rfl) (by kernel_rfl) (by kernel_rfl) (fun _ _ _ h => h) (yields_load_row9 rfl 26 _ rfl (w.heap.size) rfl 26 (prA p) _ (fun _ ⟨h_, _, _, _, _, _⟩ => h_) Try.underlying26 rfl (by kernel_rfl) (by rfl)) (by assumption) ?_
      simp only [Act.put, List.setIfInBounds_toArray, List.set_cons_zero, List.set_cons_succ]
      refine wpAnyH_take (i := 2) (oi := ⟨some 23, _, _, _, _, _⟩) (v := .agg (pdA Q A2 c2)) rfl (by kernel_rfl) (by kernel_rfl) (by kernel_rfl) (fun _ _ _ h => h) (yields_load_row9 rfl 30 _ rfl (gx) rfl 30 (pdA Q A2 c2) _ (fun _ ⟨_, _, _, h_, _, _⟩ => h_) Try.underlying30 rfl (by kernel_rfl) (by rfl)) (by assumption) ?_
      simp only [Act.put, List.setIfInBounds_toArray, List.set_cons_zero, List.set_cons_succ]
      refine wpAnyH_ready (rs := [1]) (by kernel_rfl) (by simp) ?_
      refine AllReadyH.cons (o := ⟨some 22, _, _, _, _, _⟩) rfl (fun K hK => ?_) ?_
      · go_simp
        obtain ⟨s0, s1, s2, s3, s4, s5⟩ := hHeld
        refine (HCL.out _).mono ?_
        rintro e vc ⟨rfl, hbc⟩
        go_wp2_with fail
        refine hK.out _ _ ?_ (fun hHeld => ?_)
        · exact ⟨s0.under hbc s0.lt, (let ⟨o_, h_, e_⟩ := s1; ⟨o_, h_.under hbc h_.lt, e_⟩), (let ⟨o_, h_, e_⟩ := s2; ⟨o_, h_.under hbc h_.lt, e_⟩), s3.under hbc s3.lt, s4.under hbc, s5.trans (hbc.mono s5.size)⟩
        clear hK K s0 s1 s2 s3 s4 s5
        try simp only [Act.put, List.setIfInBounds_toArray, List.set_cons_zero, List.set_cons_succ]
        refine wpAnyH_ready (rs := [3]) (by kernel_rfl) (by simp) ?_
        refine AllReadyH.cons (o := ⟨none, _, _, _, _, _⟩) rfl (fun K hK => ?_) ?_
        · rw [if_pos (by rfl)]
          obtain ⟨s0, s1, s2, s3, s4, s5⟩ := hHeld
          obtain ⟨o_, h_, e_⟩ := s1
          refine wp_store_row 26 _ _ rfl (w.heap.size + 1) (prA (shClosed p)) (by rfl) (by rfl) 26 o_ h_.raw (by kernel_rfl) e_ (by kernel_rfl) ?_
          refine hK.out _ _ ?_ (fun hHeld => ?_)
          · exact ⟨has_setRow_other7 s0 (by omega) _, ⟨_, has_setRow7 h_ (prA (shClosed p)), by kernel_rfl⟩, (let ⟨o_, h_, e_⟩ := s2; ⟨o_, has_setRow_other7 h_ (by omega) _, e_⟩), has_setRow_other7 s3 (by omega) _, sl_row9 s4 (fun a ha => by have := hf1 a ha; omega) _, below_row s5 (by omega) _⟩
          refine wpAnyH_more (T := (fun W_ => Has W_ (w.heap.size) 26 (prA p) ∧ Has W_ (w.heap.size + 1) 26 (prA (shClosed p)) ∧ (∃ o_ : Array Value, Has W_ (w.heap.size + 1 + 1) 30 o_ ∧ o_.size = 7) ∧ Has W_ (gx) 30 (pdA Q A2 c2) ∧ Sl W_ 1 A2 Q.body.length c2 (u8s Q.body) ∧ Below w.heap.size w W_)) (fun _ ⟨s0, s1, s2, s3, s4, s5⟩ => ⟨s0, ⟨_, s1, by kernel_rfl⟩, s2, s3, s4, s5⟩) ?_
          have hHeld2 : (fun W_ => Has W_ (w.heap.size) 26 (prA p) ∧ Has W_ (w.heap.size + 1) 26 (prA (shClosed p)) ∧ (∃ o_ : Array Value, Has W_ (w.heap.size + 1 + 1) 30 o_ ∧ o_.size = 7) ∧ Has W_ (gx) 30 (pdA Q A2 c2) ∧ Sl W_ 1 A2 Q.body.length c2 (u8s Q.body) ∧ Below w.heap.size w W_) _ := ⟨has_setRow_other7 s0 (by omega) _, has_setRow7 h_ (prA (shClosed p)), (let ⟨o_, h_, e_⟩ := s2; ⟨o_, has_setRow_other7 h_ (by omega) _, e_⟩), has_setRow_other7 s3 (by omega) _, sl_row9 s4 (fun a ha => by have := hf1 a ha; omega) _, below_row s5 (by omega) _⟩
          clear hHeld
          have hHeld := hHeld2
          clear hHeld2 hK K h_ e_ s0 s2 s3 s4 s5
          try simp only [Act.put]
          refine wpAnyH_ready (rs := [4]) (by kernel_rfl) (by simp) ?_
          refine AllReadyH.cons (o := ⟨none, _, _, _, _, _⟩) rfl (fun K hK => ?_) ?_
          · rw [if_pos (by rfl)]
            obtain ⟨s0, s1, s2, s3, s4, s5⟩ := hHeld
            obtain ⟨o_, h_, e_⟩ := s2
            refine wp_store_row 30 _ _ rfl (w.heap.size + 1 + 1) (pdA Q A2 c2) (by rfl) (by rfl) 30 o_ h_.raw (by kernel_rfl) e_ (by kernel_rfl) ?_
            refine hK.out _ _ ?_ (fun hHeld => ?_)
            · exact ⟨has_setRow_other7 s0 (by omega) _, has_setRow_other7 s1 (by omega) _, ⟨_, has_setRow7 h_ (pdA Q A2 c2), by kernel_rfl⟩, has_setRow_other7 s3 (by omega) _, sl_row9 s4 (fun a ha => by have := hf1 a ha; omega) _, below_row s5 (by omega) _⟩
            refine wpAnyH_more (T := (fun W_ => Has W_ (w.heap.size) 26 (prA p) ∧ Has W_ (w.heap.size + 1) 26 (prA (shClosed p)) ∧ Has W_ (w.heap.size + 1 + 1) 30 (pdA Q A2 c2) ∧ Has W_ (gx) 30 (pdA Q A2 c2) ∧ Sl W_ 1 A2 Q.body.length c2 (u8s Q.body) ∧ Below w.heap.size w W_)) (fun _ ⟨s0, s1, s2, s3, s4, s5⟩ => ⟨s0, s1, ⟨_, s2, by kernel_rfl⟩, s3, s4, s5⟩) ?_
            have hHeld2 : (fun W_ => Has W_ (w.heap.size) 26 (prA p) ∧ Has W_ (w.heap.size + 1) 26 (prA (shClosed p)) ∧ Has W_ (w.heap.size + 1 + 1) 30 (pdA Q A2 c2) ∧ Has W_ (gx) 30 (pdA Q A2 c2) ∧ Sl W_ 1 A2 Q.body.length c2 (u8s Q.body) ∧ Below w.heap.size w W_) _ := ⟨has_setRow_other7 s0 (by omega) _, has_setRow_other7 s1 (by omega) _, has_setRow7 h_ (pdA Q A2 c2), has_setRow_other7 s3 (by omega) _, sl_row9 s4 (fun a ha => by have := hf1 a ha; omega) _, below_row s5 (by omega) _⟩
            clear hHeld
            have hHeld := hHeld2
            clear hHeld2 hK K h_ e_ s0 s1 s3 s4 s5
            try simp only [Act.put]
            refine wpAnyH_take (i := 5) (oi := ⟨some 6, _, _, _, _, _⟩) (v := ?_) rfl (by kernel_rfl) (by kernel_rfl) (by kernel_rfl) (fun _ _ _ h => h) (Or.inl ⟨by rfl, ?_⟩) (by assumption) ?_
            rotate_left
            · intro w_ hSw; (try dsimp only at hSw); go_simp <;> with_reducible rfl
            simp only [Act.put, List.setIfInBounds_toArray, List.set_cons_zero, List.set_cons_succ]
            refine wpAnyH_done (by kernel_rfl) ?_ _
            go_wp2_with fail
            go_meet
            exact ⟨rfl, hHeld⟩
          exact AllReadyH.nil
        exact AllReadyH.nil
      exact AllReadyH.nil
    case rest =>
      obtain ⟨rfl, _, hy1, hy2, _, hsl2, hyb⟩ := hcut
      have HA1 := Lib.hid hy1; have HA2 := Lib.hid hy2; have HAB := Lib.hid hyb; have HAS := Lib.hid hsl2
      clear hy1 hy2 hyb hsl2
      go_wp2
      refine bodyPost_ret (results_cct9 rfl _ _ (w.heap.size + 1) (w.heap.size + 1 + 1) 26 30 _ _ _ _ rfl HA1.out Try.underlying26 rfl (by kernel_rfl) rfl HA2.out Try.underlying30 rfl (by kernel_rfl)) rfl ?_
      exact ⟨A2, c2, rfl, HAS, Lib.hid (fun a ha => by have := hf1 a ha; omega), HAB⟩
  · have s0 : (g != 0) = true := by simp [hg]
    rw [if_neg hg]
    unfold prV at *
    go_enter Try.func23, Try.ntmps23
    go_upto_region 1 with fail
    rw [HWA.out]
    clear HWA
    go_wp2_with (with_reducible refine wpList_load_row (o := ⟨some 10, _, _, _, _, _⟩) rfl 26 _ rfl (w.heap.size) rfl 26 (prA p) (0, 0) _ (HP.out).raw Try.underlying26 rfl (by kernel_rfl) ?_)
    rw [HGR.out, HWR.out]
    refine HS.out.mono ?_
    rintro e w1 ⟨A2, c2, rfl, hsl, hfr, hb1⟩
    obtain ⟨hp1, hz1, hz2⟩ := HC.out w1 hb1.out
    have hbw := HBR.out.trans (hb1.out.mono HBR.out.size)
    have hf1 : ∀ a, A2 = some a → w.heap.size + 1 + 1 < a.block := fun a ha => Nat.lt_of_lt_of_le HGL.out (hfr.out a ha)
    obtain ⟨gx, hgx⟩ : ∃ gx, w1.heap.size = gx := ⟨_, rfl⟩
    obtain ⟨wc, hwc⟩ : ∃ wc, w1.alloc (.cells (pdA Q A2 c2) 30) = wc := ⟨_, rfl⟩
    have hbc : Below w1.heap.size w1 wc := by rw [← hwc]; exact (Below.refl _ _).alloc (Nat.le_refl _) _
    have hxc : Has wc gx 30 (pdA Q A2 c2) := by rw [← hwc, ← hgx]; exact Has.made _ _ _
    have hgl : w.heap.size + 1 + 1 < gx := by rw [← hgx]; exact hz2.lt
    have HX := Lib.hid hxc; have HY1 := Lib.hid (hz1.under hbc hz1.lt); have HY2 := Lib.hid (hz2.under hbc hz2.lt); have HPC := Lib.hid (hp1.under hbc hp1.lt); have HBC := Lib.hid (hbw.trans (hbc.mono hbw.size)); have HSL := Lib.hid (hsl.out.under hbc)
    have HWC := Lib.hid hwc; have HGX := Lib.hid hgx
    clear hp1 hz1 hz2 hbw hbc hxc hwc hgx hsl hfr hb1 HC HS HP HBR HGR HWR HBWA
    unfold pdV
    unfold pdA at HWC ⊢
    go_upto_region 2 with fail
    rw [HWC.out, HGX.out]
    obtain ⟨hx1, hx2, hx3⟩ := two_rows HY1.out HY2.out (by omega) (prA peer0) (pdA pdZero none 0)
    have HX0 := Lib.hid (HY1.out); have HX1 := Lib.hid hx1; have HX2 := Lib.hid hx2; have HX3 := Lib.hid hx3
    have HXB := Lib.hid (below_row (g := w.heap.size + 1 + 1) (below_row (g := w.heap.size + 1) HBC.out (by omega) (prA peer0)) (by omega) (pdA pdZero none 0))
    clear hx1 hx2 hx3
    go_wp2_with (first | (with_reducible refine wpList_store_rowTo (o := ⟨none, _, _, _, _, _⟩) rfl 26 _ _ rfl rfl (w.heap.size + 1) (prA peer0) rfl rfl 26 _ (HX0.out).raw (by kernel_rfl) (by kernel_rfl) (by kernel_rfl) ?_) | (with_reducible refine wpList_store_rowTo (o := ⟨none, _, _, _, _, _⟩) rfl 30 _ _ rfl rfl (w.heap.size + 1 + 1) (pdA pdZero none 0) rfl rfl 30 _ (HX1.out).raw (by kernel_rfl) (by kernel_rfl) (by kernel_rfl) ?_))
    refine bodyPost_ret (results_cct9 rfl _ _ (w.heap.size + 1) (w.heap.size + 1 + 1) 26 30 _ _ _ _ rfl HX2.out Try.underlying26 rfl (by kernel_rfl) rfl HX3.out Try.underlying30 rfl (by kernel_rfl)) rfl ?_
    exact ⟨none, 0, rfl, Lib.hid (sl_nil _ _), Lib.hid (fun a ha => by cases ha), HXB⟩

set_option maxRecDepth 100000 in
set_option maxHeartbeats 4000000 in
theorem osh_close (p : Peer) (q : Pdu) (A : Option Addr) (c : Nat) (hpo : p.ok) (hk : q.ok) (hn : q.body.length ≤ 2000) (w : World) (hs : Sl w 1 A q.body.length c (u8s q.body)) :
    Calls Try.prog 25 #[prV p, pdV q A c] w (ShPost2 (shClose p q) w) := by
  obtain ⟨wa, hwa⟩ : ∃ wa, ((w.alloc (.cells (prA p) 26)).alloc (.cells (pdA q A c) 30)).alloc (.cells #[.int .i64 0, .int .i64 0, .int .u32 0, .int .u32 0, .int .u32 0, .int .u32 0, .int .i64 0, .int .u32 0, .int .u32 0, .int .u32 0, .int .u32 0, .int .u32 0, .int .u32 0, .bool false, .int .u32 0, .int .u32 0] 26) = wa := ⟨_, rfl⟩
  have hbwa : Below w.heap.size w wa := by rw [← hwa]; exact (((Below.refl _ _).alloc (Nat.le_refl _) _).alloc (by simp) _).alloc (by simp; omega) _
  have h0 : Has wa (w.heap.size) 26 (prA p) := by rw [← hwa]; exact (((Has.made _ _ _).beside _).beside _)
  have h1 : Has wa (w.heap.size + 1) 30 (pdA q A c) := by rw [← hwa]; exact ((has_at (by simp)).beside _)
  have h2 : Has wa (w.heap.size + 1 + 1) 26 #[.int .i64 0, .int .i64 0, .int .u32 0, .int .u32 0, .int .u32 0, .int .u32 0, .int .i64 0, .int .u32 0, .int .u32 0, .int .u32 0, .int .u32 0, .int .u32 0, .int .u32 0, .bool false, .int .u32 0, .int .u32 0] := by rw [← hwa]; exact (has_at (by simp))
  have HWA := Lib.hid hwa; have HBWA := Lib.hid hbwa
  have HF := Lib.hid (fun W (hW : Below w.heap.size w W) => osh_receivable p q A c 6 hpo hk hn W (Sl.under hs hW))
  have HCL := Lib.hid (fun W => osh_closed p W)
  have HP := Lib.hid h0; have HQ := Lib.hid h1
  have HC := Lib.hid (fun W (hW : Below wa.heap.size wa W) => And.intro (h0.under hW h0.lt) (And.intro (h1.under hW h1.lt) (h2.under hW h2.lt)))
  clear hwa h0 h1 h2
  clear hpo hk hn hs
  obtain ⟨E, hE⟩ : ∃ E, shCame p q 6 = E := ⟨_, rfl⟩
  rw [hE] at HF
  by_cases f1 : E = 0
  · subst f1
    have hr : shClose p q = (shClosed p, 0) := by unfold shClose; rw [if_pos hE]
    rw [hr]
    clear hr hE hbwa
    unfold prV pdV at *
    go_enter Try.func25, Try.ntmps25
    go_upto_region 1 with fail
    rw [HWA.out]
    clear HWA
    go_wp2_with (first | (with_reducible refine wpList_load_row (o := ⟨some 7, _, _, _, _, _⟩) rfl 26 _ rfl (w.heap.size) rfl 26 (prA p) (0, 0) _ (HP.out).raw Try.underlying26 rfl (by kernel_rfl) ?_) | (with_reducible refine wpList_load_row (o := ⟨some 8, _, _, _, _, _⟩) rfl 30 _ rfl (w.heap.size + 1) rfl 30 (pdA q A c) (0, 0) _ (HQ.out).raw Try.underlying30 rfl (by kernel_rfl) ?_))
    refine (HF.out _ HBWA.out).mono ?_
    rintro e w1 ⟨rfl, hb1⟩
    obtain ⟨hp, _, _⟩ := HC.out w1 hb1
    have HP1 := Lib.hid hp; have HB1 := Lib.hid hb1
    clear hp hb1
    go_wp2_with (with_reducible refine wpList_load_row (o := ⟨some 14, _, _, _, _, _⟩) rfl 26 _ rfl (w.heap.size) rfl 26 (prA p) (0, 0) _ (HP1.out).raw Try.underlying26 rfl (by kernel_rfl) ?_)
    refine (HCL.out _).mono ?_
    rintro e w2 ⟨rfl, hb2⟩
    have hb12 := HB1.out.trans (hb2.mono HB1.out.size)
    obtain ⟨_, _, hz1⟩ := HC.out w2 hb12
    have HZ1 := Lib.hid hz1; have HBW := Lib.hid (HBWA.out.trans (hb12.mono HBWA.out.size))
    clear hz1 hb12 hb2 HB1
    have HX0 := Lib.hid (HZ1.out); have HX2 := Lib.hid (has_setRow7 HZ1.out (prA (shClosed p)))
    have HXB := Lib.hid (below_row (g := w.heap.size + 1 + 1) HBW.out (by omega) (prA (shClosed p)))
    go_wp2_with (with_reducible refine wpList_store_rowTo (o := ⟨none, _, _, _, _, _⟩) rfl 26 _ _ rfl rfl (w.heap.size + 1 + 1) (prA (shClosed p)) rfl rfl 26 _ (HX0.out).raw (by kernel_rfl) (by kernel_rfl) (by kernel_rfl) ?_)
    refine bodyPost_ret (results_row_tmp9 rfl _ _ (w.heap.size + 1 + 1) 26 _ _ rfl HX2.out Try.underlying26 rfl (by kernel_rfl)) rfl ?_
    exact ⟨rfl, HXB.out⟩
  · have hr : shClose p q = (peer0, E) := by unfold shClose; rw [if_neg (by rw [hE]; exact f1), hE]
    rw [hr]
    have s0 : (E != 0) = true := by simp [f1]
    clear hr hE f1 hbwa
    unfold prV pdV at *
    go_enter Try.func25, Try.ntmps25
    go_upto_region 1 with fail
    rw [HWA.out]
    clear HWA
    go_wp2_with (first | (with_reducible refine wpList_load_row (o := ⟨some 7, _, _, _, _, _⟩) rfl 26 _ rfl (w.heap.size) rfl 26 (prA p) (0, 0) _ (HP.out).raw Try.underlying26 rfl (by kernel_rfl) ?_) | (with_reducible refine wpList_load_row (o := ⟨some 8, _, _, _, _, _⟩) rfl 30 _ rfl (w.heap.size + 1) rfl 30 (pdA q A c) (0, 0) _ (HQ.out).raw Try.underlying30 rfl (by kernel_rfl) ?_))
    refine (HF.out _ HBWA.out).mono ?_
    rintro e w1 ⟨rfl, hb1⟩
    obtain ⟨_, _, hz1⟩ := HC.out w1 hb1
    have HZ1 := Lib.hid hz1; have HBW := Lib.hid (HBWA.out.trans (hb1.mono HBWA.out.size))
    clear hb1 hz1
    have HX0 := Lib.hid (HZ1.out); have HX2 := Lib.hid (has_setRow7 HZ1.out (prA peer0))
    have HXB := Lib.hid (below_row (g := w.heap.size + 1 + 1) HBW.out (by omega) (prA peer0))
    go_wp2_with (with_reducible refine wpList_store_rowTo (o := ⟨none, _, _, _, _, _⟩) rfl 26 _ _ rfl rfl (w.heap.size + 1 + 1) (prA peer0) rfl rfl 26 _ (HX0.out).raw (by kernel_rfl) (by kernel_rfl) (by kernel_rfl) ?_)
    refine bodyPost_ret (results_row_tmp9 rfl _ _ (w.heap.size + 1 + 1) 26 _ _ rfl HX2.out Try.underlying26 rfl (by kernel_rfl)) rfl ?_
    exact ⟨rfl, HXB.out⟩
end Go.Proofs.Ytekcnmimfhiblaa
