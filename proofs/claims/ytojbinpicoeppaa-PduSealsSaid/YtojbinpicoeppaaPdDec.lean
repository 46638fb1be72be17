/-
  linesideref09.Decode, by contract.
-/
import Derived.Test.YtojbinpicoeppaaPdGet
import Derived.Test.YtojbinpicoeppaaKit9
import Derived.Great.BuildSlice
import Derived.Deep.RegionLaw
import Derived.Deep.RegionHeld3
import Derived.Deep.DeepCutAuto
namespace Go.Proofs.Ytojbinpicoeppaa
open Go.RowKit
open Go.Great

theorem parse_1 {xs : List Nat} {x : Nat} (hx : xs.getD 0 0 = x) (h : x / 2 = 1) : pdParse xs = ⟨(1 : Nat), (x % 2 : Nat), (pdGet xs 1 3 : Nat), pdGet xs 4 4, 0, [], 0⟩ := by
  simp only [pdParse, hx, h]
  simp
theorem parse_23 {xs : List Nat} {x k : Nat} (hx : xs.getD 0 0 = x) (h : x / 2 = k) (hk : k = 2 ∨ k = 3) : pdParse xs = ⟨(k : Nat), (x % 2 : Nat), (pdGet xs 1 3 : Nat), pdGet xs 4 4, pdGet xs 8 4, [], pdGet xs (xs.length - 8) 8⟩ := by
  rcases hk with rfl | rfl <;> (simp only [pdParse, hx, h]; simp)
theorem parse_5 {xs : List Nat} {x : Nat} (hx : xs.getD 0 0 = x) (h : x / 2 = 5) : pdParse xs = ⟨(5 : Nat), (x % 2 : Nat), (pdGet xs 1 3 : Nat), 0, pdGet xs 4 4, (xs.take (xs.length - 8)).drop 10, pdGet xs (xs.length - 8) 8⟩ := by
  simp only [pdParse, hx, h]
  simp
theorem parse_6 {xs : List Nat} {x : Nat} (hx : xs.getD 0 0 = x) (h : x / 2 = 6) : pdParse xs = ⟨(6 : Nat), (x % 2 : Nat), (pdGet xs 1 3 : Nat), 0, pdGet xs 4 4, (xs.take (xs.length - 8)).drop 8, pdGet xs (xs.length - 8) 8⟩ := by
  simp only [pdParse, hx, h]
  simp
theorem parse_no {xs : List Nat} {x k : Nat} (hx : xs.getD 0 0 = x) (h : x / 2 = k) (h1 : k ≠ 1) (h2 : k ≠ 2) (h3 : k ≠ 3) (h5 : k ≠ 5) (h6 : k ≠ 6) : pdParse xs = ⟨(k : Nat), (x % 2 : Nat), (pdGet xs 1 3 : Nat), 0, 0, [], 0⟩ := by
  simp only [pdParse, hx, h, h1, h2, h3, h5, h6]
  simp
theorem parse_body_len (xs : List Nat) : (pdParse xs).body.length ≤ xs.length := by
  show (if _ then _ else if _ then _ else _ : List Nat).length ≤ _
  have h1 : ∀ n m, ((xs.take n).drop m).length ≤ xs.length := fun n m => by rw [List.length_drop, List.length_take]; omega
  split
  · exact h1 _ _
  · split
    · exact h1 _ _
    · simp
theorem enc_8 {p : Pdu} (hk : p.ok) : bytes8 (pdEnc p) := by
  by_cases hm : pdMay p
  · have h := text_8 (p := p) hk.2.2.1
    unfold pdText at h
    rw [if_pos hm] at h
    unfold pdEnc pdEncV
    rw [if_pos hm]
    intro x hx
    rcases List.mem_append.1 hx with h1 | h1
    · exact h x h1
    · split at h1
      · exact be_8 _ _ x h1
      · cases h1
  · unfold pdEnc; rw [if_neg hm]; intro x hx; cases hx
theorem has_seven {w : World} {g : Nat} {t : TypeId} {a b c d e f i : Value} (h : Has w g t #[a, b, c, d, e, f, i]) : w.cell? ⟨g, 0, none⟩ = some a ∧ w.cell? ⟨g, 1, none⟩ = some b ∧ w.cell? ⟨g, 2, none⟩ = some c ∧ w.cell? ⟨g, 3, none⟩ = some d ∧ w.cell? ⟨g, 4, none⟩ = some e ∧ w.cell? ⟨g, 5, none⟩ = some f ∧ w.cell? ⟨g, 6, none⟩ = some i :=
  ⟨h.cell 0, h.cell 1, h.cell 2, h.cell 3, h.cell 4, h.cell 5, h.cell 6⟩
theorem thaw_seven {w : World} {g : Nat} {t : TypeId} {cs : Array Value} (h : Has w g t cs) : w.frozen? ⟨g, 0, none⟩ = false ∧ w.frozen? ⟨g, 1, none⟩ = false ∧ w.frozen? ⟨g, 2, none⟩ = false ∧ w.frozen? ⟨g, 3, none⟩ = false ∧ w.frozen? ⟨g, 4, none⟩ = false ∧ w.frozen? ⟨g, 5, none⟩ = false ∧ w.frozen? ⟨g, 6, none⟩ = false :=
  ⟨h.thaw 0, h.thaw 1, h.thaw 2, h.thaw 3, h.thaw 4, h.thaw 5, h.thaw 6⟩
/-- What a decoder answers of the bytes xs. -/
def DecAns (xs : List Nat) (p : Pdu) (err : Int) : Prop := (pdDec xs = some p ∧ err = 0) ∨ (pdDec xs = none ∧ p = pdZero ∧ err = 8)

set_option maxRecDepth 100000 in
set_option maxHeartbeats 4000000 in
theorem ref_decode (A : Option Addr) (c : Nat) (xs : List Nat) (w : World) (ha : At8 w A xs) (hb : bytes8 xs) (hn : xs.length ≤ 2000) (hcap : xs.length ≤ c) (h1 : 1 ≤ xs.length) :
    Calls Try.prog 17 #[.slice A xs.length c] w fun e w' => ∃ p A' c' err, e = .returned (.tuple #[pdV p A' c', .int .i64 err]) ∧ DecAns xs p err ∧ Hid (Sl w' 1 A' p.body.length c' (u8s p.body)) ∧ Hid (∀ a, A' = some a → w.heap.size < a.block) ∧ Hid (Below w.heap.size w w') := by
  have HA := Lib.hid (fun W (hW : Below w.heap.size w W) => at8_low8 ha hW)
  have HBY := Lib.hid hb
  obtain ⟨b0, o0, rfl, f0⟩ := at8_at8 ha (j := 0) (by omega)
  have hx0 := getD_lt hb 0
  obtain ⟨x, hx⟩ : ∃ x, xs.getD 0 0 = x := ⟨_, rfl⟩
  rw [hx] at f0 hx0
  have HX := Lib.hid hx
  have HG := Lib.hid (fun (i m : Nat) (I M : Int) (hI : I = (i : Nat)) (hM : M = (m : Nat)) (hm : m ≤ 8) (hi : i ≤ 100000) W (hW : Below w.heap.size w W) => ref_get (some ⟨b0, o0, none⟩) c xs i m I M hI hM hm W (HA.out W hW) hb hn hi)
  have HGE := Lib.hid (fun (I : Int) (hI : I = (xs.length : Nat) - (8 : Int)) W (hW : Below w.heap.size w W) => ref_get_end (some ⟨b0, o0, none⟩) c xs I hI W (HA.out W hW) hb hn)
  have HF := Lib.hid (fun W (hW : Below w.heap.size w W) => (hW.cell (p := ⟨b0, o0 + 0, none⟩) (cell_block f0)).trans f0)
  have hlen : ¬ (xs.length : Int) < 1 := by omega
  have hlen0 : (0 : Int) < (xs.length : Int) := by omega
  have hg3 := get_lt hb 1 3
  have e3 : (256 : Nat) ^ 3 = 16777216 := by decide
  rw [e3] at hg3
  have hlen1 : 0 < xs.length := by omega
  obtain ⟨L, hL⟩ : ∃ L, xs.length = L := ⟨_, rfl⟩
  have HL := Lib.hid hL
  rw [hL] at HG HGE hlen hlen0 hlen1 hn h1 hcap ⊢
  clear ha hb hx e3 hL
  go_enter Try.func17, Try.ntmps17
  go_upto_region 3 with fail
  obtain ⟨wa, hwa⟩ : ∃ wa, w.alloc (.cells #[.int .i64 0, .int .i64 0, .int .i64 0, .int .u32 0, .int .u32 0, .slice none 0 0, .int .u64 0] 26) = wa := ⟨_, rfl⟩
  rw [hwa]
  have hba : Below w.heap.size w wa := by rw [← hwa]; exact (Below.refl _ _).alloc (Nat.le_refl _) _
  have HR0 : Hid (Has wa w.heap.size 26 #[.int .i64 0, .int .i64 0, .int .i64 0, .int .u32 0, .int .u32 0, .slice none 0 0, .int .u64 0]) := Lib.hid (by rw [← hwa]; exact Has.made _ _ _)
  have HSA : Hid (wa.heap.size = w.heap.size + 1) := Lib.hid (by rw [← hwa]; simp)
  have HBA := Lib.hid hba
  have ff := HF.out wa hba
  have hbn : b0 ≠ wa.heap.size := by have := cell_block ff; simp only at this; omega
  clear hwa hba
  have x1 : ((x : Nat) : Int).tmod 2 = ((x % 2 : Nat) : Int) := rfl
  have x2 : ((x : Nat) : Int).tdiv 2 = ((x / 2 : Nat) : Int) := rfl
  have x3 : IntKind.i64.wrap (x : Int) = (x : Int) := IntWalk.i64_in _ (by omega)
  have x4 : IntKind.i64.wrap ((x : Int) / 2) = ((x / 2 : Nat) : Int) := by rw [IntWalk.i64_in _ (by omega)]; omega
  generalize hT : pdGet xs 1 3 = T at *
  have HT := Lib.hid hT
  have HG3 := Lib.hid (fun W hW => HG.out 1 3 1 3 rfl rfl (by decide) (by decide) W hW)
  rw [hT] at HG3
  have x5 : IntKind.i64.wrap (T : Int) = (T : Int) := IntWalk.i64_in _ (by omega)
  clear hT
  go_cut [4] (fun s4 wx => ∃ g, s4 = .pointer (some ⟨g, 0, none⟩) ∧ w.heap.size < g ∧ Has wx g 26 #[.int .i64 (x / 2 : Nat), .int .i64 (x % 2 : Nat), .int .i64 (T : Nat), .int .u32 0, .int .u32 0, .slice none 0 0, .int .u64 0] ∧ Has wx w.heap.size 26 #[.int .i64 0, .int .i64 0, .int .i64 0, .int .u32 0, .int .u32 0, .slice none 0 0, .int .u64 0] ∧ Below w.heap.size w wx)
  case first =>
    go_region_held3 (fun W => W.cell? ⟨b0, o0, none⟩ = some (.int .u8 (x : Nat))) (first | exact ff | exact cell_beside ff | go_keep) (first
      | (go_at_call 28; with_reducible refine (HG3.out _ (by first | exact HBA.out | exact below_dr HBA.out | exact below_dr (HBA.out.alloc HBA.out.size _) | exact (below_dr HBA.out).alloc HBA.out.size _ | exact HBA.out.alloc HBA.out.size _)).mono ?_; rintro e w3 ⟨rfl, rfl⟩))
    all_goals (go_wp2_with fail; go_meet; exact ⟨wa.heap.size, rfl, by have := HSA.out; omega, (Has.made _ _ _).draw, (HR0.out.beside _).draw, below_dr (HBA.out.alloc HBA.out.size _)⟩)
  case rest =>
    obtain ⟨g, rfl, hg, hh, hz, hb⟩ := hcut
    have HH := Lib.hid hh; have HZ := Lib.hid hz; have HB := Lib.hid hb
    obtain ⟨c0, c1, c2, c3, c4, c5, c6⟩ := has_seven hh
    obtain ⟨z0, z1, z2, z3, z4, z5, z6⟩ := thaw_seven hh
    clear hh hz hb x1 x2 x3 x4 x5 ff hbn HG3
    obtain ⟨k, hk⟩ : ∃ k, x / 2 = k := ⟨_, rfl⟩
    obtain ⟨d, hd⟩ : ∃ d, x % 2 = d := ⟨_, rfl⟩
    rw [hk, hd] at HH
    rw [hk] at c0
    rw [hd] at c1
    have HK := Lib.hid hk; have HD := Lib.hid hd
    clear hk hd
    go_upto_block 0 with fail
    go_cut [] (fun wx => ∃ A' c', Has wx g 26 (pdA (pdParse xs) A' c') ∧ Sl wx 1 A' (pdParse xs).body.length c' (u8s (pdParse xs).body) ∧ (∀ a, A' = some a → w.heap.size < a.block) ∧ Has wx w.heap.size 26 #[.int .i64 0, .int .i64 0, .int .i64 0, .int .u32 0, .int .u32 0, .slice none 0 0, .int .u64 0] ∧ Below w.heap.size w wx)
    case first =>
      have hT := HT.out
      obtain ⟨G4, hG4⟩ : ∃ G4, pdGet xs 4 4 = G4 := ⟨_, rfl⟩
      obtain ⟨G8, hG8⟩ : ∃ G8, pdGet xs 8 4 = G8 := ⟨_, rfl⟩
      obtain ⟨GM, hGM⟩ : ∃ GM, pdGet xs (xs.length - 8) 8 = GM := ⟨_, rfl⟩
      have l4 := get_lt HBY.out 4 4
      have l8 := get_lt HBY.out 8 4
      rw [pow256_4] at l4 l8
      have H4 := Lib.hid (fun W hW => HG.out 4 4 4 4 rfl rfl (by decide) (by decide) W hW)
      have H8 := Lib.hid (fun W hW => HG.out 8 4 8 4 rfl rfl (by decide) (by decide) W hW)
      have HM := Lib.hid (fun W hW => HGE.out ((L : Int) - 8) rfl W hW)
      have hs : ∀ W o u, Below w.heap.size w W → Below w.heap.size w (W.setCell ⟨g, o, none⟩ u) := fun W o u h => h.setCell (p := ⟨g, o, none⟩) (by show w.heap.size ≤ g; omega) u
      have HS := Lib.hid hs
      have p1 := fun (h : k = 1) => parse_1 (xs := xs) HX.out (HK.out.trans h)
      have p23 := parse_23 (xs := xs) HX.out HK.out
      have p5 := fun (h : k = 5) => parse_5 (xs := xs) HX.out (HK.out.trans h)
      have p6 := fun (h : k = 6) => parse_6 (xs := xs) HX.out (HK.out.trans h)
      have p0 := parse_no (xs := xs) HX.out HK.out
      simp only [HD.out, hT, hG4, hG8, hGM] at p1 p23 p5 p6 p0
      rw [hG4] at l4 H4
      rw [hG8] at l8 H8
      rw [HL.out] at hGM
      rw [hGM] at HM
      have hpz := HH.out.other HZ.out
      clear hs hG4 hG8 hGM hT HT HG HGE
      have P1 := Lib.hid p1; have P23 := Lib.hid p23; have P5 := Lib.hid p5; have P6 := Lib.hid p6; have P0 := Lib.hid p0
      clear p1 p23 p5 p6 p0 hpz HK HD
      by_cases k1 : k = 1
      · subst k1
        have HP := Lib.hid (P1.out rfl)
        clear P1 P23 P5 P6 P0
        go_wp2_with fail
        refine (H4.out _ HB.out).mono ?_
        rintro e w3 ⟨rfl, rfl⟩
        go_wp2_with fail
        go_meet
        refine ⟨none, 0, ?_, ?_, (fun a ha => by cases ha), HZ.out.apart (by show w.heap.size ≠ g; omega) _, HS.out _ _ _ HB.out⟩
        · rw [HP.out]; exact HH.out.stored 3 _
        · rw [HP.out]; exact sl_nil _ _
      by_cases k23 : k = 2 ∨ k = 3
      · have HP := Lib.hid (P23.out k23)
        have hk4 : (k = 2 ∧ ((k : Int) == 2) = true) ∨ (k = 3 ∧ ((k : Int) == 2) = false) := by rcases k23 with rfl | rfl <;> simp
        clear P1 P23 P5 P6 P0 k1 k23
        rcases hk4 with ⟨rfl, _⟩ | ⟨rfl, _⟩
        all_goals
          go_wp2_with fail
          refine (H4.out _ HB.out).mono ?_
          rintro e w3 ⟨rfl, rfl⟩
          go_wp2_with fail
          refine (H8.out _ (HS.out _ _ _ HB.out)).mono ?_
          rintro e w4 ⟨rfl, rfl⟩
          go_wp2_with fail
          refine (HM.out _ (HS.out _ _ _ (HS.out _ _ _ HB.out))).mono ?_
          rintro e w5 ⟨rfl, rfl⟩
          go_wp2_with fail
          go_meet
          refine ⟨none, 0, ?_, ?_, (fun a ha => by cases ha), ((HZ.out.apart (by show w.heap.size ≠ g; omega) _).apart (by show w.heap.size ≠ g; omega) _).apart (by show w.heap.size ≠ g; omega) _, HS.out _ _ _ (HS.out _ _ _ (HS.out _ _ _ HB.out))⟩
          · rw [HP.out]; exact ((HH.out.stored 3 _).stored 4 _).stored 6 _
          · rw [HP.out]; exact sl_nil _ _
      by_cases k5 : k = 5
      · subst k5
        have HP := Lib.hid (P5.out rfl)
        clear P1 P23 P5 P6 P0 k1 k23 
        have HW5 := Lib.hid (HS.out _ 6 (.int .u64 (GM : Nat)) (HS.out _ 4 (.int .u32 (G4 : Nat)) HB.out))
        have HH5 := Lib.hid ((HH.out.stored 4 (.int .u32 (G4 : Nat))).stored 6 (.int .u64 (GM : Nat)))
        have HZ5 := Lib.hid ((HZ.out.apart (p := ⟨g, 4, none⟩) (by show w.heap.size ≠ g; omega) (.int .u32 (G4 : Nat))).apart (p := ⟨g, 6, none⟩) (by show w.heap.size ≠ g; omega) (.int .u64 (GM : Nat)))
        go_wp2_with fail
        refine (H4.out _ HB.out).mono ?_
        rintro e w3 ⟨rfl, rfl⟩
        go_wp2_with fail
        refine (HM.out _ (HS.out _ _ _ HB.out)).mono ?_
        rintro e w5 ⟨rfl, rfl⟩
        obtain ⟨w6, hw6⟩ : ∃ w6, ((wc.setCell ⟨g, 4, none⟩ (.int .u32 (G4 : Nat))).setCell ⟨g, 6, none⟩ (.int .u64 (GM : Nat))) = w6 := ⟨_, rfl⟩
        rw [hw6] at HW5 HH5 HZ5
        have HW6 := Lib.hid hw6
        clear hw6
        by_cases hE : 10 + 8 < L
        · have y0 : (10 : Int) < (L : Int) - 8 := by omega
          have hcm : ∀ W, (Instr.sliceAt 23 (.slice (some ⟨b0, o0, none⟩) L c) (some (.int .i64 10)) (some (.int .i64 ((L : Int) - 8))) none).run Try.prog W = .ok (.slice (some ⟨b0, o0 + 10, none⟩) (L - 8 - 10) (c - 10)) W := fun W => by
            have h := cut_mid9 (P := Try.prog) 23 5 Try.underlying23 size_u8 (some ⟨b0, o0, none⟩) L c 10 (L - 8) (by omega) (by omega) W
            rw [if_neg (by omega), show ((L - 8 : Nat) : Int) = (L : Int) - 8 by omega] at h
            exact h
          have hsm : ∀ W, Below w.heap.size w W → Sl W 1 (some ⟨b0, o0 + 10, none⟩) (L - 8 - 10) (c - 10) (u8s ((xs.take (xs.length - 8)).drop 10)) := fun W hW => by
            have h := sl_mid9 (sl_bytes (c := c) (HA.out W hW) (by intro e; cases e)) (p := 10) (q := xs.length - 8) (by have := HL.out; omega) (by have := HL.out; omega) (by have := HL.out; omega)
            rw [u8s_mid, HL.out, if_neg (by omega)] at h
            rw [HL.out]
            exact h
          have hbl : ((xs.take (xs.length - 8)).drop 10).length = L - 8 - 10 := by have := HL.out; rw [List.length_drop, List.length_take]; omega
          obtain ⟨B, hB⟩ : ∃ B, (xs.take (xs.length - 8)).drop 10 = B := ⟨_, rfl⟩
          obtain ⟨m, hm⟩ : ∃ m, L - 8 - 10 = m := ⟨_, rfl⟩
          obtain ⟨cc, hcc⟩ : ∃ cc, c - 10 = cc := ⟨_, rfl⟩
          rw [hB, hm] at hbl
          rw [hB, hm, hcc] at hsm
          rw [hB] at HP
          simp only [hm, hcc] at hcm
          have HSL : Hid (Sl w6.drew 1 (some ⟨b0, o0 + 10, none⟩) m cc (u8s B)) := Lib.hid (hsm w6 HW5.out)
          have HON := Lib.hid (u8s_one B)
          have HBD : Hid (0 + m ≤ maxLen ∧ (0 + m) * 1 ≤ 140737488355328 ∧ w6.heap.size ≤ w6.drew.heap.size) := Lib.hid ⟨by unfold maxLen; omega, by omega, Nat.le_refl _⟩
          have HBL := Lib.hid hbl
          have q5 : w6.cell? ⟨g, 5, none⟩ = some (.slice none 0 0) := HH5.out.cell 5
          clear hsm hbl hB hm hcc
          go_upto_region 17 with fail
          rw [HW6.out]
          clear c0 c1 c2 c3 c4 c5 c6 z0 z1 z2 z3 z4 z5 z6
          go_region_law (first
            | (refine step_pour9 (o := ⟨some 69, _, _, _, _, _⟩) (by rfl) (.tmp 65) (.tmp 68) 23 (by rfl) w6.heap.size 5 (.int .u8 0) 1 1 Try.underlying23 info_u8 (by rfl) (by decide) none 0 0 [] (by rfl) (Lib.hid (World.ownsRow_nil _ _ _ _)) (some ⟨b0, o0 + 10, none⟩) m _ (u8s B) (by rfl) HSL HON HBD ?_; intro A7 c7 w7 ho7 hg7; have hh7 := HH5.out.draw.grow hg7.out (by simp [Value.ownBlock]); have e5 : w7.cell? ⟨g, 5, none⟩ = some (.slice none 0 0) := hh7.cell 5; have f5 : w7.frozen? ⟨g, 5, none⟩ = false := hh7.thaw 5))
          all_goals
            have hz7 := HZ5.out.draw.grow hg7.out (by simp [Value.ownBlock])
            have hb7 : Below w.heap.size w w7 := below_own (below_dr HW5.out) (below_dr HW5.out).size (World.ownsRow_nil _ w6.heap.size 5 1) (HW5.out.size) rfl hg7.out
            have ho := ho7.out
            rw [Nat.zero_add, List.nil_append] at ho
            have hg8 : w7.grownBy (w7.setCell ⟨g, 5, none⟩ (.slice A7 m c7)) (some g) := only_store (only_refl _ _) rfl _
            have ho8 := own_keep ho hg8 (own_apart ho hh7 (by decide))
            go_wp2_with fail
            go_meet
            refine ⟨A7, c7, ?_, ?_, (fun a ha => own_past ho ha (by have := HW5.out.size; have := HH5.out.lt; omega)), hz7.apart (by show w.heap.size ≠ g; omega) _, HS.out _ _ _ hb7⟩
            · rw [HP.out]; unfold pdA; simp only [HBL.out]; exact hh7.stored 5 _
            · rw [HP.out]; simp only [HBL.out]; exact Sl.of_own ho8
        · have y0 : ¬ (10 : Int) < (L : Int) - 8 := by omega
          have hbl : (xs.take (xs.length - 8)).drop 10 = [] := by have := HL.out; apply List.eq_nil_of_length_eq_zero; rw [List.length_drop, List.length_take]; omega
          rw [hbl] at HP
          clear hbl
          go_wp2_with fail
          rw [HW6.out]
          go_meet
          refine ⟨none, 0, ?_, ?_, (fun a ha => by cases ha), HZ5.out, HW5.out⟩
          · rw [HP.out]; exact HH5.out
          · rw [HP.out]; exact sl_nil _ _
      by_cases k6 : k = 6
      · subst k6
        have HP := Lib.hid (P6.out rfl)
        clear P1 P23 P5 P6 P0 k1 k23 k5
        have HW5 := Lib.hid (HS.out _ 6 (.int .u64 (GM : Nat)) (HS.out _ 4 (.int .u32 (G4 : Nat)) HB.out))
        have HH5 := Lib.hid ((HH.out.stored 4 (.int .u32 (G4 : Nat))).stored 6 (.int .u64 (GM : Nat)))
        have HZ5 := Lib.hid ((HZ.out.apart (p := ⟨g, 4, none⟩) (by show w.heap.size ≠ g; omega) (.int .u32 (G4 : Nat))).apart (p := ⟨g, 6, none⟩) (by show w.heap.size ≠ g; omega) (.int .u64 (GM : Nat)))
        go_wp2_with fail
        refine (H4.out _ HB.out).mono ?_
        rintro e w3 ⟨rfl, rfl⟩
        go_wp2_with fail
        refine (HM.out _ (HS.out _ _ _ HB.out)).mono ?_
        rintro e w5 ⟨rfl, rfl⟩
        obtain ⟨w6, hw6⟩ : ∃ w6, ((wc.setCell ⟨g, 4, none⟩ (.int .u32 (G4 : Nat))).setCell ⟨g, 6, none⟩ (.int .u64 (GM : Nat))) = w6 := ⟨_, rfl⟩
        rw [hw6] at HW5 HH5 HZ5
        have HW6 := Lib.hid hw6
        clear hw6
        by_cases hE : 8 + 8 < L
        · have y0 : (8 : Int) < (L : Int) - 8 := by omega
          have hcm : ∀ W, (Instr.sliceAt 23 (.slice (some ⟨b0, o0, none⟩) L c) (some (.int .i64 8)) (some (.int .i64 ((L : Int) - 8))) none).run Try.prog W = .ok (.slice (some ⟨b0, o0 + 8, none⟩) (L - 8 - 8) (c - 8)) W := fun W => by
            have h := cut_mid9 (P := Try.prog) 23 5 Try.underlying23 size_u8 (some ⟨b0, o0, none⟩) L c 8 (L - 8) (by omega) (by omega) W
            rw [if_neg (by omega), show ((L - 8 : Nat) : Int) = (L : Int) - 8 by omega] at h
            exact h
          have hsm : ∀ W, Below w.heap.size w W → Sl W 1 (some ⟨b0, o0 + 8, none⟩) (L - 8 - 8) (c - 8) (u8s ((xs.take (xs.length - 8)).drop 8)) := fun W hW => by
            have h := sl_mid9 (sl_bytes (c := c) (HA.out W hW) (by intro e; cases e)) (p := 8) (q := xs.length - 8) (by have := HL.out; omega) (by have := HL.out; omega) (by have := HL.out; omega)
            rw [u8s_mid, HL.out, if_neg (by omega)] at h
            rw [HL.out]
            exact h
          have hbl : ((xs.take (xs.length - 8)).drop 8).length = L - 8 - 8 := by have := HL.out; rw [List.length_drop, List.length_take]; omega
          obtain ⟨B, hB⟩ : ∃ B, (xs.take (xs.length - 8)).drop 8 = B := ⟨_, rfl⟩
          obtain ⟨m, hm⟩ : ∃ m, L - 8 - 8 = m := ⟨_, rfl⟩
          obtain ⟨cc, hcc⟩ : ∃ cc, c - 8 = cc := ⟨_, rfl⟩
          rw [hB, hm] at hbl
          rw [hB, hm, hcc] at hsm
          rw [hB] at HP
          simp only [hm, hcc] at hcm
          have HSL : Hid (Sl w6.drew 1 (some ⟨b0, o0 + 8, none⟩) m cc (u8s B)) := Lib.hid (hsm w6 HW5.out)
          have HON := Lib.hid (u8s_one B)
          have HBD : Hid (0 + m ≤ maxLen ∧ (0 + m) * 1 ≤ 140737488355328 ∧ w6.heap.size ≤ w6.drew.heap.size) := Lib.hid ⟨by unfold maxLen; omega, by omega, Nat.le_refl _⟩
          have HBL := Lib.hid hbl
          have q5 : w6.cell? ⟨g, 5, none⟩ = some (.slice none 0 0) := HH5.out.cell 5
          clear hsm hbl hB hm hcc
          go_upto_region 22 with fail
          rw [HW6.out]
          clear c0 c1 c2 c3 c4 c5 c6 z0 z1 z2 z3 z4 z5 z6
          go_region_law (first
            | (refine step_pour9 (o := ⟨some 88, _, _, _, _, _⟩) (by rfl) (.tmp 84) (.tmp 87) 23 (by rfl) w6.heap.size 5 (.int .u8 0) 1 1 Try.underlying23 info_u8 (by rfl) (by decide) none 0 0 [] (by rfl) (Lib.hid (World.ownsRow_nil _ _ _ _)) (some ⟨b0, o0 + 8, none⟩) m _ (u8s B) (by rfl) HSL HON HBD ?_; intro A7 c7 w7 ho7 hg7; have hh7 := HH5.out.draw.grow hg7.out (by simp [Value.ownBlock]); have e5 : w7.cell? ⟨g, 5, none⟩ = some (.slice none 0 0) := hh7.cell 5; have f5 : w7.frozen? ⟨g, 5, none⟩ = false := hh7.thaw 5))
          all_goals
            have hz7 := HZ5.out.draw.grow hg7.out (by simp [Value.ownBlock])
            have hb7 : Below w.heap.size w w7 := below_own (below_dr HW5.out) (below_dr HW5.out).size (World.ownsRow_nil _ w6.heap.size 5 1) (HW5.out.size) rfl hg7.out
            have ho := ho7.out
            rw [Nat.zero_add, List.nil_append] at ho
            have hg8 : w7.grownBy (w7.setCell ⟨g, 5, none⟩ (.slice A7 m c7)) (some g) := only_store (only_refl _ _) rfl _
            have ho8 := own_keep ho hg8 (own_apart ho hh7 (by decide))
            go_wp2_with fail
            go_meet
            refine ⟨A7, c7, ?_, ?_, (fun a ha => own_past ho ha (by have := HW5.out.size; have := HH5.out.lt; omega)), hz7.apart (by show w.heap.size ≠ g; omega) _, HS.out _ _ _ hb7⟩
            · rw [HP.out]; unfold pdA; simp only [HBL.out]; exact hh7.stored 5 _
            · rw [HP.out]; simp only [HBL.out]; exact Sl.of_own ho8
        · have y0 : ¬ (8 : Int) < (L : Int) - 8 := by omega
          have hbl : (xs.take (xs.length - 8)).drop 8 = [] := by have := HL.out; apply List.eq_nil_of_length_eq_zero; rw [List.length_drop, List.length_take]; omega
          rw [hbl] at HP
          clear hbl
          go_wp2_with fail
          rw [HW6.out]
          go_meet
          refine ⟨none, 0, ?_, ?_, (fun a ha => by cases ha), HZ5.out, HW5.out⟩
          · rw [HP.out]; exact HH5.out
          · rw [HP.out]; exact sl_nil _ _
      have HP := Lib.hid (P0.out k1 (by omega) (by omega) k5 k6)
      have e1 : ((k : Int) == 1) = false := by rw [beq_eq_false_iff_ne]; omega
      have e2 : ((k : Int) == 2) = false := by rw [beq_eq_false_iff_ne]; omega
      have e3 : ((k : Int) == 3) = false := by rw [beq_eq_false_iff_ne]; omega
      have e5 : ((k : Int) == 5) = false := by rw [beq_eq_false_iff_ne]; omega
      have e6 : ((k : Int) == 6) = false := by rw [beq_eq_false_iff_ne]; omega
      clear P1 P23 P5 P6 P0 k1 k23 k5 k6
      go_wp2_with fail
      go_meet
      refine ⟨none, 0, ?_, ?_, (fun a ha => by cases ha), HZ.out, HB.out⟩
      · rw [HP.out]; exact HH.out
      · rw [HP.out]; exact sl_nil _ _
    case rest =>
      clear HH HZ HB c0 c1 c2 c3 c4 c5 c6 z0 z1 z2 z3 z4 z5 z6 HG HGE HK HD hx0 hg3 HR0 HSA HBA HT
      obtain ⟨A3, c3, hh3, hs3, hap, hz3, hb3⟩ := hcut
      have HAP := Lib.hid hap
      have hpk := parse_ok HBY.out
      have hpl := parse_body_len xs
      obtain ⟨p, hp⟩ : ∃ p, pdParse xs = p := ⟨_, rfl⟩
      rw [hp] at hh3 hs3 hpk hpl
      have hl := HL.out
      have HEN := Lib.hid (ref_encode p A3 c3 hpk (by omega) wc hs3)
      obtain ⟨k0, k1, k2, k3, k4, k5, k6⟩ := has_seven hh3
      have HH3 := Lib.hid hh3; have HZ3 := Lib.hid hz3; have HB3 := Lib.hid hb3; have HS3 := Lib.hid hs3; have HP := Lib.hid hp
      have hdec : pdDec xs = if pdMay p ∧ pdEnc p = xs then some p else none := by
        unfold pdDec
        rw [hp]
        have h1' : 1 ≤ xs.length := by omega
        simp only [h1', true_and]
      have HDE := Lib.hid hdec
      have hsz : ∀ (W : World), Below wc.heap.size wc W → Has W g 26 (pdA p A3 c3) ∧ Has W w.heap.size 26 #[.int .i64 0, .int .i64 0, .int .i64 0, .int .u32 0, .int .u32 0, .slice none 0 0, .int .u64 0] ∧ Below w.heap.size w W ∧ Sl W 1 A3 p.body.length c3 (u8s p.body) := fun W hW => ⟨hh3.under hW hh3.lt, hz3.under hW hz3.lt, hb3.trans (hW.mono hb3.size), hs3.under hW⟩
      have HU := Lib.hid hsz
      clear hap hh3 hs3 hz3 hb3 hp hl hdec hsz hpl hpk
      unfold pdV pdA at HEN
      by_cases hm : pdMay p
      · rw [if_pos hm] at HEN
        go_wp2_with fail
        refine HEN.out.mono ?_
        rintro e w4 ⟨A4, c4, rfl, ho4, hb4⟩
        obtain ⟨hh4, hz4, hw4, hs4⟩ := HU.out w4 hb4.out
        have hcv := conv8 A4 c4 (pdEnc p) w4 (at8_own ho4.out)
        have hcx := conv8 (some ⟨b0, o0, none⟩) c xs w4 (HA.out w4 hw4)
        rw [HL.out] at hcx
        have hbe : bytes8 (pdEnc p) := by have h := parse_ok HBY.out; rw [HP.out] at h; exact enc_8 h
        have hsb := str8_beq hbe HBY.out
        obtain ⟨g0, g1, g2, g3, g4, g5, g6⟩ := has_seven hh4
        have HZ4 := Lib.hid hz4; have HW4 := Lib.hid hw4; have HS4 := Lib.hid hs4
        have HE : Hid (w4.heap[w.heap.size]? = some (.cells #[.int .i64 0, .int .i64 0, .int .i64 0, .int .u32 0, .int .u32 0, .slice none 0 0, .int .u64 0] 26 (0, 0))) := Lib.hid hz4
        have HDE2 := HDE.out
        clear HEN ho4 hb4 hh4 hz4 hw4 hs4 k0 k1 k2 k3 k4 k5 k6 hbe
        generalize str8 (pdEnc p) = S1 at *
        generalize str8 xs = S2 at *
        by_cases heq : pdEnc p = xs
        · rw [decide_eq_true heq] at hsb
          have hsn : (S1.toList != S2.toList) = false := by simp [bne, hsb]
          rw [if_pos ⟨hm, heq⟩] at HDE2
          have HDD := Lib.hid HDE2
          have HF := Lib.hid (has_setRow7 HE.out (pdA p A3 c3))
          have HBF := Lib.hid (below_row (g := w.heap.size) HW4.out (Nat.le_refl _) (pdA p A3 c3))
          have HGN := Lib.hid (show Sl (w4.setRow w.heap.size (pdA p A3 c3)) 1 A3 p.body.length c3 (u8s p.body) from HS4.out.grow2 (only_row _ _ _) (fun a ha => by have := HAP.out a ha; simp only [ne_eq, Option.some.injEq]; omega))
          clear HDE2 heq
          go_wp2_with (with_reducible refine wpList_store_rowTo (o := ⟨none, _, _, _, _, _⟩) rfl 26 _ _ rfl rfl w.heap.size #[.int .i64 p.kind, .int .i64 p.dir, .int .i64 p.train, .int .u32 (p.a : Nat), .int .u32 (p.b : Nat), .slice A3 p.body.length c3, .int .u64 (p.mac : Nat)] rfl rfl 26 _ HE.out (by kernel_rfl) (by kernel_rfl) (by kernel_rfl) ?_)
          refine bodyPost_ret (results_row_tmp9 rfl _ _ w.heap.size 26 _ _ rfl HF.out Try.underlying26 rfl (by kernel_rfl)) rfl ?_
          exact ⟨p, A3, c3, 0, rfl, .inl ⟨HDD.out, rfl⟩, HGN, HAP, HBF⟩
        · rw [decide_eq_false heq] at hsb
          have hsn : (S1.toList != S2.toList) = true := by simp [bne, hsb]
          rw [if_neg (fun h => heq h.2)] at HDE2
          have HDD := Lib.hid HDE2
          have HF := Lib.hid (has_setRow7 HE.out #[.int .i64 0, .int .i64 0, .int .i64 0, .int .u32 0, .int .u32 0, .slice none 0 0, .int .u64 0])
          have HBF := Lib.hid (below_row (g := w.heap.size) HW4.out (Nat.le_refl _) #[.int .i64 0, .int .i64 0, .int .i64 0, .int .u32 0, .int .u32 0, .slice none 0 0, .int .u64 0])
          clear HDE2 heq
          go_wp2_with (with_reducible refine wpList_store_rowTo (o := ⟨none, _, _, _, _, _⟩) rfl 26 _ _ rfl rfl w.heap.size #[.int .i64 0, .int .i64 0, .int .i64 0, .int .u32 0, .int .u32 0, .slice none 0 0, .int .u64 0] rfl rfl 26 _ HE.out (by kernel_rfl) (by kernel_rfl) (by kernel_rfl) ?_)
          refine bodyPost_ret (results_row_tmp9 rfl _ _ w.heap.size 26 _ _ rfl HF.out Try.underlying26 rfl (by kernel_rfl)) rfl ?_
          exact ⟨pdZero, none, 0, 8, rfl, .inr ⟨HDD.out, rfl, rfl⟩, Lib.hid (sl_nil _ _), Lib.hid (fun a ha => by cases ha), HBF⟩
      · rw [if_neg hm] at HEN
        have HDD := Lib.hid HDE.out
        rw [if_neg (fun h => hm h.1)] at HDD
        go_wp2_with fail
        refine HEN.out.mono ?_
        rintro e w4 ⟨A4, c4, rfl, ho4, hb4⟩
        obtain ⟨_, hz4, hw4, _⟩ := HU.out w4 hb4.out
        have HE : Hid (w4.heap[w.heap.size]? = some (.cells #[.int .i64 0, .int .i64 0, .int .i64 0, .int .u32 0, .int .u32 0, .slice none 0 0, .int .u64 0] 26 (0, 0))) := Lib.hid hz4
        have HF := Lib.hid (has_setRow7 HE.out #[.int .i64 0, .int .i64 0, .int .i64 0, .int .u32 0, .int .u32 0, .slice none 0 0, .int .u64 0])
        have HBF := Lib.hid (below_row (g := w.heap.size) hw4 (Nat.le_refl _) #[.int .i64 0, .int .i64 0, .int .i64 0, .int .u32 0, .int .u32 0, .slice none 0 0, .int .u64 0])
        have hcv := conv8 A4 c4 (pdEnc p) w4 (at8_own ho4.out)
        have hcx := conv8 (some ⟨b0, o0, none⟩) c xs w4 (HA.out w4 hw4)
        rw [HL.out] at hcx
        clear HEN ho4 hb4 hz4 hw4 k0 k1 k2 k3 k4 k5 k6 hm HDE HU
        go_wp2_with (with_reducible refine wpList_store_rowTo (o := ⟨none, _, _, _, _, _⟩) rfl 26 _ _ rfl rfl w.heap.size #[.int .i64 0, .int .i64 0, .int .i64 0, .int .u32 0, .int .u32 0, .slice none 0 0, .int .u64 0] rfl rfl 26 _ HE.out (by kernel_rfl) (by kernel_rfl) (by kernel_rfl) ?_)
        refine bodyPost_ret (results_row_tmp9 rfl _ _ w.heap.size 26 _ _ rfl HF.out Try.underlying26 rfl (by kernel_rfl)) rfl ?_
        exact ⟨pdZero, none, 0, 8, rfl, .inr ⟨HDD.out, rfl, rfl⟩, Lib.hid (sl_nil _ _), Lib.hid (fun a ha => by cases ha), HBF⟩
end Go.Proofs.Ytojbinpicoeppaa
