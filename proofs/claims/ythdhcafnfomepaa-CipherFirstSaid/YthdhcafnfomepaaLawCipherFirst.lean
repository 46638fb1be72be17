/-
  linesidelaw07.CipherFirst, walked.
-/
import Derived.Test.YthdhcafnfomepaaLawAwake07
import Derived.Deep.RegionHeld3
import Derived.BigQuiet
namespace Go.Proofs.Ythdhcafnfomepaa
open Go.RowKit
open Go.Great

theorem quiet_load_row {P : Program} {o : Oper} {a : Act} {C : World → Prop} {K : Act → Prop} (ty : TypeId) (x : Operand) (ho : o.op = .load ty x) (p : Value) (cs : Array Value) (hx : a.eval x = p)
    (hr : ∀ w, C w → (Instr.loadAt ty p).run P w = .ok (.agg cs) w) (hk : K (a.put o.dst (.agg cs))) : o.quiet P a C K :=
  ⟨.agg cs, fun w hw => by
    unfold Oper.quietAt execOp
    simp only [ho, hx, Sem.run_bind, hr w hw, Result.andThen_ok, Sem.run_pure]
    exact ⟨rfl, rfl⟩, hk⟩

set_option maxRecDepth 100000 in
set_option maxHeartbeats 4000000 in
theorem cipherFirst_walk (k : Key4) (n : Int) (w : World) (hk : k.ok) (hn : (Lit.int .u32 n).wf = true) :
    Calls Try.prog 7 #[keyV k, .int .u32 n] w fun e w' => e = .returned (.bool true) ∧ Below w.heap.size w w' := by
  obtain ⟨n, rfl, bn⟩ := u32_nat hn
  clear hn
  obtain ⟨wa, hwa, hba, hsa, hkc⟩ := key_box k w
  have HBA := Lib.hid hba; have HWA := Lib.hid hwa; have HKC := Lib.hid hkc
  have HA := Lib.hid (awake7_any wa)
  have HK := Lib.hid (fun W => ocp_rounds k hk W)
  have hq : (⟨k.a, k.b, k.c, n⟩ : Key4).ok := ⟨hk.1, hk.2.1, hk.2.2.1, bn⟩
  have HQ := Lib.hid (fun W => ocp_rounds ⟨k.a, k.b, k.c, n⟩ hq W)
  have hkat : (roundA k)[0]? = some (.int .u32 (k.d : Nat)) := by unfold roundA; rw [wordsA_at, rounds_at k (by omega)]; rfl
  have hqat : (roundA ⟨k.a, k.b, k.c, n⟩)[0]? = some (.int .u32 (n : Nat)) := by unfold roundA; rw [wordsA_at, rounds_at _ (by omega)]; rfl
  have heq := fun W => eq_rounds k ⟨k.a, k.b, k.c, n⟩ W
  have hdec : decide (roundsF k = roundsF ⟨k.a, k.b, k.c, n⟩) = decide (n = k.d) := by
    rw [decide_eq_decide]
    constructor
    · intro h; exact (first7 h).symm
    · intro h; subst h; rfl
  rw [hdec] at heq
  obtain ⟨q, hqq⟩ : ∃ q : Bool, decide (n = k.d) = q := ⟨_, rfl⟩
  rw [hqq] at heq
  have x0 : ((n : Int) == (k.d : Nat)) = q := by rw [← hqq, Bool.eq_iff_iff]; simp; omega
  have hs1 := round_size k; have hs2 := round_size ⟨k.a, k.b, k.c, n⟩
  have HONK : Hid ((roundA k).all (·.oneCell') = true) := Lib.hid (by simp [roundA, wordsA, Value.oneCell'])
  have HONQ : Hid ((roundA ⟨k.a, k.b, k.c, n⟩).all (·.oneCell') = true) := Lib.hid (by simp [roundA, wordsA, Value.oneCell'])
  generalize roundA k = RA at *
  generalize roundA ⟨k.a, k.b, k.c, n⟩ = RB at *
  obtain ⟨la, hla⟩ : ∃ la : List Value, RA = la.toArray := ⟨RA.toList, by simp⟩
  obtain ⟨lb, hlb⟩ : ∃ lb : List Value, RB = lb.toArray := ⟨RB.toList, by simp⟩
  subst hla
  subst hlb
  have HINA : Hid ((Try.prog.info? 26).map (·.size) = some (la.toArray : Array Value).size) := Lib.hid (by rw [hs1]; kernel_rfl)
  have HOSA : Hid ((#[.int .u32 0, .int .u32 0, .int .u32 0, .int .u32 0, .int .u32 0, .int .u32 0, .int .u32 0, .int .u32 0, .int .u32 0, .int .u32 0, .int .u32 0, .int .u32 0, .int .u32 0, .int .u32 0, .int .u32 0, .int .u32 0, .int .u32 0, .int .u32 0, .int .u32 0, .int .u32 0, .int .u32 0, .int .u32 0, .int .u32 0, .int .u32 0, .int .u32 0, .int .u32 0, .int .u32 0] : Array Value).size = (la.toArray : Array Value).size) := Lib.hid (by rw [hs1]; rfl)
  have HINB : Hid ((Try.prog.info? 26).map (·.size) = some (lb.toArray : Array Value).size) := Lib.hid (by rw [hs2]; kernel_rfl)
  have HOSB : Hid ((#[.int .u32 0, .int .u32 0, .int .u32 0, .int .u32 0, .int .u32 0, .int .u32 0, .int .u32 0, .int .u32 0, .int .u32 0, .int .u32 0, .int .u32 0, .int .u32 0, .int .u32 0, .int .u32 0, .int .u32 0, .int .u32 0, .int .u32 0, .int .u32 0, .int .u32 0, .int .u32 0, .int .u32 0, .int .u32 0, .int .u32 0, .int .u32 0, .int .u32 0, .int .u32 0, .int .u32 0] : Array Value).size = (lb.toArray : Array Value).size) := Lib.hid (by rw [hs2]; rfl)
  have HEQ := Lib.hid heq; have HKAT := Lib.hid hkat; have HQAT := Lib.hid hqat
  have x1 : (q == q) = true := by simp
  have x2 : ((n : Int) == (n : Int)) = true := by simp
  have x3 : (((k.d : Nat) : Int) == ((k.d : Nat) : Int)) = true := by simp
  unfold keyV keyA at *
  clear hba hwa hkc heq hdec hqq hkat hqat hs1 hs2 hq
  go_enter Try.func7, Try.ntmps7
  go_wp2_with fail
  rw [HWA.out]
  clear HWA
  refine HA.out.mono ?_
  rintro e w1 ⟨rfl, hb1⟩
  have HB1 := Lib.hid hb1
  obtain ⟨c0, c1, c2, c3⟩ := HKC.out w1 hb1
  clear hb1 HA
  go_wp2_with fail
  refine (HK.out _).mono ?_
  rintro e w2 ⟨rfl, hb2⟩
  have hbw2 := HB1.out.trans (hb2.mono HB1.out.size)
  have hz2 : Has (w2.alloc (.cells #[.int .u32 0, .int .u32 0, .int .u32 0, .int .u32 0, .int .u32 0, .int .u32 0, .int .u32 0, .int .u32 0, .int .u32 0, .int .u32 0, .int .u32 0, .int .u32 0, .int .u32 0, .int .u32 0, .int .u32 0, .int .u32 0, .int .u32 0, .int .u32 0, .int .u32 0, .int .u32 0, .int .u32 0, .int .u32 0, .int .u32 0, .int .u32 0, .int .u32 0, .int .u32 0, .int .u32 0] 26)) w2.heap.size 26 #[.int .u32 0, .int .u32 0, .int .u32 0, .int .u32 0, .int .u32 0, .int .u32 0, .int .u32 0, .int .u32 0, .int .u32 0, .int .u32 0, .int .u32 0, .int .u32 0, .int .u32 0, .int .u32 0, .int .u32 0, .int .u32 0, .int .u32 0, .int .u32 0, .int .u32 0, .int .u32 0, .int .u32 0, .int .u32 0, .int .u32 0, .int .u32 0, .int .u32 0, .int .u32 0, .int .u32 0] := has_at rfl
  have hb23 : Below wa.heap.size wa ((w2.alloc (.cells #[.int .u32 0, .int .u32 0, .int .u32 0, .int .u32 0, .int .u32 0, .int .u32 0, .int .u32 0, .int .u32 0, .int .u32 0, .int .u32 0, .int .u32 0, .int .u32 0, .int .u32 0, .int .u32 0, .int .u32 0, .int .u32 0, .int .u32 0, .int .u32 0, .int .u32 0, .int .u32 0, .int .u32 0, .int .u32 0, .int .u32 0, .int .u32 0, .int .u32 0, .int .u32 0, .int .u32 0] 26)).setRow w2.heap.size la.toArray) := below_row (g := w2.heap.size) (hbw2.alloc hbw2.size _) hbw2.size la.toArray
  have hm3 := has_setRow7 hz2 la.toArray
  obtain ⟨w3, hw3⟩ : ∃ w3, (w2.alloc (.cells #[.int .u32 0, .int .u32 0, .int .u32 0, .int .u32 0, .int .u32 0, .int .u32 0, .int .u32 0, .int .u32 0, .int .u32 0, .int .u32 0, .int .u32 0, .int .u32 0, .int .u32 0, .int .u32 0, .int .u32 0, .int .u32 0, .int .u32 0, .int .u32 0, .int .u32 0, .int .u32 0, .int .u32 0, .int .u32 0, .int .u32 0, .int .u32 0, .int .u32 0, .int .u32 0, .int .u32 0] 26)).setRow w2.heap.size la.toArray = w3 := ⟨_, rfl⟩
  rw [hw3] at hb23 hm3
  have HE2 : Hid ((w2.alloc (.cells #[.int .u32 0, .int .u32 0, .int .u32 0, .int .u32 0, .int .u32 0, .int .u32 0, .int .u32 0, .int .u32 0, .int .u32 0, .int .u32 0, .int .u32 0, .int .u32 0, .int .u32 0, .int .u32 0, .int .u32 0, .int .u32 0, .int .u32 0, .int .u32 0, .int .u32 0, .int .u32 0, .int .u32 0, .int .u32 0, .int .u32 0, .int .u32 0, .int .u32 0, .int .u32 0, .int .u32 0] 26)).heap[w2.heap.size]? = some (.cells #[.int .u32 0, .int .u32 0, .int .u32 0, .int .u32 0, .int .u32 0, .int .u32 0, .int .u32 0, .int .u32 0, .int .u32 0, .int .u32 0, .int .u32 0, .int .u32 0, .int .u32 0, .int .u32 0, .int .u32 0, .int .u32 0, .int .u32 0, .int .u32 0, .int .u32 0, .int .u32 0, .int .u32 0, .int .u32 0, .int .u32 0, .int .u32 0, .int .u32 0, .int .u32 0, .int .u32 0] 26 (0, 0))) := Lib.hid hz2
  obtain ⟨d0, d1, d2, d3⟩ := HKC.out w3 hb23
  have HM3 := Lib.hid hm3; have HB3 := Lib.hid hb23; have HW3 := Lib.hid hw3
  clear hbw2 hb2 hz2 hb23 hm3 hw3 HK HB1 c0 c1 c2 c3
  go_upto_region 3 with (with_reducible refine wpList_store_rowTo (o := ⟨none, _, _, _, _, _⟩) rfl 26 _ _ rfl rfl w2.heap.size la.toArray rfl rfl 26 _ HE2.out HINA.out HOSA.out HONK.out ?_)
  rw [HW3.out]
  clear HW3 HE2
  go_wp2_with fail
  refine (HQ.out _).mono ?_
  rintro e w5 ⟨rfl, hb5⟩
  have hb35 : Below w3.heap.size w3 w5 := ((Below.refl _ _).alloc (Nat.le_refl _) (.cells #[.int .u32 (k.a : Nat), .int .u32 (k.b : Nat), .int .u32 (k.c : Nat), .int .u32 (n : Nat)] 24)).trans (hb5.mono (by simp))
  have hbw5 := HB3.out.trans (hb35.mono HB3.out.size)
  have hm5 := HM3.out.under hb35 HM3.out.lt
  have hz5 : Has (w5.alloc (.cells #[.int .u32 0, .int .u32 0, .int .u32 0, .int .u32 0, .int .u32 0, .int .u32 0, .int .u32 0, .int .u32 0, .int .u32 0, .int .u32 0, .int .u32 0, .int .u32 0, .int .u32 0, .int .u32 0, .int .u32 0, .int .u32 0, .int .u32 0, .int .u32 0, .int .u32 0, .int .u32 0, .int .u32 0, .int .u32 0, .int .u32 0, .int .u32 0, .int .u32 0, .int .u32 0, .int .u32 0] 26)) w5.heap.size 26 #[.int .u32 0, .int .u32 0, .int .u32 0, .int .u32 0, .int .u32 0, .int .u32 0, .int .u32 0, .int .u32 0, .int .u32 0, .int .u32 0, .int .u32 0, .int .u32 0, .int .u32 0, .int .u32 0, .int .u32 0, .int .u32 0, .int .u32 0, .int .u32 0, .int .u32 0, .int .u32 0, .int .u32 0, .int .u32 0, .int .u32 0, .int .u32 0, .int .u32 0, .int .u32 0, .int .u32 0] := has_at rfl
  have hm5a : Has ((w5.alloc (.cells #[.int .u32 0, .int .u32 0, .int .u32 0, .int .u32 0, .int .u32 0, .int .u32 0, .int .u32 0, .int .u32 0, .int .u32 0, .int .u32 0, .int .u32 0, .int .u32 0, .int .u32 0, .int .u32 0, .int .u32 0, .int .u32 0, .int .u32 0, .int .u32 0, .int .u32 0, .int .u32 0, .int .u32 0, .int .u32 0, .int .u32 0, .int .u32 0, .int .u32 0, .int .u32 0, .int .u32 0] 26)).setRow w5.heap.size lb.toArray) w2.heap.size 26 la.toArray := has_setRow_other7 (hm5.beside _) (by have := hm5.lt; omega) lb.toArray
  have hb56 : Below wa.heap.size wa ((w5.alloc (.cells #[.int .u32 0, .int .u32 0, .int .u32 0, .int .u32 0, .int .u32 0, .int .u32 0, .int .u32 0, .int .u32 0, .int .u32 0, .int .u32 0, .int .u32 0, .int .u32 0, .int .u32 0, .int .u32 0, .int .u32 0, .int .u32 0, .int .u32 0, .int .u32 0, .int .u32 0, .int .u32 0, .int .u32 0, .int .u32 0, .int .u32 0, .int .u32 0, .int .u32 0, .int .u32 0, .int .u32 0] 26)).setRow w5.heap.size lb.toArray) := below_row (g := w5.heap.size) (hbw5.alloc hbw5.size _) hbw5.size lb.toArray
  have hm6 := has_setRow7 hz5 lb.toArray
  obtain ⟨w6, hw6⟩ : ∃ w6, (w5.alloc (.cells #[.int .u32 0, .int .u32 0, .int .u32 0, .int .u32 0, .int .u32 0, .int .u32 0, .int .u32 0, .int .u32 0, .int .u32 0, .int .u32 0, .int .u32 0, .int .u32 0, .int .u32 0, .int .u32 0, .int .u32 0, .int .u32 0, .int .u32 0, .int .u32 0, .int .u32 0, .int .u32 0, .int .u32 0, .int .u32 0, .int .u32 0, .int .u32 0, .int .u32 0, .int .u32 0, .int .u32 0] 26)).setRow w5.heap.size lb.toArray = w6 := ⟨_, rfl⟩
  rw [hw6] at hb56 hm6 hm5a
  have HE5 : Hid ((w5.alloc (.cells #[.int .u32 0, .int .u32 0, .int .u32 0, .int .u32 0, .int .u32 0, .int .u32 0, .int .u32 0, .int .u32 0, .int .u32 0, .int .u32 0, .int .u32 0, .int .u32 0, .int .u32 0, .int .u32 0, .int .u32 0, .int .u32 0, .int .u32 0, .int .u32 0, .int .u32 0, .int .u32 0, .int .u32 0, .int .u32 0, .int .u32 0, .int .u32 0, .int .u32 0, .int .u32 0, .int .u32 0] 26)).heap[w5.heap.size]? = some (.cells #[.int .u32 0, .int .u32 0, .int .u32 0, .int .u32 0, .int .u32 0, .int .u32 0, .int .u32 0, .int .u32 0, .int .u32 0, .int .u32 0, .int .u32 0, .int .u32 0, .int .u32 0, .int .u32 0, .int .u32 0, .int .u32 0, .int .u32 0, .int .u32 0, .int .u32 0, .int .u32 0, .int .u32 0, .int .u32 0, .int .u32 0, .int .u32 0, .int .u32 0, .int .u32 0, .int .u32 0] 26 (0, 0))) := Lib.hid hz5
  have HMA := Lib.hid hm5a; have HMB := Lib.hid hm6; have HB6 := Lib.hid hb56; have HW6 := Lib.hid hw6
  clear hb5 hb35 hbw5 hm5 hz5 hm5a hb56 hm6 hw6 HQ HM3 HB3 d0 d1 d2 d3
  go_upto_region 6 with (with_reducible refine wpList_store_rowTo (o := ⟨none, _, _, _, _, _⟩) rfl 26 _ _ rfl rfl w5.heap.size lb.toArray rfl rfl 26 _ HE5.out HINB.out HOSB.out HONQ.out ?_)
  rw [HW6.out]
  clear HW6 HE5
  have h1 := HMA.out
  have h2 := HMB.out
  have s1 : w6.cell? ⟨w.heap.size, 3, none⟩ = some (.int .u32 (k.d : Nat)) := (HKC.out _ HB6.out).2.2.2
  have s2 : w6.cell? ⟨w2.heap.size, 0, none⟩ = some (.int .u32 (k.d : Nat)) := by rw [h1.cell]; exact HKAT.out
  have s3 : w6.cell? ⟨w5.heap.size, 0, none⟩ = some (.int .u32 (n : Nat)) := by rw [h2.cell]; exact HQAT.out
  have s4 : ∀ m, (Instr.loadAt 26 (.pointer (some ⟨w2.heap.size, 0, none⟩))).run Try.prog (w6.drewN m) = .ok (.agg la.toArray) (w6.drewN m) := fun m => run_loadAt_mid (w6.drewN m) w2.heap.size 0 26 la _ (fun j v hv => by rw [Nat.zero_add, (h1.draws m).cell]; simpa using hv) Try.underlying26 rfl (by rw [HINA.out]; simp)
  have s5 : ∀ m, (Instr.loadAt 26 (.pointer (some ⟨w5.heap.size, 0, none⟩))).run Try.prog (w6.drewN m) = .ok (.agg lb.toArray) (w6.drewN m) := fun m => run_loadAt_mid (w6.drewN m) w5.heap.size 0 26 lb _ (fun j v hv => by rw [Nat.zero_add, (h2.draws m).cell]; simpa using hv) Try.underlying26 rfl (by rw [HINB.out]; simp)
  have s6 := HEQ.out
  have HBF := Lib.hid (HBA.out.trans (HB6.out.mono HBA.out.size))
  have S4 := Lib.hid s4; have S5 := Lib.hid s5
  clear h1 h2 HMA HMB HKAT HQAT HEQ HKC s4 s5
  refine wp_region_quiet_lit (by kernel_rfl) (by kernel_rfl) ?_
  repeat (go_big_quiet_step (fail))
  refine BigFrame.wpQuiet_want (by rfl) (fun K hK => ?_)
  refine quiet_load_row 26 (.tmp 6) rfl (.pointer (some ⟨w2.heap.size, 0, none⟩)) la.toArray rfl (fun w' hw => by obtain ⟨m, rfl⟩ := hw; exact S4.out m) ?_
  refine hK _ ?_
  clear hK K
  simp only [Act.put, List.setIfInBounds_toArray, List.set_cons_zero, List.set_cons_succ]
  refine BigFrame.wpQuiet_want (by rfl) (fun K hK => ?_)
  refine quiet_load_row 26 (.tmp 8) rfl (.pointer (some ⟨w5.heap.size, 0, none⟩)) lb.toArray rfl (fun w' hw => by obtain ⟨m, rfl⟩ := hw; exact S5.out m) ?_
  refine hK _ ?_
  clear hK K
  simp only [Act.put, List.setIfInBounds_toArray, List.set_cons_zero, List.set_cons_succ]
  repeat (go_big_quiet_step (fail))
  refine wpQuiet_nil ?_
  rintro _ ⟨nq, rfl⟩
  go_wp2
  go_ret
  exact ⟨rfl, below_draws HBF.out nq⟩
end Go.Proofs.Ythdhcafnfomepaa
