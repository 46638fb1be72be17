/-
  linesidelaw04.awake: the chapter's examples hold.
-/
import Derived.Test.YtidokfbjfdkfdaaOdo
import Derived.Test.YtidokfbjfdkfdaaFlOpen
namespace Go.Proofs.Ytidokfbjfdkfdaa
open Go.RowKit Fl

theorem calls_below {P : Program} {f : FuncId} {args : Array Value} {x : Ending} (h : ∀ w, Calls P f args w fun e w' => e = x ∧ w = w') (w : World) : Calls P f args w fun e w' => e = x ∧ Below w.heap.size w w' :=
  (h w).mono fun _ _ ⟨h1, h2⟩ => ⟨h1, h2 ▸ Below.refl _ _⟩

theorem made_sl (w : World) (l : List Nat) (h : ∀ z ∈ l, (Lit.float .f64 z).wf = true) : SlF (w.alloc (.cells (flts l).toArray 22)) (some ⟨w.heap.size, 0, none⟩) l.length l.length l := by
  refine ⟨rfl, h, by rw [flts_length]; omega, (fun e => by cases e), fun ad ha j u hu => ?_⟩
  injection ha with ha
  subst ha
  rw [WideShapes.add_plain, (Has.made w 22 (flts l).toArray).cell, Nat.zero_add]
  simpa using hu

set_option maxRecDepth 100000 in
set_option maxHeartbeats 2000000 in
theorem awake04_any (w : World) : Calls Try.prog 10 #[] w fun e w' => e = .returned (.bool true) ∧ Below w.heap.size w w' := by
  have c1 := fun w => odo_whole 4608308318706860032 (by decide) w
  have c2 := fun w => odo_whole 13831680355561635840 (by decide) w
  have c3 := fun w => odo_between 4621819117588971520 4594572339843380019 (by decide) (by decide) w
  have c4 := fun (w : World) hl => odo_middle (some ⟨w.heap.size, 0, none⟩) 4 4 [4613937818241073152, 13830554455654793216, 4611686018427387904, 4619567317775286272] (w.alloc (.cells #[.float .f64 4613937818241073152, .float .f64 13830554455654793216, .float .f64 4611686018427387904, .float .f64 4619567317775286272] 22)) hl (by decide)
  have c5 := fun w => odo_less 9223372036854775808 0 (by decide) (by decide) w
  have c6 := fun w => odo_less 0 9223372036854775808 (by decide) (by decide) w
  rw [show pair (wholeF 4608308318706860032) = .tuple #[.int .i64 12, .int .i64 0] from by kernel_rfl] at c1
  rw [show pair (wholeF 13831680355561635840) = .tuple #[.int .i64 (-13), .int .i64 0] from by kernel_rfl] at c2
  rw [show triple (betF 4621819117588971520 4594572339843380019) = .tuple #[.int .i64 98, .int .i64 102, .int .i64 0] from by kernel_rfl] at c3
  rw [show midV (middleOf [4613937818241073152, 13830554455654793216, 4611686018427387904, 4619567317775286272]) = .tuple #[.float .f64 4611686018427387904, .bool true] from by kernel_rfl] at c4
  rw [show lessB 9223372036854775808 0 = true from by kernel_rfl] at c5
  rw [show lessB 0 9223372036854775808 = false from by kernel_rfl] at c6
  have e1 : ∀ w, (binOp .quo 22 (.float .f64 4607182418800017408) (.float .f64 0)).run Try.prog w = .ok (.float .f64 9218868437227405312) w := fun w => run_float_arith w .quo _ .f64 _ _ _ (by kernel_rfl)
  have e2 : ∀ w, (binOp .quo 22 (.float .f64 13830554455654793216) (.float .f64 9218868437227405312)).run Try.prog w = .ok (.float .f64 9223372036854775808) w := fun w => run_float_arith w .quo _ .f64 _ _ _ (by kernel_rfl)
  have e3 : (FloatKind.f64.format.order 4611686018427387904 4611686018427387904 == some .eq) = true := by kernel_rfl
  have C1 := Lib.hid c1; have C2 := Lib.hid c2; have C3 := Lib.hid c3; have C4 := Lib.hid c4; have C5 := Lib.hid c5; have C6 := Lib.hid c6
  clear c1 c2 c3 c4 c5 c6
  go_enter Try.func10, Try.ntmps10
  go_wp2_with fail
  refine (C1.out _).mono ?_
  rintro e w1 ⟨rfl, b⟩
  have HB1 := Lib.hid b; clear b
  go_wp2_with fail
  refine (C2.out _).mono ?_
  rintro e w2 ⟨rfl, b⟩
  have HB2 := Lib.hid (HB1.out.trans (b.mono HB1.out.size)); clear b HB1
  go_wp2_with fail
  refine (C3.out _).mono ?_
  rintro e w3 ⟨rfl, b⟩
  have HB3 := Lib.hid (HB2.out.trans (b.mono HB2.out.size)); clear b HB2
  go_wp2_with fail
  have hb3 := HB3.out.alloc HB3.out.size (.cells #[.float .f64 4613937818241073152, .float .f64 13830554455654793216, .float .f64 4611686018427387904, .float .f64 4619567317775286272] 22)
  refine (C4.out w3 (made_sl w3 [4613937818241073152, 13830554455654793216, 4611686018427387904, 4619567317775286272] (by decide))).mono ?_
  rintro e w4 ⟨rfl, b⟩
  have HB4 := Lib.hid (hb3.trans (b.mono hb3.size)); clear b hb3 HB3
  go_wp2_with fail
  refine (C5.out _).mono ?_
  rintro e w5 ⟨rfl, b⟩
  have HB5 := Lib.hid (HB4.out.trans (b.mono HB4.out.size)); clear b HB4
  go_wp2_with fail
  refine (C6.out _).mono ?_
  rintro e w6 ⟨rfl, b⟩
  have HB6 := Lib.hid (HB5.out.trans (b.mono HB5.out.size)); clear b HB5
  go_wp2
  go_ret
  exact ⟨rfl, HB6.out⟩
end Go.Proofs.Ytidokfbjfdkfdaa
