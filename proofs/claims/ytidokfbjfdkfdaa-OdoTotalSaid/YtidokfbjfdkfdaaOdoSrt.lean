/-
  odo as landed: Sort.
-/
import Derived.Test.YtidokfbjfdkfdaaOdoClone
namespace Go.Proofs.Ytidokfbjfdkfdaa
open Go.RowKit Fl Go.Sort Go.Lib
attribute [local irreducible] N E mval top U

noncomputable def sliceI : TypeInfo := (Try.prog.info? 31).get (by kernel_rfl)
noncomputable def floatI : TypeInfo := (Try.prog.info? 22).get (by kernel_rfl)
theorem info_slice : Try.prog.info? 31 = some sliceI := by kernel_rfl
theorem info_float : Try.prog.info? 22 = some floatI := by kernel_rfl
theorem slice_desc : sliceI.desc = .slice 22 := by kernel_rfl
theorem slice_packed : Try.prog.packed 31 = false := by kernel_rfl
theorem float_kind (w : World) : (Extern.Rtype.kind 22).run Try.prog w = .ok 14 w := by kernel_rfl
theorem float_size : floatI.size = 1 := by kernel_rfl
theorem float_agg (w : World) : (isAgg 22).run Try.prog w = .ok false w := by kernel_rfl
theorem float_K (n : Nat) (h2 : 2 ≤ n) : swapperK n floatI 14 = 5 := by
  have a : floatI.hasPointers = false := by kernel_rfl
  have b : floatI.bytes = 8 := by kernel_rfl
  have c : (n == 0) = false := by simp; omega
  have d : (n == 1) = false := by simp; omega
  simp [swapperK, a, b, c, d]

/-- Which of the swapper's literals, and what it holds. -/
def swapN (n : Nat) : Nat := if n = 0 then 52 else if n = 1 then 53 else 56
theorem swap_find (n : Nat) : Try.prog.funcs.findIdx? (·.name == "internal/reflectlite" ++ ".Swapper$" ++ toString (swapperK n floatI 14)) = some (swapN n) := by
  rcases Nat.lt_or_ge n 2 with h | h
  · rcases (show n = 0 ∨ n = 1 by omega) with rfl | rfl
    · rw [show swapperK 0 floatI 14 = 1 from rfl]; kernel_rfl
    · rw [show swapperK 1 floatI 14 = 2 from rfl]; kernel_rfl
  · rw [float_K n h, show swapN n = 56 by unfold swapN; rw [if_neg (by omega), if_neg (by omega)]]
    kernel_rfl

/-- The world in which stable_func is called. -/
noncomputable def atStable (A : Option Addr) (n c : Nat) (w : World) : World :=
  (w.alloc (.cells #[.slice A n c] 31)).alloc (.cells #[.pointer (some ⟨Try.prog.globals.size, 31, none⟩), .pointer (some ⟨w.heap.size, 0, none⟩), .int .u64 151] 48)

set_option maxHeartbeats 2000000 in
set_option maxRecDepth 100000 in
theorem slicestable_any (A : Option Addr) (n c : Nat) (g : Nat) (lb : Array Value) (w : World) (R : World → Prop)
    (hp : Calls Try.prog 48 #[.agg #[.func (.func g) #[] lb, .func (.func (swapN n)) #[] (sliceBound Try.prog 22 floatI 14 A n c)], .int .i64 n] (atStable A n c w) fun e w' => e = .returned (.tuple #[]) ∧ R w') :
    Calls Try.prog 36 #[.iface 31 (.slice A n c), .func (.func g) #[] lb] w fun e w' => e = .returned (.tuple #[]) ∧ R w' := by
  have hv := run_valueOf_slice (P := Try.prog) 31 22 sliceI info_slice slice_desc A n c w
  have hs := fun w => run_swapper_slice (P := Try.prog) 31 22 sliceI floatI info_slice slice_desc info_float 14 float_kind A n c (swapN n) (swap_find n) w
  have hl := fun a w ha => run_valueLen_slice (P := Try.prog) 31 22 sliceI info_slice slice_desc slice_packed a A n c w ha
  unfold sliceBound atStable at hp
  generalize (if swapperK n floatI 14 ≤ 2 then (#[] : Array Value) else #[.slice A n c, typeHandle Try.prog 22]) = B at hs hp
  simp only [typeHandle] at hv hl
  obtain ⟨G, hG⟩ : ∃ G, Try.prog.globals.size = G := ⟨_, rfl⟩
  rw [hG] at hv hp
  have hl : ∀ (a : Addr) (w : World), w.cell? a = some (.slice A n c) → (Extern.ReflectliteValue.method (Extern.ReflectliteValue.valueError "reflectlite.Value.Len" 0) Extern.ReflectliteValue.len #[.agg #[.pointer (some ⟨G, 31, none⟩), .pointer (some a), .int .u64 151]]).run Try.prog w = .ok (.int .i64 n) w := by rw [← hG]; exact hl
  clear hG
  generalize swapN n = f at hs hp
  have h1 : (callFunc 46 #[.iface 31 (.slice A n c)]).run Try.prog w = .ok (.value (.agg #[.pointer (some ⟨G, 31, none⟩), .pointer (some ⟨w.heap.size, 0, none⟩), .int .u64 151])) (w.alloc (.cells #[.slice A n c] 31)) := by
    rw [run_callFunc_extern Try.func46 (by kernel_rfl) (by kernel_rfl) (by kernel_rfl) (e := fun args => Extern.ReflectliteValue.unpack (args.getD 0 (.tuple #[]))) (by kernel_rfl),
      show Sem.run Try.prog ((fun args : Array Value => Extern.ReflectliteValue.unpack (args.getD 0 (.tuple #[]))) #[.iface 31 (.slice A n c)]) w = _ from hv]
    rfl
  have h2 : ∀ w, (callFunc 47 #[.iface 31 (.slice A n c)]).run Try.prog w = .ok (.value (.func (.func f) #[] B)) w := fun w => by
    rw [run_callFunc_extern Try.func47 (by kernel_rfl) (by kernel_rfl) (by kernel_rfl) (e := Extern.ReflectliteSwapper.swapper "internal/reflectlite" (Extern.ReflectliteValue.valueError "Swapper")) (by kernel_rfl), hs]
    rfl
  have h3 : ∀ a w, w.cell? a = some (.slice A n c) → (callFunc 49 #[.agg #[.pointer (some ⟨G, 31, none⟩), .pointer (some a), .int .u64 151]]).run Try.prog w = .ok (.value (.int .i64 n)) w := fun a w ha => by
    rw [run_callFunc_extern Try.func49 (by kernel_rfl) (by kernel_rfl) (by kernel_rfl) (e := Extern.ReflectliteValue.method (Extern.ReflectliteValue.valueError "reflectlite.Value.Len" 0) Extern.ReflectliteValue.len) (by kernel_rfl), hl a w ha]
    rfl
  have H3 := hid h3
  have HP := hid hp
  clear hv hs hl h3 hp
  go_enter Try.func36, Try.ntmps36
  go_wp2
  rw [H3.out _ _ (by simp), Oper.upon_value]
  go_wp2_with fail
  refine HP.out.mono ?_
  rintro e w' ⟨rfl, hR⟩
  go_wp2
  go_end0
  exact ⟨rfl, hR⟩
end Go.Proofs.Ytidokfbjfdkfdaa
