/-
  linesideref10, by contract: numbered, fits, closed, came.
-/
import Derived.Test.YtekcnmimfhiblaaMgA
import Derived.Test.YtekcnmimfhiblaaPdDec0
import Derived.Test.YtekcnmimfhiblaaMcRefD
import Derived.Deep.MidRow
import Derived.Great.BuildSlice
namespace Go.Proofs.Ytekcnmimfhiblaa
open Go.RowKit
open Go.Great

def prA (p : Peer) : Array Value := #[.int .i64 p.side, .int .i64 p.train, .int .u32 (p.base.a : Nat), .int .u32 (p.base.b : Nat), .int .u32 (p.base.c : Nat), .int .u32 (p.base.d : Nat), .int .i64 p.state, .int .u32 (p.a : Nat), .int .u32 (p.b : Nat), .int .u32 (p.key.a : Nat), .int .u32 (p.key.b : Nat), .int .u32 (p.key.c : Nat), .int .u32 (p.key.d : Nat), .bool p.half, .int .u32 (p.a2 : Nat), .int .u32 (p.b2 : Nat)]
def prV (p : Peer) : Value := .agg (prA p)
theorem pr_cells {w : World} {g : Nat} {t : TypeId} {p : Peer} (h : Has w g t (prA p)) :
    w.cell? ⟨g, 0, none⟩ = some (.int .i64 p.side) ∧ w.cell? ⟨g, 1, none⟩ = some (.int .i64 p.train) ∧ w.cell? ⟨g, 2, none⟩ = some (.int .u32 (p.base.a : Nat)) ∧ w.cell? ⟨g, 3, none⟩ = some (.int .u32 (p.base.b : Nat)) ∧ w.cell? ⟨g, 4, none⟩ = some (.int .u32 (p.base.c : Nat)) ∧ w.cell? ⟨g, 5, none⟩ = some (.int .u32 (p.base.d : Nat)) ∧ w.cell? ⟨g, 6, none⟩ = some (.int .i64 p.state) ∧ w.cell? ⟨g, 7, none⟩ = some (.int .u32 (p.a : Nat)) ∧ w.cell? ⟨g, 8, none⟩ = some (.int .u32 (p.b : Nat)) ∧ w.cell? ⟨g, 9, none⟩ = some (.int .u32 (p.key.a : Nat)) ∧ w.cell? ⟨g, 10, none⟩ = some (.int .u32 (p.key.b : Nat)) ∧ w.cell? ⟨g, 11, none⟩ = some (.int .u32 (p.key.c : Nat)) ∧ w.cell? ⟨g, 12, none⟩ = some (.int .u32 (p.key.d : Nat)) ∧ w.cell? ⟨g, 13, none⟩ = some (.bool p.half) ∧ w.cell? ⟨g, 14, none⟩ = some (.int .u32 (p.a2 : Nat)) ∧ w.cell? ⟨g, 15, none⟩ = some (.int .u32 (p.b2 : Nat)) :=
  ⟨h.cell 0, h.cell 1, h.cell 2, h.cell 3, h.cell 4, h.cell 5, h.cell 6, h.cell 7, h.cell 8, h.cell 9, h.cell 10, h.cell 11, h.cell 12, h.cell 13, h.cell 14, h.cell 15⟩
theorem Has.is {w : World} {g : Nat} {t : TypeId} {cs cs' : Array Value} (h : Has w g t cs) (e : cs = cs') : Has w g t cs' := e ▸ h
theorem pr_info : (Try.prog.info? 26).map (·.size) = some 16 := by kernel_rfl

set_option maxRecDepth 100000 in
set_option maxHeartbeats 4000000 in
theorem ref_numbered (p : Peer) (w : World) :
    Calls Try.prog 31 #[prV p] w fun e w' => e = .returned (.bool (decide (numbered p))) ∧ Below w.heap.size w w' := by
  obtain ⟨b, hb⟩ : ∃ b, decide (numbered p) = b := ⟨_, rfl⟩
  have hbn : b = decide (0 ≤ p.train ∧ p.train ≤ 16777215) := by rw [← hb]; rfl
  rw [hb]
  clear hb
  subst hbn
  unfold prV prA
  by_cases h1 : 0 ≤ p.train
  · by_cases h2 : p.train ≤ 16777215
    · rw [decide_eq_true (And.intro h1 h2)]
      go_enter Try.func31, Try.ntmps31
      go_wp2
      go_ret
      exact ⟨rfl, (Below.refl _ _).alloc (Nat.le_refl _) _⟩
    · rw [decide_eq_false (fun h => h2 h.2)]
      go_enter Try.func31, Try.ntmps31
      go_wp2
      go_ret
      exact ⟨rfl, (Below.refl _ _).alloc (Nat.le_refl _) _⟩
  · rw [decide_eq_false (fun h => h1 h.1)]
    go_enter Try.func31, Try.ntmps31
    go_wp2
    go_ret
    exact ⟨rfl, (Below.refl _ _).alloc (Nat.le_refl _) _⟩

set_option maxRecDepth 100000 in
set_option maxHeartbeats 4000000 in
theorem ref_closed (p : Peer) (w : World) :
    Calls Try.prog 46 #[prV p] w fun e w' => e = .returned (prV (shClosed p)) ∧ Below w.heap.size w w' := by
  obtain ⟨wa, hwa⟩ : ∃ wa, (w.alloc (.cells (prA p) 26)).alloc (.cells #[.int .i64 0, .int .i64 0, .int .u32 0, .int .u32 0, .int .u32 0, .int .u32 0, .int .i64 0, .int .u32 0, .int .u32 0, .int .u32 0, .int .u32 0, .int .u32 0, .int .u32 0, .bool false, .int .u32 0, .int .u32 0] 26) = wa := ⟨_, rfl⟩
  have hba : Below w.heap.size w wa := by rw [← hwa]; exact ((Below.refl _ _).alloc (Nat.le_refl _) _).alloc (by simp) _
  have hpa : Has wa w.heap.size 26 (prA p) := by rw [← hwa]; exact (Has.made _ _ _).beside _
  have hza : Has wa (w.heap.size + 1) 26 #[.int .i64 0, .int .i64 0, .int .u32 0, .int .u32 0, .int .u32 0, .int .u32 0, .int .i64 0, .int .u32 0, .int .u32 0, .int .u32 0, .int .u32 0, .int .u32 0, .int .u32 0, .bool false, .int .u32 0, .int .u32 0] := by rw [← hwa]; exact has_at (by simp)
  have hst : ∀ W o u, Below w.heap.size w W → Below w.heap.size w (W.setCell ⟨w.heap.size, o, none⟩ u) := fun W o u h => h.setCell (p := ⟨w.heap.size, o, none⟩) (Nat.le_refl _) u
  have hap : ∀ W o u, Has W (w.heap.size + 1) 26 #[.int .i64 0, .int .i64 0, .int .u32 0, .int .u32 0, .int .u32 0, .int .u32 0, .int .i64 0, .int .u32 0, .int .u32 0, .int .u32 0, .int .u32 0, .int .u32 0, .int .u32 0, .bool false, .int .u32 0, .int .u32 0] → Has (W.setCell ⟨w.heap.size, o, none⟩ u) (w.heap.size + 1) 26 #[.int .i64 0, .int .i64 0, .int .u32 0, .int .u32 0, .int .u32 0, .int .u32 0, .int .i64 0, .int .u32 0, .int .u32 0, .int .u32 0, .int .u32 0, .int .u32 0, .int .u32 0, .bool false, .int .u32 0, .int .u32 0] := fun W o u h => h.apart (p := ⟨w.heap.size, o, none⟩) (by show w.heap.size + 1 ≠ w.heap.size; omega) u
  obtain ⟨_, _, _, _, _, _, c6, c7, c8, c9, c10, c11, c12, _⟩ := pr_cells hpa
  have f6 := hpa.thaw 6
  have f7 := hpa.thaw 7
  have f8 := hpa.thaw 8
  have f9 := hpa.thaw 9
  have f10 := hpa.thaw 10
  have f11 := hpa.thaw 11
  have f12 := hpa.thaw 12
  obtain ⟨wb, hwb⟩ : ∃ wb, ((((((wa.setCell ⟨w.heap.size, 6, none⟩ (.int .i64 0)).setCell ⟨w.heap.size, 7, none⟩ (.int .u32 0)).setCell ⟨w.heap.size, 8, none⟩ (.int .u32 0)).setCell ⟨w.heap.size, 9, none⟩ (.int .u32 0)).setCell ⟨w.heap.size, 10, none⟩ (.int .u32 0)).setCell ⟨w.heap.size, 11, none⟩ (.int .u32 0)).setCell ⟨w.heap.size, 12, none⟩ (.int .u32 0) = wb := ⟨_, rfl⟩
  have hpb : Has wb w.heap.size 26 (prA (shClosed p)) := by rw [← hwb]; exact (((((((hpa.stored 6 _).stored 7 _).stored 8 _).stored 9 _).stored 10 _).stored 11 _).stored 12 _).is (by kernel_rfl)
  have hzb : Has wb (w.heap.size + 1) 26 #[.int .i64 0, .int .i64 0, .int .u32 0, .int .u32 0, .int .u32 0, .int .u32 0, .int .i64 0, .int .u32 0, .int .u32 0, .int .u32 0, .int .u32 0, .int .u32 0, .int .u32 0, .bool false, .int .u32 0, .int .u32 0] := by rw [← hwb]; exact hap _ _ _ (hap _ _ _ (hap _ _ _ (hap _ _ _ (hap _ _ _ (hap _ _ _ (hap _ _ _ hza))))))
  have hbb : Below w.heap.size w wb := by rw [← hwb]; exact hst _ _ _ (hst _ _ _ (hst _ _ _ (hst _ _ _ (hst _ _ _ (hst _ _ _ (hst _ _ _ hba))))))
  have HWA := Lib.hid hwa; have HWB := Lib.hid hwb; have HPB := Lib.hid hpb; have HZB := Lib.hid hzb
  have HR := Lib.hid (has_setRow7 hzb (prA (shClosed p)))
  have HBF := Lib.hid (below_row (g := w.heap.size + 1) hbb (by omega) (prA (shClosed p)))
  clear hwa hba hpa hza hst hap hwb hpb hzb hbb
  unfold prV
  go_enter Try.func46, Try.ntmps46
  go_upto_region 1 with fail
  rw [HWA.out]
  go_upto_region 5 with fail
  rw [HWB.out]
  go_wp2_with (first | (with_reducible refine wpList_load_row (o := ⟨some 8, _, _, _, _, _⟩) rfl 26 _ rfl (w.heap.size) rfl 26 (prA (shClosed p)) (0, 0) _ (HPB.out).raw Try.underlying26 rfl (by kernel_rfl) ?_) | (with_reducible refine wpList_store_rowTo (o := ⟨none, _, _, _, _, _⟩) rfl 26 _ _ rfl rfl (w.heap.size + 1) (prA (shClosed p)) rfl rfl 26 _ (HZB.out).raw (by kernel_rfl) (by kernel_rfl) (by kernel_rfl) ?_))
  refine bodyPost_ret (results_cell_row rfl _ _ (w.heap.size + 1) 26 _ _ _ rfl HR.out Try.underlying26 rfl (by kernel_rfl)) rfl ?_
  exact ⟨rfl, HBF.out⟩
end Go.Proofs.Ytekcnmimfhiblaa
