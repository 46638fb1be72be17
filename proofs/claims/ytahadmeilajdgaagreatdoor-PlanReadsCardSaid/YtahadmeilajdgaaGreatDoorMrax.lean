/-
  Our own text, joined.
-/
import Derived.Test.YtahadmeilajdgaaGreatDoorMral
import Derived.Test.YtahadmeilajdgaaGreatDoorMras
import Derived.Test.YtahadmeilajdgaaGreatDoorMraa
import Derived.Test.YtahadmeilajdgaaGreatDoorMrav
import Derived.Deep.RegionHeld3
import Derived.Deep.DeepCutAuto
import Derived.StillTailTactics
import Derived.Deep.AppendLies
namespace Go.Proofs.YtahadmeilajdgaaGreatDoor
set_option maxRecDepth 100000
set_option maxHeartbeats 4000000
section
open Go.RowKit
def omPts (l:List Pt):List Pt:=qad [6,7,8]++(l++([.mk 27 0 (l++[])]++[]))
def qei (gs:List Nat):List Pt:=qad [7,8]++(qad gs++(qad [13,14,15,16,17]++([.mk 18 2 (qad [19])]++(qad [20,21,22]++([.mk 23 1 (qad [24])]++[])))))
theorem qet (lo:Nat)(L:List PlT)(w:World)(hn:L.length<=100)(hx: ∀x∈L,Parts lo w.heap.size w x.1 x.2.1 x.2.2.1 x.2.2.2/\x.2.1<=100)(hlo:lo<=w.heap.size):
  Calls Tryz.prog 244 #[.slice (some ⟨w.heap.size,0,none⟩) L.length L.length] (w.alloc (.cells (pls L).toArray 252)) fun e w'=> ∃A' n' c',e= .returned (.slice A' n' c')/\Parts lo w'.heap.size w' A' n' c' (ptsOf L)/\Below w.heap.size w w':=
 (concat_lit lo L w hn hx hlo).mono fun _ _ ⟨A',c',h1,h2,h3⟩=>⟨A',_,c',h1,h2,h3⟩
theorem ifAny_lit (lo v k:Nat)(vs:List Nat)(w:World)(hk:k≠0)(hn:vs.length<=100)(hlo:lo<=w.heap.size):
  Calls Tryz.prog 261 #[.int .i64 (v:Int),.slice (some ⟨w.heap.size,0,none⟩) (qaK k).length (qaK k).length,.slice (some ⟨w.heap.size+1,0,none⟩) vs.length vs.length] ((w.alloc (.cells (nats (qaK k)).toArray 3)).alloc (.cells (nats vs).toArray 3)) fun e w'=> ∃A' c',e= .returned (.slice A' 1 c')/\Parts lo w'.heap.size w' A' 1 c' [.mk v k (qad vs)]/\Below w.heap.size w w':=by
 have h1:=qb6 lo w 3 (nats (qaK k)) (qaK k).length (by simp[nats]) hlo;have hb:Below w.heap.size w (w.alloc (.cells (nats (qaK k)).toArray 3)):=(Below.refl _ w).alloc (Nat.le_refl _) _;have hsz:(w.alloc (.cells (nats (qaK k)).toArray 3)).heap.size=w.heap.size+1:=by simp
 have hlo1:lo<=(w.alloc (.cells (nats (qaK k)).toArray 3)).heap.size:=Nat.le_trans hlo hb.size;generalize w.alloc (.cells (nats (qaK k)).toArray 3)=w1 at*;rw[<-hsz];have h2:=qb6 lo w1 3 (nats vs) vs.length (by simp[nats]) hlo1;have hb1:Below w1.heap.size w1 (w1.alloc (.cells (nats vs).toArray 3)):=(Below.refl _ w1).alloc (Nat.le_refl _) _;have h3:=h1.keep (qcP hb1) (Nat.le_refl _) hb1.size;refine(qfi lo v k _ _ _ vs.length vs.length vs _ hk h3 h2.sl hn (Nat.le_trans hlo1 hb1.size)).mono ?_;rintro e w' ⟨A',c',rfl,hp,hb2⟩;exact⟨A',c',rfl,hp,(bu hb hb1).trans (hb2.mono (bu hb hb1).size)⟩
theorem qfr (lo:Nat)(A:Option Addr)(n c:Nat)(L:List PlT)(w0:World)(hs:Sl w0 1 A n c (pls L))(hn:n<=100)(hx: ∀x∈L,Parts lo w0.heap.size w0 x.1 x.2.1 x.2.2.1 x.2.2.2/\x.2.1<=100)(hlo:lo<=w0.heap.size)(hsum:(ptsOf L).length<=50):
  Calls Tryz.prog 247 #[.slice A n c] w0 fun e w'=> ∃A' n' c',e= .returned (.slice A' n' c')/\Parts lo w'.heap.size w' A' n' c' (omPts (ptsOf L))/\Below w0.heap.size w0 w':=by
 have HB0:=zq (Below.refl w0.heap.size w0);have HC:=zq (qc8 lo A n c L w0 hs hn hx hlo);have HSM:=zq hsum;clear hs hx hsum;generalize ptsOf L=l at*;generalize numOf L=nl at*;go_enter Tryz.func247,Tryz.ntmps247;go_wp2_with fail;refine HC.out.mono ?_;rintro e w1 ⟨Al,cl,rfl,hp,hb⟩;have HNL:Hid (nl<=100):=zq (by rw[<-hp.len];have:=HSM.out;omega);have HB1:=zq hb;have HPL1:=zq hp;clear hp hb HC HB0;have HC:Hid (Calls Tryz.prog 245 #[.slice (some ⟨w1.heap.size,0,none⟩) 3 3] (w1.alloc (.cells #[.int .i64 6,.int .i64 7,.int .i64 8] 3)) fun e w'=> ∃A' c',e= .returned (.slice A' 3 c')/\Parts lo w'.heap.size w' A' 3 c' (qad [6,7,8])/\Below w1.heap.size w1 w'):=qaG lo [6,7,8] w1 (by decide) (Nat.le_trans hlo HB1.out.size);go_wp2_with fail;refine HC.out.mono ?_;rintro e w2 ⟨A1,c1,rfl,hp,hb⟩;have HB2:=tB HB1 hb;have HPL2:=zq (HPL1.out.under hb);have HP2:=zq hp;clear hp hb HC HB1 HPL1;have HC:Hid (Calls Tryz.prog 246 #[.slice (some ⟨w2.heap.size,0,none⟩) 1 1] (w2.alloc (.cells #[.slice Al nl cl] 252)) fun e w'=> ∃A' c',e= .returned (.slice A' 1 c')/\Parts lo w'.heap.size w' A' 1 c' [.mk 27 0 (l++[])]/\Below w2.heap.size w2 w'):=qcW lo [(Al,nl,cl,l)] w2 (by simp) (fun x hx=>by simp only[List.mem_cons,List.not_mem_nil,or_false]at hx;subst hx;exact⟨HPL2.out,HNL.out⟩) (Nat.le_trans hlo HB2.out.size);go_wp2_with fail;refine HC.out.mono ?_;rintro e w3 ⟨A2,c2,rfl,hp,hb⟩;have HB3:=tB HB2 hb;have HPL3:=zq (HPL2.out.under hb);have HP3:=zq (HP2.out.under hb);have HQ3:=zq hp;clear hp hb HC HB2 HPL2 HP2;have HC:Hid (Calls Tryz.prog 244 #[.slice (some ⟨w3.heap.size,0,none⟩) 3 3] (w3.alloc (.cells #[.slice A1 3 c1,.slice Al nl cl,.slice A2 1 c2] 252)) fun e w'=> ∃A' n' c',e= .returned (.slice A' n' c')/\Parts lo w'.heap.size w' A' n' c' (omPts l)/\Below w3.heap.size w3 w'):=qet lo [(A1,3,c1,qad [6,7,8]),(Al,nl,cl,l),(A2,1,c2,[.mk 27 0 (l++[])])] w3 (by simp) (fun x hx=>by
  simp only[List.mem_cons,List.not_mem_nil,or_false]at hx
  rcases hx with rfl|rfl|rfl
  ·exact⟨HP3.out,by show(3:Nat)<=100;omega⟩
  ·exact⟨HPL3.out,HNL.out⟩
  ·exact⟨HQ3.out,by show(1:Nat)<=100;omega⟩) (Nat.le_trans hlo HB3.out.size)
 go_wp2_with fail;refine HC.out.mono ?_;rintro e w4 ⟨A4,n4,c4,rfl,hp,hb⟩;have HB4:=tB HB3 hb;have HP4:=zq hp;clear hp hb HC HB3 HPL3 HP3 HQ3;go_wp2;go_ret
 exact⟨A4,n4,c4,rfl,HP4.out,HB4.out⟩
theorem qb5 (lo:Nat)(L:List PlT)(w:World)(hn:L.length<=100)(hx: ∀x∈L,Parts lo w.heap.size w x.1 x.2.1 x.2.2.1 x.2.2.2/\x.2.1<=100)(hlo:lo<=w.heap.size)(hsum:(ptsOf L).length<=50):
  Calls Tryz.prog 247 #[.slice (some ⟨w.heap.size,0,none⟩) L.length L.length] (w.alloc (.cells (pls L).toArray 252)) fun e w'=> ∃A' n' c',e= .returned (.slice A' n' c')/\Parts lo w'.heap.size w' A' n' c' (omPts (ptsOf L))/\Below w.heap.size w w':=by
 refine(qfr lo _ L.length _ L _ (qb6 lo w _ (pls L) L.length (by simp[pls]) hlo).sl hn (fun x h=>⟨(hx x h).1.beside _,(hx x h).2⟩) (by simp;omega) hsum).mono ?_;rintro e w' ⟨A',n',c',rfl,hp,hb⟩;exact⟨A',n',c',rfl,hp,((Below.refl _ w).alloc (Nat.le_refl _) _).trans (hb.mono (by simp))⟩
theorem report_parts (lo:Nat)(A:Option Addr)(n c:Nat)(gs:List Nat)(w0:World)(hs:Sl w0 1 A n c (nats gs))(hn:n<=10)(hlo:lo<=w0.heap.size):
  Calls Tryz.prog 243 #[.slice A n c] w0 fun e w'=> ∃A' n' c',e= .returned (.slice A' n' c')/\Parts lo w'.heap.size w' A' n' c' (qei gs)/\Below w0.heap.size w0 w':=by
 have HB0:=zq (Below.refl w0.heap.size w0);have HGS:=zq hs;clear hs;go_enter Tryz.func243,Tryz.ntmps243;have HC:Hid (Calls Tryz.prog 245 #[.slice (some ⟨w0.heap.size,0,none⟩) 2 2] (w0.alloc (.cells #[.int .i64 7,.int .i64 8] 3)) fun e w'=> ∃A' c',e= .returned (.slice A' 2 c')/\Parts lo w'.heap.size w' A' 2 c' (qad [7,8])/\Below w0.heap.size w0 w'):=qaG lo [7,8] w0 (by decide) (Nat.le_trans hlo HB0.out.size);go_wp2_with fail;refine HC.out.mono ?_;rintro e w1 ⟨A0,c0,rfl,hp,hb⟩;have HB1:=tB HB0 hb;have HP0_1:=zq hp;clear hp hb HC HB0;have HC:=zq (qdR lo A n c gs w1 (HGS.out.under HB1.out) (by omega) (Nat.le_trans hlo HB1.out.size));go_wp2_with fail;refine HC.out.mono ?_;rintro e w2 ⟨A1,c1,rfl,hp,hb⟩;have HB2:=tB HB1 hb;have HP0_2:=zq (HP0_1.out.under hb);have HP1_2:=zq hp;clear hp hb HC HB1 HP0_1;have HC:Hid (Calls Tryz.prog 245 #[.slice (some ⟨w2.heap.size,0,none⟩) 5 5] (w2.alloc (.cells #[.int .i64 13,.int .i64 14,.int .i64 15,.int .i64 16,.int .i64 17] 3)) fun e w'=> ∃A' c',e= .returned (.slice A' 5 c')/\Parts lo w'.heap.size w' A' 5 c' (qad [13,14,15,16,17])/\Below w2.heap.size w2 w'):=qaG lo [13,14,15,16,17] w2 (by decide) (Nat.le_trans hlo HB2.out.size);go_wp2_with fail;refine HC.out.mono ?_;rintro e w3 ⟨A2,c2,rfl,hp,hb⟩;have HB3:=tB HB2 hb;have HP0_3:=zq (HP0_2.out.under hb);have HP1_3:=zq (HP1_2.out.under hb);have HP2_3:=zq hp;clear hp hb HC HB2 HP0_2 HP1_2;have HC:Hid (Calls Tryz.prog 261 #[.int .i64 18,.slice (some ⟨w3.heap.size,0,none⟩) 2 2,.slice (some ⟨w3.heap.size+1,0,none⟩) 1 1] ((w3.alloc (.cells #[.int .i64 1,.int .i64 2] 3)).alloc (.cells #[.int .i64 19] 3)) fun e w'=> ∃A' c',e= .returned (.slice A' 1 c')/\Parts lo w'.heap.size w' A' 1 c' [.mk 18 2 (qad [19])]/\Below w3.heap.size w3 w'):=ifAny_lit lo 18 2 [19] w3 (by decide) (by decide) (Nat.le_trans hlo HB3.out.size);go_wp2_with fail;refine HC.out.mono ?_;rintro e w4 ⟨A3,c3,rfl,hp,hb⟩;have HB4:=tB HB3 hb;have HP0_4:=zq (HP0_3.out.under hb);have HP1_4:=zq (HP1_3.out.under hb);have HP2_4:=zq (HP2_3.out.under hb);have HP3_4:=zq hp;clear hp hb HC HB3 HP0_3 HP1_3 HP2_3;have HC:Hid (Calls Tryz.prog 245 #[.slice (some ⟨w4.heap.size,0,none⟩) 3 3] (w4.alloc (.cells #[.int .i64 20,.int .i64 21,.int .i64 22] 3)) fun e w'=> ∃A' c',e= .returned (.slice A' 3 c')/\Parts lo w'.heap.size w' A' 3 c' (qad [20,21,22])/\Below w4.heap.size w4 w'):=qaG lo [20,21,22] w4 (by decide) (Nat.le_trans hlo HB4.out.size);go_wp2_with fail;refine HC.out.mono ?_;rintro e w5 ⟨A4,c4,rfl,hp,hb⟩;have HB5:=tB HB4 hb;have HP0_5:=zq (HP0_4.out.under hb);have HP1_5:=zq (HP1_4.out.under hb);have HP2_5:=zq (HP2_4.out.under hb);have HP3_5:=zq (HP3_4.out.under hb);have HP4_5:=zq hp;clear hp hb HC HB4 HP0_4 HP1_4 HP2_4 HP3_4;have HC:Hid (Calls Tryz.prog 248 #[.int .i64 23,.slice (some ⟨w5.heap.size,0,none⟩) 1 1] (w5.alloc (.cells #[.int .i64 24] 3)) fun e w'=> ∃A' c',e= .returned (.slice A' 1 c')/\Parts lo w'.heap.size w' A' 1 c' [.mk 23 1 (qad [24])]/\Below w5.heap.size w5 w'):=qcD lo 23 [24] w5 (by decide) (Nat.le_trans hlo HB5.out.size);go_wp2_with fail;refine HC.out.mono ?_;rintro e w6 ⟨A5,c5,rfl,hp,hb⟩;have HB6:=tB HB5 hb;have HP0_6:=zq (HP0_5.out.under hb);have HP1_6:=zq (HP1_5.out.under hb);have HP2_6:=zq (HP2_5.out.under hb);have HP3_6:=zq (HP3_5.out.under hb);have HP4_6:=zq (HP4_5.out.under hb);have HP5_6:=zq hp;clear hp hb HC HB5 HP0_5 HP1_5 HP2_5 HP3_5 HP4_5;have HC:Hid (Calls Tryz.prog 244 #[.slice (some ⟨w6.heap.size,0,none⟩) 6 6] (w6.alloc (.cells #[.slice A0 2 c0,.slice A1 n c1,.slice A2 5 c2,.slice A3 1 c3,.slice A4 3 c4,.slice A5 1 c5] 252)) fun e w'=> ∃A' n' c',e= .returned (.slice A' n' c')/\Parts lo w'.heap.size w' A' n' c' (ptsOf [(A0,2,c0,(qad [7,8])),(A1,n,c1,(qad gs)),(A2,5,c2,(qad [13,14,15,16,17])),(A3,1,c3,[.mk 18 2 (qad [19])]),(A4,3,c4,(qad [20,21,22])),(A5,1,c5,[.mk 23 1 (qad [24])])])/\Below w6.heap.size w6 w'):=qet lo [(A0,2,c0,(qad [7,8])),(A1,n,c1,(qad gs)),(A2,5,c2,(qad [13,14,15,16,17])),(A3,1,c3,[.mk 18 2 (qad [19])]),(A4,3,c4,(qad [20,21,22])),(A5,1,c5,[.mk 23 1 (qad [24])])] w6 (by simp) (fun x hx=>by
  simp only[List.mem_cons,List.not_mem_nil,or_false]at hx
  rcases hx with rfl|rfl|rfl|rfl|rfl|rfl
  ·exact⟨HP0_6.out,(by show(2:Nat)<=100;omega)⟩
  ·exact⟨HP1_6.out,(by show(n:Nat)<=100;omega)⟩
  ·exact⟨HP2_6.out,(by show(5:Nat)<=100;omega)⟩
  ·exact⟨HP3_6.out,(by show(1:Nat)<=100;omega)⟩
  ·exact⟨HP4_6.out,(by show(3:Nat)<=100;omega)⟩
  ·exact⟨HP5_6.out,(by show(1:Nat)<=100;omega)⟩
  ) (Nat.le_trans hlo HB6.out.size)
 go_wp2_with fail;refine HC.out.mono ?_;rintro e w7 ⟨A6,n6,c6,rfl,hp,hb⟩;have HB7:=tB HB6 hb;have HP6_7:=zq hp;clear hp hb HC HB6 HP0_6 HP1_6 HP2_6 HP3_6 HP4_6 HP5_6;go_wp2;go_ret
 exact⟨A6,n6,c6,rfl,HP6_7.out,HB7.out⟩
theorem qgn (lo:Nat)(vs:List Nat)(w:World)(hn:vs.length<=10)(hlo:lo<=w.heap.size):
  Calls Tryz.prog 243 #[.slice (some ⟨w.heap.size,0,none⟩) vs.length vs.length] (w.alloc (.cells (nats vs).toArray 3)) fun e w'=> ∃A' n' c',e= .returned (.slice A' n' c')/\Parts lo w'.heap.size w' A' n' c' (qei vs)/\Below w.heap.size w w':=by
 refine(report_parts lo _ vs.length _ vs _ (qb6 lo w _ (nats vs) vs.length (by simp[nats]) hlo).sl hn (by simp;omega)).mono ?_;rintro e w' ⟨A',n',c',rfl,hp,hb⟩;exact⟨A',n',c',rfl,hp,((Below.refl _ w).alloc (Nat.le_refl _) _).trans (hb.mono (by simp))⟩
/-! What the parts stand for, in the chapter's words. -/
mutual
def ndPt:Pt->List Nd
 | .mk v k b=>if k=3 then[.v v]else[.v v,.g k (ndPts b)]
def ndPts:List Pt->List Nd
 |[]=>[]
 |x::l=>ndPt x++ndPts l
end
theorem qfb (lo:Nat)(w0:World)(hlo:lo<=w0.heap.size):
  Calls Tryz.prog 249 #[] w0 fun e w'=> ∃A' n' c' l,e= .returned (.slice A' n' c')/\Parts lo w'.heap.size w' A' n' c' l/\ndPts l=astOf 15/\Below w0.heap.size w0 w':=by
 have HB0:=zq (Below.refl w0.heap.size w0);go_enter Tryz.func249,Tryz.ntmps249;have HC:Hid (Calls Tryz.prog 248 #[.int .i64 29,.slice (some ⟨w0.heap.size,0,none⟩) 2 2] (w0.alloc (.cells #[.int .i64 30,.int .i64 31] 3)) fun e w'=> ∃A' c',e= .returned (.slice A' 1 c')/\Parts lo w'.heap.size w' A' 1 c' [.mk 29 1 (qad [30,31])]/\Below w0.heap.size w0 w'):=qcD lo 29 [30,31] w0 (by decide) (Nat.le_trans hlo HB0.out.size);go_wp2_with fail;refine HC.out.mono ?_;rintro e w1 ⟨A0,c0,rfl,hp,hb⟩;have HB1:=tB HB0 hb;have HP0_1:=zq hp;clear hp hb HC HB0;have HC:Hid (Calls Tryz.prog 245 #[.slice (some ⟨w1.heap.size,0,none⟩) 5 5] (w1.alloc (.cells #[.int .i64 6,.int .i64 7,.int .i64 8,.int .i64 25,.int .i64 26] 3)) fun e w'=> ∃A' c',e= .returned (.slice A' 5 c')/\Parts lo w'.heap.size w' A' 5 c' (qad [6,7,8,25,26])/\Below w1.heap.size w1 w'):=qaG lo [6,7,8,25,26] w1 (by decide) (Nat.le_trans hlo HB1.out.size);go_wp2_with fail;refine HC.out.mono ?_;rintro e w2 ⟨A1,c1,rfl,hp,hb⟩;have HB2:=tB HB1 hb;have HP0_2:=zq (HP0_1.out.under hb);have HP1_2:=zq hp;clear hp hb HC HB1 HP0_1;have HC:Hid (Calls Tryz.prog 245 #[.slice (some ⟨w2.heap.size,0,none⟩) 1 1] (w2.alloc (.cells #[.int .i64 28] 3)) fun e w'=> ∃A' c',e= .returned (.slice A' 1 c')/\Parts lo w'.heap.size w' A' 1 c' (qad [28])/\Below w2.heap.size w2 w'):=qaG lo [28] w2 (by decide) (Nat.le_trans hlo HB2.out.size);go_wp2_with fail;refine HC.out.mono ?_;rintro e w3 ⟨A2,c2,rfl,hp,hb⟩;have HB3:=tB HB2 hb;have HP0_3:=zq (HP0_2.out.under hb);have HP1_3:=zq (HP1_2.out.under hb);have HP2_3:=zq hp;clear hp hb HC HB2 HP0_2 HP1_2;have HC:Hid (Calls Tryz.prog 246 #[.slice (some ⟨w3.heap.size,0,none⟩) 2 2] (w3.alloc (.cells #[.slice A2 1 c2,.slice A0 1 c0] 252)) fun e w'=> ∃A' c',e= .returned (.slice A' 1 c')/\Parts lo w'.heap.size w' A' 1 c' [.mk 27 0 (ptsOf [(A2,1,c2,(qad [28])),(A0,1,c0,[.mk 29 1 (qad [30,31])])])]/\Below w3.heap.size w3 w'):=qcW lo [(A2,1,c2,(qad [28])),(A0,1,c0,[.mk 29 1 (qad [30,31])])] w3 (by simp) (fun x hx=>by
  simp only[List.mem_cons,List.not_mem_nil,or_false]at hx
  rcases hx with rfl|rfl
  ·exact⟨HP2_3.out,(by show(1:Nat)<=100;omega)⟩
  ·exact⟨HP0_3.out,(by show(1:Nat)<=100;omega)⟩
  ) (Nat.le_trans hlo HB3.out.size)
 go_wp2_with fail;refine HC.out.mono ?_;rintro e w4 ⟨A3,c3,rfl,hp,hb⟩;have HB4:=tB HB3 hb;have HP0_4:=zq (HP0_3.out.under hb);have HP1_4:=zq (HP1_3.out.under hb);have HP3_4:=zq hp;clear hp hb HC HB3 HP0_3 HP1_3 HP2_3;have HC:Hid (Calls Tryz.prog 245 #[.slice (some ⟨w4.heap.size,0,none⟩) 1 1] (w4.alloc (.cells #[.int .i64 32] 3)) fun e w'=> ∃A' c',e= .returned (.slice A' 1 c')/\Parts lo w'.heap.size w' A' 1 c' (qad [32])/\Below w4.heap.size w4 w'):=qaG lo [32] w4 (by decide) (Nat.le_trans hlo HB4.out.size);go_wp2_with fail;refine HC.out.mono ?_;rintro e w5 ⟨A4,c4,rfl,hp,hb⟩;have HB5:=tB HB4 hb;have HP0_5:=zq (HP0_4.out.under hb);have HP1_5:=zq (HP1_4.out.under hb);have HP3_5:=zq (HP3_4.out.under hb);have HP4_5:=zq hp;clear hp hb HC HB4 HP0_4 HP1_4 HP3_4;have HC:Hid (Calls Tryz.prog 248 #[.int .i64 33,.slice (some ⟨w5.heap.size,0,none⟩) 2 2] (w5.alloc (.cells #[.int .i64 34,.int .i64 35] 3)) fun e w'=> ∃A' c',e= .returned (.slice A' 1 c')/\Parts lo w'.heap.size w' A' 1 c' [.mk 33 1 (qad [34,35])]/\Below w5.heap.size w5 w'):=qcD lo 33 [34,35] w5 (by decide) (Nat.le_trans hlo HB5.out.size);go_wp2_with fail;refine HC.out.mono ?_;rintro e w6 ⟨A5,c5,rfl,hp,hb⟩;have HB6:=tB HB5 hb;have HP0_6:=zq (HP0_5.out.under hb);have HP1_6:=zq (HP1_5.out.under hb);have HP3_6:=zq (HP3_5.out.under hb);have HP4_6:=zq (HP4_5.out.under hb);have HP5_6:=zq hp;clear hp hb HC HB5 HP0_5 HP1_5 HP3_5 HP4_5;have HC:Hid (Calls Tryz.prog 248 #[.int .i64 36,.slice (some ⟨w6.heap.size,0,none⟩) 2 2] (w6.alloc (.cells #[.int .i64 37,.int .i64 38] 3)) fun e w'=> ∃A' c',e= .returned (.slice A' 1 c')/\Parts lo w'.heap.size w' A' 1 c' [.mk 36 1 (qad [37,38])]/\Below w6.heap.size w6 w'):=qcD lo 36 [37,38] w6 (by decide) (Nat.le_trans hlo HB6.out.size);go_wp2_with fail;refine HC.out.mono ?_;rintro e w7 ⟨A6,c6,rfl,hp,hb⟩;have HB7:=tB HB6 hb;have HP0_7:=zq (HP0_6.out.under hb);have HP1_7:=zq (HP1_6.out.under hb);have HP3_7:=zq (HP3_6.out.under hb);have HP4_7:=zq (HP4_6.out.under hb);have HP5_7:=zq (HP5_6.out.under hb);have HP6_7:=zq hp;clear hp hb HC HB6 HP0_6 HP1_6 HP3_6 HP4_6 HP5_6;have HC:Hid (Calls Tryz.prog 248 #[.int .i64 39,.slice (some ⟨w7.heap.size,0,none⟩) 4 4] (w7.alloc (.cells #[.int .i64 40,.int .i64 41,.int .i64 42,.int .i64 43] 3)) fun e w'=> ∃A' c',e= .returned (.slice A' 1 c')/\Parts lo w'.heap.size w' A' 1 c' [.mk 39 1 (qad [40,41,42,43])]/\Below w7.heap.size w7 w'):=qcD lo 39 [40,41,42,43] w7 (by decide) (Nat.le_trans hlo HB7.out.size);go_wp2_with fail;refine HC.out.mono ?_;rintro e w8 ⟨A7,c7,rfl,hp,hb⟩;have HB8:=tB HB7 hb;have HP0_8:=zq (HP0_7.out.under hb);have HP1_8:=zq (HP1_7.out.under hb);have HP3_8:=zq (HP3_7.out.under hb);have HP4_8:=zq (HP4_7.out.under hb);have HP5_8:=zq (HP5_7.out.under hb);have HP6_8:=zq (HP6_7.out.under hb);have HP7_8:=zq hp;clear hp hb HC HB7 HP0_7 HP1_7 HP3_7 HP4_7 HP5_7 HP6_7;have HC:Hid (Calls Tryz.prog 244 #[.slice (some ⟨w8.heap.size,0,none⟩) 7 7] (w8.alloc (.cells #[.slice A1 5 c1,.slice A3 1 c3,.slice A4 1 c4,.slice A0 1 c0,.slice A5 1 c5,.slice A6 1 c6,.slice A7 1 c7] 252)) fun e w'=> ∃A' n' c',e= .returned (.slice A' n' c')/\Parts lo w'.heap.size w' A' n' c' (ptsOf [(A1,5,c1,(qad [6,7,8,25,26])),(A3,1,c3,[.mk 27 0 (ptsOf [(A2,1,c2,(qad [28])),(A0,1,c0,[.mk 29 1 (qad [30,31])])])]),(A4,1,c4,(qad [32])),(A0,1,c0,[.mk 29 1 (qad [30,31])]),(A5,1,c5,[.mk 33 1 (qad [34,35])]),(A6,1,c6,[.mk 36 1 (qad [37,38])]),(A7,1,c7,[.mk 39 1 (qad [40,41,42,43])])])/\Below w8.heap.size w8 w'):=qet lo [(A1,5,c1,(qad [6,7,8,25,26])),(A3,1,c3,[.mk 27 0 (ptsOf [(A2,1,c2,(qad [28])),(A0,1,c0,[.mk 29 1 (qad [30,31])])])]),(A4,1,c4,(qad [32])),(A0,1,c0,[.mk 29 1 (qad [30,31])]),(A5,1,c5,[.mk 33 1 (qad [34,35])]),(A6,1,c6,[.mk 36 1 (qad [37,38])]),(A7,1,c7,[.mk 39 1 (qad [40,41,42,43])])] w8 (by simp) (fun x hx=>by
  simp only[List.mem_cons,List.not_mem_nil,or_false]at hx
  rcases hx with rfl|rfl|rfl|rfl|rfl|rfl|rfl
  ·exact⟨HP1_8.out,(by show(5:Nat)<=100;omega)⟩
  ·exact⟨HP3_8.out,(by show(1:Nat)<=100;omega)⟩
  ·exact⟨HP4_8.out,(by show(1:Nat)<=100;omega)⟩
  ·exact⟨HP0_8.out,(by show(1:Nat)<=100;omega)⟩
  ·exact⟨HP5_8.out,(by show(1:Nat)<=100;omega)⟩
  ·exact⟨HP6_8.out,(by show(1:Nat)<=100;omega)⟩
  ·exact⟨HP7_8.out,(by show(1:Nat)<=100;omega)⟩
  ) (Nat.le_trans hlo HB8.out.size)
 go_wp2_with fail;refine HC.out.mono ?_;rintro e w9 ⟨A8,n8,c8,rfl,hp,hb⟩;have HB9:=tB HB8 hb;have HP8_9:=zq hp;clear hp hb HC HB8 HP0_8 HP1_8 HP3_8 HP4_8 HP5_8 HP6_8 HP7_8;go_wp2;go_ret
 exact⟨A8,n8,c8,_,rfl,HP8_9.out,by kernel_rfl,HB9.out⟩
end
section
open Go.RowKit
theorem layout_3 (lo:Nat)(w0:World)(hlo:lo<=w0.heap.size):
  Calls Tryz.prog 213 #[.int .i64 3] w0 fun e w'=> ∃A' n' c' l,e= .returned (.slice A' n' c')/\Parts lo w'.heap.size w' A' n' c' l/\ndPts l=astOf 3/\Below w0.heap.size w0 w':=by
 have HB0:=zq (Below.refl w0.heap.size w0);go_enter Tryz.func213,Tryz.ntmps213;have HC:Hid (Calls Tryz.prog 245 #[.slice (some ⟨w0.heap.size,0,none⟩) 4 4] (w0.alloc (.cells #[.int .i64 6,.int .i64 7,.int .i64 8,.int .i64 84] 3)) fun e w'=> ∃A' c',e= .returned (.slice A' 4 c')/\Parts lo w'.heap.size w' A' 4 c' (qad [6,7,8,84])/\Below w0.heap.size w0 w'):=qaG lo [6,7,8,84] w0 (by decide) (Nat.le_trans hlo HB0.out.size);go_wp2_with fail;refine HC.out.mono ?_;rintro e w1 ⟨A0,c0,rfl,hp,hb⟩;have HB1:=tB HB0 hb;have HP0_1:=zq hp;clear hp hb HC HB0;have HC:Hid (Calls Tryz.prog 245 #[.slice (some ⟨w1.heap.size,0,none⟩) 1 1] (w1.alloc (.cells #[.int .i64 10] 3)) fun e w'=> ∃A' c',e= .returned (.slice A' 1 c')/\Parts lo w'.heap.size w' A' 1 c' (qad [10])/\Below w1.heap.size w1 w'):=qaG lo [10] w1 (by decide) (Nat.le_trans hlo HB1.out.size);go_wp2_with fail;refine HC.out.mono ?_;rintro e w2 ⟨A1,c1,rfl,hp,hb⟩;have HB2:=tB HB1 hb;have HP0_2:=zq (HP0_1.out.under hb);have HP1_2:=zq hp;clear hp hb HC HB1 HP0_1;have HC:Hid (Calls Tryz.prog 246 #[.slice (some ⟨w2.heap.size,0,none⟩) 1 1] (w2.alloc (.cells #[.slice A1 1 c1] 252)) fun e w'=> ∃A' c',e= .returned (.slice A' 1 c')/\Parts lo w'.heap.size w' A' 1 c' [.mk 27 0 (ptsOf [(A1,1,c1,(qad [10]))])]/\Below w2.heap.size w2 w'):=qcW lo [(A1,1,c1,(qad [10]))] w2 (by simp) (fun x hx=>by
  simp only[List.mem_cons,List.not_mem_nil,or_false]at hx;subst hx
  ·exact⟨HP1_2.out,(by show(1:Nat)<=100;omega)⟩
  ) (Nat.le_trans hlo HB2.out.size)
 go_wp2_with fail;refine HC.out.mono ?_;rintro e w3 ⟨A2,c2,rfl,hp,hb⟩;have HB3:=tB HB2 hb;have HP0_3:=zq (HP0_2.out.under hb);have HP2_3:=zq hp;clear hp hb HC HB2 HP0_2 HP1_2;have HC:Hid (Calls Tryz.prog 245 #[.slice (some ⟨w3.heap.size,0,none⟩) 3 3] (w3.alloc (.cells #[.int .i64 85,.int .i64 87,.int .i64 86] 3)) fun e w'=> ∃A' c',e= .returned (.slice A' 3 c')/\Parts lo w'.heap.size w' A' 3 c' (qad [85,87,86])/\Below w3.heap.size w3 w'):=qaG lo [85,87,86] w3 (by decide) (Nat.le_trans hlo HB3.out.size);go_wp2_with fail;refine HC.out.mono ?_;rintro e w4 ⟨A3,c3,rfl,hp,hb⟩;have HB4:=tB HB3 hb;have HP0_4:=zq (HP0_3.out.under hb);have HP2_4:=zq (HP2_3.out.under hb);have HP3_4:=zq hp;clear hp hb HC HB3 HP0_3 HP2_3;have HC:Hid (Calls Tryz.prog 244 #[.slice (some ⟨w4.heap.size,0,none⟩) 3 3] (w4.alloc (.cells #[.slice A0 4 c0,.slice A2 1 c2,.slice A3 3 c3] 252)) fun e w'=> ∃A' n' c',e= .returned (.slice A' n' c')/\Parts lo w'.heap.size w' A' n' c' (ptsOf [(A0,4,c0,(qad [6,7,8,84])),(A2,1,c2,[.mk 27 0 (ptsOf [(A1,1,c1,(qad [10]))])]),(A3,3,c3,(qad [85,87,86]))])/\Below w4.heap.size w4 w'):=qet lo [(A0,4,c0,(qad [6,7,8,84])),(A2,1,c2,[.mk 27 0 (ptsOf [(A1,1,c1,(qad [10]))])]),(A3,3,c3,(qad [85,87,86]))] w4 (by simp) (fun x hx=>by
  simp only[List.mem_cons,List.not_mem_nil,or_false]at hx
  rcases hx with rfl|rfl|rfl
  ·exact⟨HP0_4.out,(by show(4:Nat)<=100;omega)⟩
  ·exact⟨HP2_4.out,(by show(1:Nat)<=100;omega)⟩
  ·exact⟨HP3_4.out,(by show(3:Nat)<=100;omega)⟩
  ) (Nat.le_trans hlo HB4.out.size)
 go_wp2_with fail;refine HC.out.mono ?_;rintro e w5 ⟨A4,n4,c4,rfl,hp,hb⟩;have HB5:=tB HB4 hb;have HP4_5:=zq hp;clear hp hb HC HB4 HP0_4 HP2_4 HP3_4;go_wp2;go_ret
 exact⟨A4,n4,c4,_,rfl,HP4_5.out,by kernel_rfl,HB5.out⟩
theorem layout_5 (lo:Nat)(w0:World)(hlo:lo<=w0.heap.size):
  Calls Tryz.prog 213 #[.int .i64 5] w0 fun e w'=> ∃A' n' c' l,e= .returned (.slice A' n' c')/\Parts lo w'.heap.size w' A' n' c' l/\ndPts l=astOf 5/\Below w0.heap.size w0 w':=by
 have HB0:=zq (Below.refl w0.heap.size w0);go_enter Tryz.func213,Tryz.ntmps213;have HC:Hid (Calls Tryz.prog 245 #[.slice (some ⟨w0.heap.size,0,none⟩) 1 1] (w0.alloc (.cells #[.int .i64 44] 3)) fun e w'=> ∃A' c',e= .returned (.slice A' 1 c')/\Parts lo w'.heap.size w' A' 1 c' (qad [44])/\Below w0.heap.size w0 w'):=qaG lo [44] w0 (by decide) (Nat.le_trans hlo HB0.out.size);go_wp2_with fail;refine HC.out.mono ?_;rintro e w1 ⟨A0,c0,rfl,hp,hb⟩;have HB1:=tB HB0 hb;have HP0_1:=zq hp;clear hp hb HC HB0;have HC:Hid (Calls Tryz.prog 248 #[.int .i64 12,.slice (some ⟨w1.heap.size,0,none⟩) 1 1] (w1.alloc (.cells #[.int .i64 10] 3)) fun e w'=> ∃A' c',e= .returned (.slice A' 1 c')/\Parts lo w'.heap.size w' A' 1 c' [.mk 12 1 (qad [10])]/\Below w1.heap.size w1 w'):=qcD lo 12 [10] w1 (by decide) (Nat.le_trans hlo HB1.out.size);go_wp2_with fail;refine HC.out.mono ?_;rintro e w2 ⟨A1,c1,rfl,hp,hb⟩;have HB2:=tB HB1 hb;have HP0_2:=zq (HP0_1.out.under hb);have HP1_2:=zq hp;clear hp hb HC HB1 HP0_1;have HC:Hid (Calls Tryz.prog 245 #[.slice (some ⟨w2.heap.size,0,none⟩) 4 4] (w2.alloc (.cells #[.int .i64 11,.int .i64 45,.int .i64 46,.int .i64 47] 3)) fun e w'=> ∃A' c',e= .returned (.slice A' 4 c')/\Parts lo w'.heap.size w' A' 4 c' (qad [11,45,46,47])/\Below w2.heap.size w2 w'):=qaG lo [11,45,46,47] w2 (by decide) (Nat.le_trans hlo HB2.out.size);go_wp2_with fail;refine HC.out.mono ?_;rintro e w3 ⟨A2,c2,rfl,hp,hb⟩;have HB3:=tB HB2 hb;have HP0_3:=zq (HP0_2.out.under hb);have HP1_3:=zq (HP1_2.out.under hb);have HP2_3:=zq hp;clear hp hb HC HB2 HP0_2 HP1_2;have HC:Hid (Calls Tryz.prog 247 #[.slice (some ⟨w3.heap.size,0,none⟩) 3 3] (w3.alloc (.cells #[.slice A0 1 c0,.slice A1 1 c1,.slice A2 4 c2] 252)) fun e w'=> ∃A' n' c',e= .returned (.slice A' n' c')/\Parts lo w'.heap.size w' A' n' c' (omPts (ptsOf [(A0,1,c0,(qad [44])),(A1,1,c1,[.mk 12 1 (qad [10])]),(A2,4,c2,(qad [11,45,46,47]))]))/\Below w3.heap.size w3 w'):=qb5 lo [(A0,1,c0,(qad [44])),(A1,1,c1,[.mk 12 1 (qad [10])]),(A2,4,c2,(qad [11,45,46,47]))] w3 (by simp) (fun x hx=>by
  simp only[List.mem_cons,List.not_mem_nil,or_false]at hx
  rcases hx with rfl|rfl|rfl
  ·exact⟨HP0_3.out,(by show(1:Nat)<=100;omega)⟩
  ·exact⟨HP1_3.out,(by show(1:Nat)<=100;omega)⟩
  ·exact⟨HP2_3.out,(by show(4:Nat)<=100;omega)⟩
  ) (Nat.le_trans hlo HB3.out.size) (by simp[ptsOf,qad])
 go_wp2_with fail;refine HC.out.mono ?_;rintro e w4 ⟨A3,n3,c3,rfl,hp,hb⟩;have HB4:=tB HB3 hb;have HP3_4:=zq hp;clear hp hb HC HB3 HP0_3 HP1_3 HP2_3;go_wp2;go_ret
 exact⟨A3,n3,c3,_,rfl,HP3_4.out,by kernel_rfl,HB4.out⟩
theorem layout_11 (lo:Nat)(w0:World)(hlo:lo<=w0.heap.size):
  Calls Tryz.prog 213 #[.int .i64 11] w0 fun e w'=> ∃A' n' c' l,e= .returned (.slice A' n' c')/\Parts lo w'.heap.size w' A' n' c' l/\ndPts l=astOf 11/\Below w0.heap.size w0 w':=by
 have HB0:=zq (Below.refl w0.heap.size w0);go_enter Tryz.func213,Tryz.ntmps213;have HC:Hid (Calls Tryz.prog 245 #[.slice (some ⟨w0.heap.size,0,none⟩) 8 8] (w0.alloc (.cells #[.int .i64 7,.int .i64 75,.int .i64 76,.int .i64 77,.int .i64 78,.int .i64 79,.int .i64 80,.int .i64 81] 3)) fun e w'=> ∃A' c',e= .returned (.slice A' 8 c')/\Parts lo w'.heap.size w' A' 8 c' (qad [7,75,76,77,78,79,80,81])/\Below w0.heap.size w0 w'):=qaG lo [7,75,76,77,78,79,80,81] w0 (by decide) (Nat.le_trans hlo HB0.out.size);go_wp2_with fail;refine HC.out.mono ?_;rintro e w1 ⟨A0,c0,rfl,hp,hb⟩;have HB1:=tB HB0 hb;have HP0_1:=zq hp;clear hp hb HC HB0;have HC:Hid (Calls Tryz.prog 245 #[.slice (some ⟨w1.heap.size,0,none⟩) 1 1] (w1.alloc (.cells #[.int .i64 82] 3)) fun e w'=> ∃A' c',e= .returned (.slice A' 1 c')/\Parts lo w'.heap.size w' A' 1 c' (qad [82])/\Below w1.heap.size w1 w'):=qaG lo [82] w1 (by decide) (Nat.le_trans hlo HB1.out.size);go_wp2_with fail;refine HC.out.mono ?_;rintro e w2 ⟨A1,c1,rfl,hp,hb⟩;have HB2:=tB HB1 hb;have HP0_2:=zq (HP0_1.out.under hb);have HP1_2:=zq hp;clear hp hb HC HB1 HP0_1;have HC:Hid (Calls Tryz.prog 246 #[.slice (some ⟨w2.heap.size,0,none⟩) 1 1] (w2.alloc (.cells #[.slice A1 1 c1] 252)) fun e w'=> ∃A' c',e= .returned (.slice A' 1 c')/\Parts lo w'.heap.size w' A' 1 c' [.mk 27 0 (ptsOf [(A1,1,c1,(qad [82]))])]/\Below w2.heap.size w2 w'):=qcW lo [(A1,1,c1,(qad [82]))] w2 (by simp) (fun x hx=>by
  simp only[List.mem_cons,List.not_mem_nil,or_false]at hx;subst hx
  ·exact⟨HP1_2.out,(by show(1:Nat)<=100;omega)⟩
  ) (Nat.le_trans hlo HB2.out.size)
 go_wp2_with fail;refine HC.out.mono ?_;rintro e w3 ⟨A2,c2,rfl,hp,hb⟩;have HB3:=tB HB2 hb;have HP0_3:=zq (HP0_2.out.under hb);have HP2_3:=zq hp;clear hp hb HC HB2 HP0_2 HP1_2;have HC:Hid (Calls Tryz.prog 245 #[.slice (some ⟨w3.heap.size,0,none⟩) 1 1] (w3.alloc (.cells #[.int .i64 83] 3)) fun e w'=> ∃A' c',e= .returned (.slice A' 1 c')/\Parts lo w'.heap.size w' A' 1 c' (qad [83])/\Below w3.heap.size w3 w'):=qaG lo [83] w3 (by decide) (Nat.le_trans hlo HB3.out.size);go_wp2_with fail;refine HC.out.mono ?_;rintro e w4 ⟨A3,c3,rfl,hp,hb⟩;have HB4:=tB HB3 hb;have HP0_4:=zq (HP0_3.out.under hb);have HP2_4:=zq (HP2_3.out.under hb);have HP3_4:=zq hp;clear hp hb HC HB3 HP0_3 HP2_3;have HC:Hid (Calls Tryz.prog 246 #[.slice (some ⟨w4.heap.size,0,none⟩) 1 1] (w4.alloc (.cells #[.slice A3 1 c3] 252)) fun e w'=> ∃A' c',e= .returned (.slice A' 1 c')/\Parts lo w'.heap.size w' A' 1 c' [.mk 27 0 (ptsOf [(A3,1,c3,(qad [83]))])]/\Below w4.heap.size w4 w'):=qcW lo [(A3,1,c3,(qad [83]))] w4 (by simp) (fun x hx=>by
  simp only[List.mem_cons,List.not_mem_nil,or_false]at hx;subst hx
  ·exact⟨HP3_4.out,(by show(1:Nat)<=100;omega)⟩
  ) (Nat.le_trans hlo HB4.out.size)
 go_wp2_with fail;refine HC.out.mono ?_;rintro e w5 ⟨A4,c4,rfl,hp,hb⟩;have HB5:=tB HB4 hb;have HP0_5:=zq (HP0_4.out.under hb);have HP2_5:=zq (HP2_4.out.under hb);have HP4_5:=zq hp;clear hp hb HC HB4 HP0_4 HP2_4 HP3_4;have HC:Hid (Calls Tryz.prog 244 #[.slice (some ⟨w5.heap.size,0,none⟩) 3 3] (w5.alloc (.cells #[.slice A0 8 c0,.slice A2 1 c2,.slice A4 1 c4] 252)) fun e w'=> ∃A' n' c',e= .returned (.slice A' n' c')/\Parts lo w'.heap.size w' A' n' c' (ptsOf [(A0,8,c0,(qad [7,75,76,77,78,79,80,81])),(A2,1,c2,[.mk 27 0 (ptsOf [(A1,1,c1,(qad [82]))])]),(A4,1,c4,[.mk 27 0 (ptsOf [(A3,1,c3,(qad [83]))])])])/\Below w5.heap.size w5 w'):=qet lo [(A0,8,c0,(qad [7,75,76,77,78,79,80,81])),(A2,1,c2,[.mk 27 0 (ptsOf [(A1,1,c1,(qad [82]))])]),(A4,1,c4,[.mk 27 0 (ptsOf [(A3,1,c3,(qad [83]))])])] w5 (by simp) (fun x hx=>by
  simp only[List.mem_cons,List.not_mem_nil,or_false]at hx
  rcases hx with rfl|rfl|rfl
  ·exact⟨HP0_5.out,(by show(8:Nat)<=100;omega)⟩
  ·exact⟨HP2_5.out,(by show(1:Nat)<=100;omega)⟩
  ·exact⟨HP4_5.out,(by show(1:Nat)<=100;omega)⟩
  ) (Nat.le_trans hlo HB5.out.size)
 go_wp2_with fail;refine HC.out.mono ?_;rintro e w6 ⟨A5,n5,c5,rfl,hp,hb⟩;have HB6:=tB HB5 hb;have HP5_6:=zq hp;clear hp hb HC HB5 HP0_5 HP2_5 HP4_5;go_wp2;go_ret
 exact⟨A5,n5,c5,_,rfl,HP5_6.out,by kernel_rfl,HB6.out⟩
theorem layout_21 (lo:Nat)(w0:World)(hlo:lo<=w0.heap.size):
  Calls Tryz.prog 213 #[.int .i64 21] w0 fun e w'=> ∃A' n' c' l,e= .returned (.slice A' n' c')/\Parts lo w'.heap.size w' A' n' c' l/\ndPts l=astOf 21/\Below w0.heap.size w0 w':=by
 have HB0:=zq (Below.refl w0.heap.size w0);go_enter Tryz.func213,Tryz.ntmps213;have HC:Hid (Calls Tryz.prog 245 #[.slice (some ⟨w0.heap.size,0,none⟩) 3 3] (w0.alloc (.cells #[.int .i64 48,.int .i64 49,.int .i64 50] 3)) fun e w'=> ∃A' c',e= .returned (.slice A' 3 c')/\Parts lo w'.heap.size w' A' 3 c' (qad [48,49,50])/\Below w0.heap.size w0 w'):=qaG lo [48,49,50] w0 (by decide) (Nat.le_trans hlo HB0.out.size);go_wp2_with fail;refine HC.out.mono ?_;rintro e w1 ⟨A0,c0,rfl,hp,hb⟩;have HB1:=tB HB0 hb;have HP0_1:=zq hp;clear hp hb HC HB0;have HC:Hid (Calls Tryz.prog 247 #[.slice (some ⟨w1.heap.size,0,none⟩) 1 1] (w1.alloc (.cells #[.slice A0 3 c0] 252)) fun e w'=> ∃A' n' c',e= .returned (.slice A' n' c')/\Parts lo w'.heap.size w' A' n' c' (omPts (ptsOf [(A0,3,c0,(qad [48,49,50]))]))/\Below w1.heap.size w1 w'):=qb5 lo [(A0,3,c0,(qad [48,49,50]))] w1 (by simp) (fun x hx=>by
  simp only[List.mem_cons,List.not_mem_nil,or_false]at hx;subst hx
  ·exact⟨HP0_1.out,(by show(3:Nat)<=100;omega)⟩
  ) (Nat.le_trans hlo HB1.out.size) (by simp[ptsOf,qad])
 go_wp2_with fail;refine HC.out.mono ?_;rintro e w2 ⟨A1,n1,c1,rfl,hp,hb⟩;have HB2:=tB HB1 hb;have HP1_2:=zq hp;clear hp hb HC HB1 HP0_1;go_wp2;go_ret
 exact⟨A1,n1,c1,_,rfl,HP1_2.out,by kernel_rfl,HB2.out⟩
theorem layout_27 (lo:Nat)(w0:World)(hlo:lo<=w0.heap.size):
  Calls Tryz.prog 213 #[.int .i64 27] w0 fun e w'=> ∃A' n' c' l,e= .returned (.slice A' n' c')/\Parts lo w'.heap.size w' A' n' c' l/\ndPts l=astOf 27/\Below w0.heap.size w0 w':=by
 have HB0:=zq (Below.refl w0.heap.size w0);go_enter Tryz.func213,Tryz.ntmps213;have HC:Hid (Calls Tryz.prog 245 #[.slice (some ⟨w0.heap.size,0,none⟩) 3 3] (w0.alloc (.cells #[.int .i64 51,.int .i64 52,.int .i64 53] 3)) fun e w'=> ∃A' c',e= .returned (.slice A' 3 c')/\Parts lo w'.heap.size w' A' 3 c' (qad [51,52,53])/\Below w0.heap.size w0 w'):=qaG lo [51,52,53] w0 (by decide) (Nat.le_trans hlo HB0.out.size);go_wp2_with fail;refine HC.out.mono ?_;rintro e w1 ⟨A0,c0,rfl,hp,hb⟩;have HB1:=tB HB0 hb;have HP0_1:=zq hp;clear hp hb HC HB0;have HC:Hid (Calls Tryz.prog 245 #[.slice (some ⟨w1.heap.size,0,none⟩) 2 2] (w1.alloc (.cells #[.int .i64 54,.int .i64 55] 3)) fun e w'=> ∃A' c',e= .returned (.slice A' 2 c')/\Parts lo w'.heap.size w' A' 2 c' (qad [54,55])/\Below w1.heap.size w1 w'):=qaG lo [54,55] w1 (by decide) (Nat.le_trans hlo HB1.out.size);go_wp2_with fail;refine HC.out.mono ?_;rintro e w2 ⟨A1,c1,rfl,hp,hb⟩;have HB2:=tB HB1 hb;have HP0_2:=zq (HP0_1.out.under hb);have HP1_2:=zq hp;clear hp hb HC HB1 HP0_1;have HC:Hid (Calls Tryz.prog 246 #[.slice (some ⟨w2.heap.size,0,none⟩) 1 1] (w2.alloc (.cells #[.slice A1 2 c1] 252)) fun e w'=> ∃A' c',e= .returned (.slice A' 1 c')/\Parts lo w'.heap.size w' A' 1 c' [.mk 27 0 (ptsOf [(A1,2,c1,(qad [54,55]))])]/\Below w2.heap.size w2 w'):=qcW lo [(A1,2,c1,(qad [54,55]))] w2 (by simp) (fun x hx=>by
  simp only[List.mem_cons,List.not_mem_nil,or_false]at hx;subst hx
  ·exact⟨HP1_2.out,(by show(2:Nat)<=100;omega)⟩
  ) (Nat.le_trans hlo HB2.out.size)
 go_wp2_with fail;refine HC.out.mono ?_;rintro e w3 ⟨A2,c2,rfl,hp,hb⟩;have HB3:=tB HB2 hb;have HP0_3:=zq (HP0_2.out.under hb);have HP2_3:=zq hp;clear hp hb HC HB2 HP0_2 HP1_2;have HC:Hid (Calls Tryz.prog 247 #[.slice (some ⟨w3.heap.size,0,none⟩) 2 2] (w3.alloc (.cells #[.slice A0 3 c0,.slice A2 1 c2] 252)) fun e w'=> ∃A' n' c',e= .returned (.slice A' n' c')/\Parts lo w'.heap.size w' A' n' c' (omPts (ptsOf [(A0,3,c0,(qad [51,52,53])),(A2,1,c2,[.mk 27 0 (ptsOf [(A1,2,c1,(qad [54,55]))])])]))/\Below w3.heap.size w3 w'):=qb5 lo [(A0,3,c0,(qad [51,52,53])),(A2,1,c2,[.mk 27 0 (ptsOf [(A1,2,c1,(qad [54,55]))])])] w3 (by simp) (fun x hx=>by
  simp only[List.mem_cons,List.not_mem_nil,or_false]at hx
  rcases hx with rfl|rfl
  ·exact⟨HP0_3.out,(by show(3:Nat)<=100;omega)⟩
  ·exact⟨HP2_3.out,(by show(1:Nat)<=100;omega)⟩
  ) (Nat.le_trans hlo HB3.out.size) (by simp[ptsOf,qad])
 go_wp2_with fail;refine HC.out.mono ?_;rintro e w4 ⟨A3,n3,c3,rfl,hp,hb⟩;have HB4:=tB HB3 hb;have HP3_4:=zq hp;clear hp hb HC HB3 HP0_3 HP2_3;go_wp2;go_ret
 exact⟨A3,n3,c3,_,rfl,HP3_4.out,by kernel_rfl,HB4.out⟩
theorem layout_42 (lo:Nat)(w0:World)(hlo:lo<=w0.heap.size):
  Calls Tryz.prog 213 #[.int .i64 42] w0 fun e w'=> ∃A' n' c' l,e= .returned (.slice A' n' c')/\Parts lo w'.heap.size w' A' n' c' l/\ndPts l=astOf 42/\Below w0.heap.size w0 w':=by
 have HB0:=zq (Below.refl w0.heap.size w0);go_enter Tryz.func213,Tryz.ntmps213;have HC:Hid (Calls Tryz.prog 245 #[.slice (some ⟨w0.heap.size,0,none⟩) 8 8] (w0.alloc (.cells #[.int .i64 6,.int .i64 7,.int .i64 62,.int .i64 10,.int .i64 63,.int .i64 64,.int .i64 64,.int .i64 65] 3)) fun e w'=> ∃A' c',e= .returned (.slice A' 8 c')/\Parts lo w'.heap.size w' A' 8 c' (qad [6,7,62,10,63,64,64,65])/\Below w0.heap.size w0 w'):=qaG lo [6,7,62,10,63,64,64,65] w0 (by decide) (Nat.le_trans hlo HB0.out.size);go_wp2_with fail;refine HC.out.mono ?_;rintro e w1 ⟨A0,c0,rfl,hp,hb⟩;have HB1:=tB HB0 hb;have HP0_1:=zq hp;clear hp hb HC HB0;go_wp2;go_ret
 exact⟨A0,8,c0,_,rfl,HP0_1.out,by kernel_rfl,HB1.out⟩
theorem layout_57 (lo:Nat)(w0:World)(hlo:lo<=w0.heap.size):
  Calls Tryz.prog 213 #[.int .i64 57] w0 fun e w'=> ∃A' n' c' l,e= .returned (.slice A' n' c')/\Parts lo w'.heap.size w' A' n' c' l/\ndPts l=astOf 57/\Below w0.heap.size w0 w':=by
 have HB0:=zq (Below.refl w0.heap.size w0);go_enter Tryz.func213,Tryz.ntmps213;have HC:Hid (Calls Tryz.prog 245 #[.slice (some ⟨w0.heap.size,0,none⟩) 5 5] (w0.alloc (.cells #[.int .i64 6,.int .i64 7,.int .i64 66,.int .i64 67,.int .i64 68] 3)) fun e w'=> ∃A' c',e= .returned (.slice A' 5 c')/\Parts lo w'.heap.size w' A' 5 c' (qad [6,7,66,67,68])/\Below w0.heap.size w0 w'):=qaG lo [6,7,66,67,68] w0 (by decide) (Nat.le_trans hlo HB0.out.size);go_wp2_with fail;refine HC.out.mono ?_;rintro e w1 ⟨A0,c0,rfl,hp,hb⟩;have HB1:=tB HB0 hb;have HP0_1:=zq hp;clear hp hb HC HB0;go_wp2;go_ret
 exact⟨A0,5,c0,_,rfl,HP0_1.out,by kernel_rfl,HB1.out⟩
theorem layout_58 (lo:Nat)(w0:World)(hlo:lo<=w0.heap.size):
  Calls Tryz.prog 213 #[.int .i64 58] w0 fun e w'=> ∃A' n' c' l,e= .returned (.slice A' n' c')/\Parts lo w'.heap.size w' A' n' c' l/\ndPts l=astOf 58/\Below w0.heap.size w0 w':=by
 have HB0:=zq (Below.refl w0.heap.size w0);go_enter Tryz.func213,Tryz.ntmps213;have HC:Hid (Calls Tryz.prog 245 #[.slice (some ⟨w0.heap.size,0,none⟩) 6 6] (w0.alloc (.cells #[.int .i64 6,.int .i64 7,.int .i64 8,.int .i64 69,.int .i64 70,.int .i64 71] 3)) fun e w'=> ∃A' c',e= .returned (.slice A' 6 c')/\Parts lo w'.heap.size w' A' 6 c' (qad [6,7,8,69,70,71])/\Below w0.heap.size w0 w'):=qaG lo [6,7,8,69,70,71] w0 (by decide) (Nat.le_trans hlo HB0.out.size);go_wp2_with fail;refine HC.out.mono ?_;rintro e w1 ⟨A0,c0,rfl,hp,hb⟩;have HB1:=tB HB0 hb;have HP0_1:=zq hp;clear hp hb HC HB0;have HC:Hid (Calls Tryz.prog 245 #[.slice (some ⟨w1.heap.size,0,none⟩) 2 2] (w1.alloc (.cells #[.int .i64 72,.int .i64 73] 3)) fun e w'=> ∃A' c',e= .returned (.slice A' 2 c')/\Parts lo w'.heap.size w' A' 2 c' (qad [72,73])/\Below w1.heap.size w1 w'):=qaG lo [72,73] w1 (by decide) (Nat.le_trans hlo HB1.out.size);go_wp2_with fail;refine HC.out.mono ?_;rintro e w2 ⟨A1,c1,rfl,hp,hb⟩;have HB2:=tB HB1 hb;have HP0_2:=zq (HP0_1.out.under hb);have HP1_2:=zq hp;clear hp hb HC HB1 HP0_1;have HC:Hid (Calls Tryz.prog 246 #[.slice (some ⟨w2.heap.size,0,none⟩) 1 1] (w2.alloc (.cells #[.slice A1 2 c1] 252)) fun e w'=> ∃A' c',e= .returned (.slice A' 1 c')/\Parts lo w'.heap.size w' A' 1 c' [.mk 27 0 (ptsOf [(A1,2,c1,(qad [72,73]))])]/\Below w2.heap.size w2 w'):=qcW lo [(A1,2,c1,(qad [72,73]))] w2 (by simp) (fun x hx=>by
  simp only[List.mem_cons,List.not_mem_nil,or_false]at hx;subst hx
  ·exact⟨HP1_2.out,(by show(2:Nat)<=100;omega)⟩
  ) (Nat.le_trans hlo HB2.out.size)
 go_wp2_with fail;refine HC.out.mono ?_;rintro e w3 ⟨A2,c2,rfl,hp,hb⟩;have HB3:=tB HB2 hb;have HP0_3:=zq (HP0_2.out.under hb);have HP2_3:=zq hp;clear hp hb HC HB2 HP0_2 HP1_2;have HC:Hid (Calls Tryz.prog 244 #[.slice (some ⟨w3.heap.size,0,none⟩) 2 2] (w3.alloc (.cells #[.slice A0 6 c0,.slice A2 1 c2] 252)) fun e w'=> ∃A' n' c',e= .returned (.slice A' n' c')/\Parts lo w'.heap.size w' A' n' c' (ptsOf [(A0,6,c0,(qad [6,7,8,69,70,71])),(A2,1,c2,[.mk 27 0 (ptsOf [(A1,2,c1,(qad [72,73]))])])])/\Below w3.heap.size w3 w'):=qet lo [(A0,6,c0,(qad [6,7,8,69,70,71])),(A2,1,c2,[.mk 27 0 (ptsOf [(A1,2,c1,(qad [72,73]))])])] w3 (by simp) (fun x hx=>by
  simp only[List.mem_cons,List.not_mem_nil,or_false]at hx
  rcases hx with rfl|rfl
  ·exact⟨HP0_3.out,(by show(6:Nat)<=100;omega)⟩
  ·exact⟨HP2_3.out,(by show(1:Nat)<=100;omega)⟩
  ) (Nat.le_trans hlo HB3.out.size)
 go_wp2_with fail;refine HC.out.mono ?_;rintro e w4 ⟨A3,n3,c3,rfl,hp,hb⟩;have HB4:=tB HB3 hb;have HP3_4:=zq hp;clear hp hb HC HB3 HP0_3 HP2_3;go_wp2;go_ret
 exact⟨A3,n3,c3,_,rfl,HP3_4.out,by kernel_rfl,HB4.out⟩
theorem layout_80 (lo:Nat)(w0:World)(hlo:lo<=w0.heap.size):
  Calls Tryz.prog 213 #[.int .i64 80] w0 fun e w'=> ∃A' n' c' l,e= .returned (.slice A' n' c')/\Parts lo w'.heap.size w' A' n' c' l/\ndPts l=astOf 80/\Below w0.heap.size w0 w':=by
 have HB0:=zq (Below.refl w0.heap.size w0);go_enter Tryz.func213,Tryz.ntmps213;have HC:Hid (Calls Tryz.prog 245 #[.slice (some ⟨w0.heap.size,0,none⟩) 6 6] (w0.alloc (.cells #[.int .i64 56,.int .i64 57,.int .i64 58,.int .i64 59,.int .i64 60,.int .i64 61] 3)) fun e w'=> ∃A' c',e= .returned (.slice A' 6 c')/\Parts lo w'.heap.size w' A' 6 c' (qad [56,57,58,59,60,61])/\Below w0.heap.size w0 w'):=qaG lo [56,57,58,59,60,61] w0 (by decide) (Nat.le_trans hlo HB0.out.size);go_wp2_with fail;refine HC.out.mono ?_;rintro e w1 ⟨A0,c0,rfl,hp,hb⟩;have HB1:=tB HB0 hb;have HP0_1:=zq hp;clear hp hb HC HB0;have HC:Hid (Calls Tryz.prog 247 #[.slice (some ⟨w1.heap.size,0,none⟩) 1 1] (w1.alloc (.cells #[.slice A0 6 c0] 252)) fun e w'=> ∃A' n' c',e= .returned (.slice A' n' c')/\Parts lo w'.heap.size w' A' n' c' (omPts (ptsOf [(A0,6,c0,(qad [56,57,58,59,60,61]))]))/\Below w1.heap.size w1 w'):=qb5 lo [(A0,6,c0,(qad [56,57,58,59,60,61]))] w1 (by simp) (fun x hx=>by
  simp only[List.mem_cons,List.not_mem_nil,or_false]at hx;subst hx
  ·exact⟨HP0_1.out,(by show(6:Nat)<=100;omega)⟩
  ) (Nat.le_trans hlo HB1.out.size) (by simp[ptsOf,qad])
 go_wp2_with fail;refine HC.out.mono ?_;rintro e w2 ⟨A1,n1,c1,rfl,hp,hb⟩;have HB2:=tB HB1 hb;have HP1_2:=zq hp;clear hp hb HC HB1 HP0_1;go_wp2;go_ret
 exact⟨A1,n1,c1,_,rfl,HP1_2.out,by kernel_rfl,HB2.out⟩
theorem layout_0 (lo:Nat)(w0:World)(hlo:lo<=w0.heap.size):
  Calls Tryz.prog 213 #[.int .i64 0] w0 fun e w'=> ∃A' n' c' l,e= .returned (.slice A' n' c')/\Parts lo w'.heap.size w' A' n' c' l/\ndPts l=astOf 0/\Below w0.heap.size w0 w':=by
 have HC:Hid (Calls Tryz.prog 243 #[.slice (some ⟨w0.heap.size,0,none⟩) 1 1] (w0.alloc (.cells #[.int .i64 4] 3)) fun e w'=> ∃A' n' c',e= .returned (.slice A' n' c')/\Parts lo w'.heap.size w' A' n' c' (qei [4])/\Below w0.heap.size w0 w'):=qgn lo [4] w0 (by decide) hlo;go_enter Tryz.func213,Tryz.ntmps213;go_wp2_with fail;refine HC.out.mono ?_;rintro e w1 ⟨A1,n1,c1,rfl,hp,hb⟩;have HP:=zq hp;have HB:=zq hb;clear hp hb HC;go_wp2;go_ret
 exact⟨A1,n1,c1,_,rfl,HP.out,by kernel_rfl,HB.out⟩
theorem layout_1 (lo:Nat)(w0:World)(hlo:lo<=w0.heap.size):
  Calls Tryz.prog 213 #[.int .i64 1] w0 fun e w'=> ∃A' n' c' l,e= .returned (.slice A' n' c')/\Parts lo w'.heap.size w' A' n' c' l/\ndPts l=astOf 1/\Below w0.heap.size w0 w':=by
 have HC:Hid (Calls Tryz.prog 243 #[.slice (some ⟨w0.heap.size,0,none⟩) 2 2] (w0.alloc (.cells #[.int .i64 4,.int .i64 74] 3)) fun e w'=> ∃A' n' c',e= .returned (.slice A' n' c')/\Parts lo w'.heap.size w' A' n' c' (qei [4,74])/\Below w0.heap.size w0 w'):=qgn lo [4,74] w0 (by decide) hlo;go_enter Tryz.func213,Tryz.ntmps213;go_wp2_with fail;refine HC.out.mono ?_;rintro e w1 ⟨A1,n1,c1,rfl,hp,hb⟩;have HP:=zq hp;have HB:=zq hb;clear hp hb HC;go_wp2;go_ret
 exact⟨A1,n1,c1,_,rfl,HP.out,by kernel_rfl,HB.out⟩
theorem layout_15 (lo:Nat)(w0:World)(hlo:lo<=w0.heap.size):
  Calls Tryz.prog 213 #[.int .i64 15] w0 fun e w'=> ∃A' n' c' l,e= .returned (.slice A' n' c')/\Parts lo w'.heap.size w' A' n' c' l/\ndPts l=astOf 15/\Below w0.heap.size w0 w':=by
 have HC:Hid (Calls Tryz.prog 249 #[] w0 fun e w'=> ∃A' n' c' l,e= .returned (.slice A' n' c')/\Parts lo w'.heap.size w' A' n' c' l/\ndPts l=astOf 15/\Below w0.heap.size w0 w'):=qfb lo w0 hlo;go_enter Tryz.func213,Tryz.ntmps213;go_wp2_with fail;refine HC.out.mono ?_;rintro e w1 ⟨A1,n1,c1,l1,rfl,hp,hl,hb⟩;have HP:=zq hp;have HB:=zq hb;have HL:=zq hl;clear hl;clear hp hb HC;go_wp2;go_ret
 exact⟨A1,n1,c1,_,rfl,HP.out,HL.out,HB.out⟩
theorem layout_none (id:Int)(h: ¬(id=0\/id=1\/id=3\/id=5\/id=11\/id=15\/id=21\/id=27\/id=42\/id=57\/id=58\/id=80))(w:World):
  Calls Tryz.prog 213 #[.int .i64 id] w fun e w'=>e= .returned (.slice none 0 0)/\w=w':=by
 obtain⟨h0,h1,h3,h5,h11,h15,h21,h27,h42,h57,h58,h80⟩:id≠0/\id≠1/\id≠3/\id≠5/\id≠11/\id≠15/\id≠21/\id≠27/\id≠42/\id≠57/\id≠58/\id≠80:=by omega
 clear h;go_enter Tryz.func213,Tryz.ntmps213;go_wp2;go_ret
 exact⟨rfl,rfl⟩
theorem known_ids {id:Int}:qbA id=true↔(id=0\/id=1\/id=3\/id=5\/id=11\/id=15\/id=21\/id=27\/id=42\/id=57\/id=58\/id=80):=by
 unfold qbA;simp only[Bool.or_eq_true,decide_eq_true_eq];omega
theorem layout_yes (lo:Nat)(id:Int)(hk:qbA id=true)(w:World)(hlo:lo<=w.heap.size):
  Calls Tryz.prog 213 #[.int .i64 id] w fun e w'=> ∃A' n' c' l,e= .returned (.slice A' n' c')/\Parts lo w'.heap.size w' A' n' c' l/\ndPts l=astOf id/\Below w.heap.size w w':=by
 rcases known_ids.1 hk with rfl|rfl|rfl|rfl|rfl|rfl|rfl|rfl|rfl|rfl|rfl|rfl
 ·exact layout_0 lo w hlo
 ·exact layout_1 lo w hlo
 ·exact layout_3 lo w hlo
 ·exact layout_5 lo w hlo
 ·exact layout_11 lo w hlo
 ·exact layout_15 lo w hlo
 ·exact layout_21 lo w hlo
 ·exact layout_27 lo w hlo
 ·exact layout_42 lo w hlo
 ·exact layout_57 lo w hlo
 ·exact layout_58 lo w hlo
 ·exact layout_80 lo w hlo
theorem layout_no (id:Int)(hk:qbA id=false)(w:World):
  Calls Tryz.prog 213 #[.int .i64 id] w fun e w'=>e= .returned (.slice none 0 0)/\w=w':=
 layout_none id (fun h=>by rw[known_ids.2 h]at hk;cases hk) w
end
section
open Go.RowKit
theorem wk_under {base g:Nat}{w w':World}{s:WS}(h:WkAt base g w s)(hb:Below w.heap.size w w')(hB:base<=w.heap.size):WkAt base g w' s:=by
 obtain⟨h0,AV,nV,cV,AB,nB,cB,AO,nO,cO,AG,nG,cG,hh,hr⟩:=h;exact⟨h0,AV,nV,cV,AB,nB,cB,AO,nO,cO,AG,nG,cG,hh.u hb,hr.under hb hB⟩
theorem qfy: ∀(l:List (Int×Int)) (j:Nat) (n:Int),(pairs l).set (j*2) (.int .i64 n)=pairs (l.set j (n,(l.getD j (0,0)).2))
 |[],j,n=>by simp[pairs]
 |x::l,0,n=>rfl
 |x::l,j+1,n=>by
  have e: ∀y,pairs (y::l)= .int .i64 y.1:: .int .i64 y.2::pairs l:=fun _=>rfl;have e': ∀k:List (Int×Int),pairs (x::k)= .int .i64 x.1:: .int .i64 x.2::pairs k:=fun _=>rfl;rw[e,show(j+1)*2=j*2+1+1 by omega,List.set_cons_succ,List.set_cons_succ,qfy l j n,List.set_cons_succ,e']
  rfl
theorem qfd {w:World}{a:Addr}{v:Value}{o:Obj}(h:w.cell? a=some v):(w.alloc o).cell? a=some v:=by
 rw[((Below.refl w.heap.size w).alloc (Nat.le_refl _) o).cell (qag h)];exact h
theorem qd5 {id:Int}{V:List Int}(h:V.length<=500000):Inv (qbc id V) 1:=⟨by simp[qbc],by show V.length<=_;omega,by simp[qbc],by simp[qbc];omega⟩
theorem items_any (id:Int)(A:Option Addr)(n c:Nat)(V:List Int)(w:World)(hV:SlI w.heap.size w A n c V)(hn:n<=500000):
  Calls Tryz.prog 67 #[pkV id A n c] w fun e w'=> ∃A' m' c',e= .returned (.tuple #[.slice A' m' c',.int .i64 (qcF id V).2])/\SlP w' A' m' c' (qcF id V).1/\Below w.heap.size w w':=by
 unfold pkV;have HV:=zq hV;clear hV
 cases hk:qbA id
 ·have e1:qcF id V=([],50):=by rw[qcF,if_pos hk]
  rw[e1];have hkn:=fun w=>known_any id w;rw[hk]at hkn;have HK:=zq hkn;clear hkn hk e1;have HB:=zq ((Below.refl w.heap.size w).alloc (Nat.le_refl _) (.cells #[.int .i64 id,.slice A n c] 98));go_enter Tryz.func67,Tryz.ntmps67;go_wp2_with fail;refine(HK.out _).mono ?_;rintro e w' ⟨rfl,rfl⟩;go_wp2;go_ret2
  exact⟨none,0,0,rfl,⟨rfl,qcv _ _⟩,HB.out⟩
 ·have hkn:=fun w=>known_any id w
  rw[hk]at hkn;have HK:=zq hkn;clear hkn;have HW:=zq (fun w=>ref_width 5 w);rw[w5]at HW;have HKB:=zq hk;clear hk;have HB:=zq ((Below.refl w.heap.size w).alloc (Nat.le_refl _) (.cells #[.int .i64 id,.slice A n c] 98));obtain⟨T,hT⟩:=geZ (qcF id V);rw[hT];have HT:=zq hT;clear hT;go_enter Tryz.func67,Tryz.ntmps67;go_wp2_with fail;refine(HK.out _).mono ?_;rintro e w' ⟨rfl,rfl⟩;obtain⟨B,hB⟩:=geZ (w.heap.size);have hc0:(w.alloc (.cells #[.int .i64 id,.slice A n c] 98)).cell? ⟨B,0,none⟩=some (.int .i64 id):=by rw[<-hB];simp
  have hc1:(w.alloc (.cells #[.int .i64 id,.slice A n c] 98)).cell? ⟨B,1,none⟩=some (.slice A n c):=by rw[<-hB];simp
  have hsz:B<(w.alloc (.cells #[.int .i64 id,.slice A n c] 98)).heap.size:=by rw[<-hB];simp
  generalize w.alloc (.cells #[.int .i64 id,.slice A n c] 98)=w1 at*;have HV2:Hid (SlI B w A n c V):=hB▸HV;have HB2:Hid (Below B w w1):=hB▸HB;clear HV HB;have HBE:=zq hB;rw[hB];clear hB;go_upto_region 4 with fail;go_cut [5] (fun s5 wc=> ∃g,s5= .pointer (some ⟨g,0,none⟩)/\WkAt B g wc (qbc id V)/\Below B w wc/\wc.cell? ⟨B,0,none⟩=some (.int .i64 id))
  case first=>
   go_region_held3 (fun w'=>w'.cell? ⟨B,0,none⟩=some (.int .i64 id)/\w'.cell? ⟨B,1,none⟩=some (.slice A n c)) (first|go_keep|exact⟨hc0,hc1⟩|exact⟨hc04,hc14⟩) (first
    |(go_at_call 132;refine(HW.out _).mono ?_;rintro e w4 ⟨rfl,hb4⟩;have hc04:=(hb4.cell (p:=⟨B,0,none⟩) hsz).trans hc0;have hc14:=(hb4.cell (p:=⟨B,1,none⟩) hsz).trans hc1))
   have hb1:Below B w1 w4:=(qaa (Below.refl B w1) 1).trans (hb4.mono (Nat.le_of_lt hsz));have hb5:Below B w w4:=HB2.out.trans hb1;have hs4:B<w4.heap.size:=Nat.lt_of_lt_of_le hsz hb1.size;go_wp2_with fail;go_meet
   refine⟨w4.heap.size+1,by simp,⟨by omega,A,n,c,none,0,0,some ⟨w4.heap.size,0,none⟩,1,1,none,0,0,?_,?_⟩,?_,?_⟩
   ·have h:=Has.made (w4.alloc (.cells #[.int .i64 id,.int .i64 8] 185)) 188 #[.slice A n c,.bool false,.slice none 0 0,.slice (some ⟨w4.heap.size,0,none⟩) 1 1,.slice none 0 0,.int .i64 0,.int .i64 0]
    rw[show(w4.alloc (.cells #[.int .i64 id,.int .i64 8] 185)).heap.size=w4.heap.size+1 by simp]at h;exact h
   ·refine⟨⟨HV2.out.len,HV2.out.cap,?_,HV2.out.low⟩,⟨slB_nil _,Nat.le_refl _,fun a h=>by cases h⟩,rfl,rfl,?_,World.ownsRow_nil _ _ _ _⟩
    ·exact(HV2.out.below ((hb5.alloc (by omega) _).alloc (by simp;omega) _)).sl
    ·exact(World.ownsRow_lit (base:=B) (e:=185) (size:=2) w4 #[.int .i64 id,.int .i64 8] 1 (by omega) (by unfold maxLen;omega) rfl).alloc _
   ·exact(hb5.alloc (by omega) _).alloc (by simp;omega) _
   ·rw[qfd (qfd hc04)]
  obtain⟨g,rfl,hwk,hbw,hcB⟩:=hcut;have hBw:=hbw.size;have hgw:=hwk;obtain⟨pre,a,post,sh⟩:=qel HKB.out;have HG:=zq (fun w=>qfh id w);have HWD:=zq (fun w=>words_any (qco id) sh.size w);rw[sh.words]at HWD;have HWK:=zq hwk;have HBW:=zq hbw;have HSH:=zq sh;have HSZ:Hid (B<wc.heap.size):=by
   obtain⟨h0,_,_,_,_,_,_,_,_,_,_,_,_,hh,_⟩:=hgw;exact Nat.lt_of_le_of_lt h0 hh.lt
  clear hwk hbw sh hgw hBw hc0 hc1 hsz HB2 HK HW;go_wp2_with fail;refine(HG.out _).mono ?_;rintro e w5 ⟨rfl,rfl⟩;go_wp2_with fail;refine(HWD.out _).mono ?_;rintro e w6 ⟨A2,c2,rfl,ho2,hb6⟩;have hlen:(qai (astOf id)).length<=1048576:=by
   have:=(wstep_le (qco id) ((qco id).size+1)).2;have h2:qbe (qco id)=qai (astOf id):=HSH.out.words;unfold qbe at h2;rw[h2]at this;have:=HSH.out.size;omega
  have HR:=zq (run_any _ (astOf id) (Nat.lt_succ_self _) HSH.out.good B g (qbc id V) w6 A2 _ c2 0 (wk_under HWK.out hb6 (Nat.le_of_lt HSZ.out)) (Nat.le_trans (Nat.le_of_lt HSZ.out) hb6.size) (by rw[HSH.out.seven];exact qd5 (by rw[HV2.out.len];exact hn)) hlen (StrSl.of_own ho2));have HB6:=zq (HBW.out.trans (hb6.mono (Nat.le_of_lt HSZ.out)));clear ho2 hb6 hlen HWD HG;go_wp2_with fail;refine HR.out.mono ?_;rintro e w7 ⟨rfl,hwk7,hfr7⟩;have HB7:=zq (HB6.out.trans hfr7.b);have HSZ7:Hid (B<=w7.heap.size):=HBE.out▸HB7.out.size;have hform:=qf7 (V:=V) HKB.out;have hinv:=qcs (astOf id) 0 (qbc id V) 0 HSH.out.good (by rw[HSH.out.seven];exact qd5 (by rw[HV2.out.len];exact hn));have hT:=HT.out;unfold qcF at hT;rw[if_neg (by rw[HKB.out];decide)]at hT;generalize runL (astOf id) 0 (qbc id V)=S at*;obtain⟨h0,AV,nV,cV,AB,nB,cB,AO,nO,cO,AG,nG,cG,hh,hr⟩:=hwk7;have k0:w7.cell? ⟨g,0,none⟩=some (.slice AV nV cV):=by rw[hh.cell];rfl
  have k3:w7.cell? ⟨g,3,none⟩=some (.slice AO nO cO):=by rw[hh.cell];rfl
  have k5:w7.cell? ⟨g,5,none⟩=some (.int .i64 S.e):=by rw[hh.cell];rfl
  have k6:w7.cell? ⟨g,6,none⟩=some (.int .i64 S.place):=by rw[hh.cell];rfl
  have kf: ∀i,w7.frozen? ⟨g,i,none⟩=false:=fun i=>hh.thaw i;have HHH:=zq hh;have HRR:=zq hr;have HFM:=zq hform;have HTT:=zq hT;have hvl:=hr.v.len;clear hh hr hform hT hfr7 HR HSH HWK HT;by_cases he:S.e=0
  ·rw[he]at k5
   by_cases hV0:S.V=[]
   ·have hn0:nV=0:=by rw[<-hvl,hV0];rfl
    subst hn0;obtain⟨D1,D2,R0,wh,_,hS⟩:=HFM.out he;have hid:=known_id HKB.out;have hout:S.out=[(id,8)]++D1++(0,13)::D2:=by rw[hS]
    have hpl:S.place=((([(id,(8:Int))]++D1).length:Nat):Int):=by rw[hS]
    obtain⟨p,hp⟩:=geZ (([(id,(8:Int))]++D1).length);rw[hp]at hpl;have hfit: ∀x∈S.out,FitP x:=by
     intro x hx;rw[hout]at hx;exact out_fit wh hid.1 hid.2.1 (Int.le_refl 0) (by omega) x hx
    have hpo:p<S.out.length:=by rw[hout,List.length_append,hp,List.length_cons];omega
    have hgp:(S.out.getD p (0,0)).2=13:=by rw[hout,<-hp,getD_mid2]
    have hlo:=HRR.out.lo;have hno:nO<=1048576:=by have:=hinv.o;omega
    have hsl:SlP w7 AO nO cO S.out:=⟨hlo,Sl.of_own HRR.out.o⟩
    have hto:=total_any AO nO cO S.out w7 hsl hno (fun x hx=>by have:=hfit x hx;exact⟨by have:=this.2.2.1;omega,by have:=this.2.2.2;omega⟩);have hT:=HTT.out;rw[if_neg (by omega),if_neg (by simpa using hV0),hpl,Int.toNat_natCast]at hT;have hse: ∀m,(pairs S.out).set (p*2) (.int .i64 m)=pairs (S.out.set p (m,13)):=fun m=>by rw[qfy,hgp]
    obtain⟨go,capo,hvo,hgo1,hgo2⟩:=HRR.out.o.form (by omega);injection hvo with hvo1 _ hvo2
    subst hvo1;subst hvo2;have hoo:=HRR.out.o;have hca:w7.cell? ⟨go,p*2,none⟩=some (.int .i64 (S.out.getD p (0,0)).1):=by
     rw[hoo.cellAt (p*2) (by omega)];exact(qe6 S.out p hpo).1
    have hfa:w7.frozen? ⟨go,p*2,none⟩=false:=hoo.frozenAt _;have hne:g≠go:=by
     have h:=qa0 hoo HHH.out (by decide);intro e;exact h (by rw[e];rfl)
    have hood:w7.drew.ownsRow B 185 2 (.slice (some ⟨go,0,none⟩) nO cO) nO (pairs S.out):=hoo;have hsto:=fun m=>hood.stored (p*2) (.int .i64 m);obtain⟨t,ht⟩:=geZ (qar S.out);rw[ht]at hto hT;have HTO:=zq hto;have x3:(p:Int)<nO:=by omega
    have x4:(0:Int)<=p:=by omega
    rw[hpl]at k6;by_cases h8:8184<t
    ·rw[if_pos h8]at hT
     subst hT;clear HTT HFM hS hto hse hsto hca hfa hoo hood hsl hfit hout hpl hid wh hV0 kf he hinv k6;go_wp2_with fail;refine HTO.out.mono ?_;rintro e w8 ⟨rfl,rfl⟩;go_wp2;go_ret2
     exact⟨none,0,0,rfl,⟨rfl,qcv _ _⟩,by rw[HBE.out];exact HB7.out⟩
    ·rw[if_neg h8]at hT
     subst hT;have hfin:=hsto t;rw[hse]at hfin;have HFIN:=zq hfin;have HLN:Hid ((S.out.set p (t,13)).length=nO):=zq (by rw[List.length_set];exact hlo);generalize (S.out.getD p (0,0)).1=y at*;have hhd:Has w7.drew g 188 _:=HHH.out.draw;have kd3:(w7.drew.setCell ⟨go,p*2,none⟩ (.int .i64 t)).cell? ⟨g,3,none⟩=some (.slice (some ⟨go,0,none⟩) nO cO):=by
      rw[(hhd.apart (p:=⟨go,p*2,none⟩) hne (.int .i64 t)).cell];rfl
     have hcd:w7.drew.cell? ⟨go,p*2,none⟩=some (.int .i64 y):=hca;have hfd:w7.drew.frozen? ⟨go,p*2,none⟩=false:=hfa;have HBD:=zq (qas (qaa HB7.out 1) HSZ7.out hood (Nat.le_refl _) rfl hfin.2);clear HTT HFM hS hto hse hsto hoo hood hsl hfit hout hpl hid wh hV0 kf he hinv hfin ht hgp hp hhd hgo1 hgo2;go_wp2_with fail;refine HTO.out.mono ?_;rintro e w8 ⟨rfl,rfl⟩;go_wp2_with fail;go_still_tail 11,(by kernel_rfl)
     change wpList _ _ _ _ _ w7.drew
     go_wp2;go_ret2
     exact⟨some ⟨go,0,none⟩,nO,cO,rfl,⟨HLN.out,Sl.of_own HFIN.out.1⟩,by rw[HBE.out];exact HBD.out⟩
   ·have hnv:(0:Int)<nV:=by
     rw[<-hvl];have:S.V.length≠0:=fun h=>hV0 (List.eq_nil_of_length_eq_zero h);omega
    have hT:=HTT.out;rw[if_neg (by omega),if_pos hV0]at hT;have hst:=HHH.out.stored 5 (.int .i64 20);have k5':(w7.setCell ⟨g,5,none⟩ (.int .i64 20)).cell? ⟨g,5,none⟩=some (.int .i64 20):=by rw[hst.cell];rfl
    have HBF:=zq (HB7.out.trans (qaU (w:=w7) h0 HSZ7.out 5 (.int .i64 20)));have kf5:=kf 5;subst hT;clear HTT HFM hst hV0 kf he hvl k6 k3;go_wp2_with fail;go_quiet (fail);go_wp2;go_ret2
    exact⟨none,0,0,rfl,⟨rfl,qcv _ _⟩,by rw[HBE.out];exact qaa HBF.out nq⟩
  ·have hT:=HTT.out
   rw[if_pos he]at hT;have x1:(S.e==0)=false:=by simp[he]
   have x2:(S.e !=0)=true:=by simp[he]
   subst hT;clear HTT HFM he k0 k3 k6 hvl kf;go_wp2_with fail;go_quiet (fail);go_wp2;go_ret2
   exact⟨none,0,0,rfl,⟨rfl,qcv _ _⟩,by rw[HBE.out];exact qaa HB7.out nq⟩
end
end Go.Proofs.YtahadmeilajdgaaGreatDoor
