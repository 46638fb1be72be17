/-
  Our own text, joined.
-/
import Derived.Test.YtahadmeilajdgaaGreatDoorMrah
import Derived.Test.YtahadmeilajdgaaGreatDoorMrai
import Derived.BigQuiet
import Derived.IntWalk
import Derived.Test.YtahadmeilajdgaaGreatDoorMraa
import Derived.Test.YtahadmeilajdgaaGreatDoorMrae
import Derived.RangeFuncNested
import Derived.RangeFuncBound
import Derived.RangeFuncCalls
import Derived.RangeFuncLeaves
import Derived.RangeFuncBox
import Derived.Sort.MapsRangeIn
import Derived.Shelf.Abstract
import Derived.Shelf.AbstractIn
import Derived.Shelf.RegionOpen
import Derived.OwnWalkIn
import Derived.TacticsInMore
import Derived.RegionIn
import Derived.LoopNIn
import Derived.LoopIn
namespace Go.Proofs.YtahadmeilajdgaaGreatDoor
set_option maxRecDepth 100000
set_option maxHeartbeats 8000000
section
open Go.RowKit
open Go.Great
theorem qfw (t:Tp3)(a:TpA)(w:World)(ht:TopR w t a)(hl:qaJ t=true)(hcj:t.joints.length<=a.cj):Calls Tryz.prog 39 #[.agg (tpC t a)] w fun e w'=>e= .returned (.int .i64 (qax t))/\Below w.heap.size w w':=by
 have hlg:=qav hl;obtain⟨wa,hwa,hbwa,HWA,HBWA,h0⟩:=bx1Z w 27 (tpC t a);have c0:wa.cell? ⟨w.heap.size,0,none⟩=some (.slice a.ae t.edges.length a.ce):=(h0).cell 0;have H0:=zH h0;have HT:=zq (fun W (hW:Below w.heap.size w W)=>ht.under hW);have HBA:=zq (fun W (hW:Below wa.heap.size wa W)=>hbwa.trans (hW.mono hbwa.size));have HLG:=zq hlg;have HLT:=zq hl;have HCJ:=zq hcj;obtain⟨V,hV⟩:=geZ (qax t);rw[hV];have HV:=zq hV;obtain⟨lg,hlgb⟩: ∃b,longB t=b:=⟨_,rfl⟩
 have HLB:=zq hlgb;have HLO:=zq (otlong_any t a wa);rw[hlgb]at HLO;have heo:(t.edges.any fun x=>!qaq x 1 1000000)=!qaF t:=by
  unfold qaF;rw[List.all_eq_not_any_not,Bool.not_not]
  rfl
 have HCK:=zq (fun W (hW:Below wa.heap.size wa W)=>oct_ck (fun x=>!qaq x 1 1000000) t.edges a.ae t.edges.length a.ce W (ht.under (bu hbwa hW)).e (by omega) (zq fun x W2 _=>(otck_any x W2)));rw[heo]at HCK;obtain⟨ok,hok⟩: ∃b,qaF t=b:=⟨_,rfl⟩
 rw[hok]at HCK;have HOK:=zq hok;obtain⟨n1,hn1⟩: ∃n,t.joints.length=n:=⟨_,rfl⟩
 obtain⟨n2,hn2⟩: ∃n,t.bals.length=n:=⟨_,rfl⟩
 obtain⟨n3,hn3⟩: ∃n,t.routes.length=n:=⟨_,rfl⟩
 obtain⟨ne,hne⟩: ∃n,t.edges.length=n:=⟨_,rfl⟩
 have HN1:=zq hn1;have HN2:=zq hn2;have HN3:=zq hn3;have k1:n1<=100:=by rw[<-hn1];exact hlg.2.1
 have k2:n2<=100:=by rw[<-hn2];exact hlg.2.2.1
 have k3:n3<=100:=by rw[<-hn3];exact hlg.2.2.2.1
 have HC1:=zq (fun W (hW:Below wa.heap.size wa W)=>(show W.cell? ⟨w.heap.size,1,none⟩=some (.slice a.aj n1 a.cj)from by rw[<-hn1];exact(h0.u hW).cell 1));have HC2:=zq (fun W (hW:Below wa.heap.size wa W)=>(show W.cell? ⟨w.heap.size,2,none⟩=some (.slice a.ab n2 a.cb)from by rw[<-hn2];exact(h0.u hW).cell 2));have HC3:=zq (fun W (hW:Below wa.heap.size wa W)=>(show W.cell? ⟨w.heap.size,3,none⟩=some (.slice a.ar n3 a.cr)from by rw[<-hn3];exact(h0.u hW).cell 3));have HC0:=zq (fun W (hW:Below wa.heap.size wa W)=>(show W.cell? ⟨w.heap.size,0,none⟩=some (.slice a.ae ne a.ce)from by rw[<-hne];exact(h0.u hW).cell 0));rw[hne]at HCK;clear hwa hbwa h0 ht hl hcj hlg hV hlgb heo hok hn1 hn2 hn3 hne c0;go_enter Tryz.func39,Tryz.ntmps39;go_upto_region 1 with fail;rw[HWA.out];clear HWA;go_wp2_with (with_reducible refine ldZ 10 (H0.out wa (Below.refl _ _)) ?_);refine HLO.out.mono ?_;rintro e w1 ⟨rfl,hb1⟩;have HB1:=zq hb1;clear hb1 HLO
 cases lg with
 |true=>
  have HF:Hid (V=2):=zq (by rw[<-HV.out];unfold qax;rw[if_pos HLB.out]);go_wp2;go_ret
  exact⟨by rw[HF.out];rfl,HBA.out _ HB1.out⟩
 |false=>
  have c0:=HC0.out w1 HB1.out;have HA:=zq (HCK.out w1 HB1.out);clear HCK;go_upto_region 3 with fail;go_wp2_with fail;refine HA.out.mono ?_;rintro e w2 ⟨rfl,hb2⟩;have HB2:=tB HB1 hb2;clear hb2 HA c0
  cases ok with
  |false=>
   have HF:Hid (V=1):=zq (by rw[<-HV.out];unfold qax;rw[if_neg (by rw[HLB.out];decide),if_neg (by rw[HOK.out];decide)]);go_wp2;go_ret
   exact⟨by rw[HF.out];rfl,HBA.out _ HB2.out⟩
  |true=>
   have HR1:Hid ((if qaE (qbi t) n1=0 then(if qaE (balE t) n2=0 then qaE (qaY t) n3 else qaE (balE t) n2)else qaE (qbi t) n1)=V):=zq (by rw[<-HV.out,<-HN1.out,<-HN2.out,<-HN3.out];unfold qax;rw[if_neg (c:=longB t=true) (by rw[HLB.out];decide),if_pos HOK.out]);clear HV;have c1:=HC1.out _ HB2.out;go_upto_region 5 with fail;go_wp2;go_loopg [19] n1 (fun kk v wl=> ∃i:Nat,i<=n1/\n1-i<=kk/\v= .int .i64 i/\Hid (qaE (qbi t) i=0)/\Hid (Below wa.heap.size wa wl))
   case atStart=>exact⟨0,by omega,by omega,rfl,zq rfl,HB2⟩
   obtain⟨i,hi,hik,rfl,HF1,HWn1⟩:=hrel;clear c1;by_cases hlt:i<n1;rotate_left
   ·have x1: ¬(i:Int)<n1:=by omega
    obtain rfl:i=n1:=by omega
    have HR2:Hid ((if qaE (balE t) n2=0 then qaE (qaY t) n3 else qaE (balE t) n2)=V):=zq (by have h_:=HR1.out;rw[if_pos HF1.out]at h_;exact h_);clear hi hik hlt x1;have c2:=HC2.out _ HWn1.out;go_upto_region 12 with fail;go_wp2;go_loopg [32] n2 (fun kk v wl=> ∃i:Nat,i<=n2/\n2-i<=kk/\v= .int .i64 i/\Hid (qaE (balE t) i=0)/\Hid (Below wa.heap.size wa wl))
    case atStart=>exact⟨0,by omega,by omega,rfl,zq rfl,HWn1⟩
    obtain⟨i,hi,hik,rfl,HF2,HWn2⟩:=hrel;clear c2;by_cases hlt:i<n2;rotate_left
    ·have x1: ¬(i:Int)<n2:=by omega
     obtain rfl:i=n2:=by omega
     have HR3:Hid (qaE (qaY t) n3=V):=zq (by have h_:=HR2.out;rw[if_pos HF2.out]at h_;exact h_);clear hi hik hlt x1;have c3:=HC3.out _ HWn2.out;go_upto_region 19 with fail;go_wp2;go_loopg [45] n3 (fun kk v wl=> ∃i:Nat,i<=n3/\n3-i<=kk/\v= .int .i64 i/\Hid (qaE (qaY t) i=0)/\Hid (Below wa.heap.size wa wl))
     case atStart=>exact⟨0,by omega,by omega,rfl,zq rfl,HWn2⟩
     obtain⟨i,hi,hik,rfl,HF3,HWn3⟩:=hrel;clear c3;by_cases hlt:i<n3;rotate_left
     ·have x1: ¬(i:Int)<n3:=by omega
      obtain rfl:i=n3:=by omega
      have HVV:Hid (V=0):=zq (by rw[<-HR3.out];exact HF3.out);go_wp2;go_ret
      exact⟨by rw[HVV.out];rfl,HBA.out _ HWn3.out⟩
     obtain⟨x,hx⟩: ∃x,t.routes[i]?=some x:=⟨_,List.getElem?_eq_getElem (by rw[HN3.out];exact hlt)⟩
     have HCA:=zq (otcr_any t a i x wr (HT.out _ (HBA.out _ HWn3.out)) HLT.out HOK.out hx);obtain⟨e,he⟩:=geZ (qaY t i);rw[he]at HCA;have HE:=zq he;have y0:(0:Int)<=i:=by omega
     have y1:(i:Int)<n3:=by omega
     clear hx he;go_wp2_with (with_reducible refine ldZ 48 (H0.out wr HWn3.out) ?_);refine HCA.out.mono ?_;rintro e_ w5 ⟨rfl,hb5⟩;have HB5:=tB HWn3 hb5;clear hb5 HCA;by_cases hz:e=0;rotate_left
     ·have z1:(e==0)=false:=by simp[hz]
      have z2:(e !=0)=true:=by simp[hz]
      have HFF:Hid (V=e):=zq (by have hf_:=qaO hlt HF3.out (by rw[HE.out];exact hz);rw[HE.out]at hf_;rw[<-HR3.out];rw[hf_]);go_wp2;go_ret
      exact⟨by rw[HFF.out];rfl,HBA.out _ HB5.out⟩
     subst hz;have HFN:Hid (qaE (qaY t) (i+1)=0):=zq (by show(if qaE (qaY t) i=0 then qaY t i else qaE (qaY t) i)=0;rw[if_pos HF3.out];exact HE.out);go_wp2;go_roundg (gk-1)
     case measure=>omega
     case rel=>exact⟨i+1,by omega,by omega,by go_num,HFN,HB5⟩
    obtain⟨x,hx⟩: ∃x,t.bals[i]?=some x:=⟨_,List.getElem?_eq_getElem (by rw[HN2.out];exact hlt)⟩
    have HCA:=zq (otcb_any t a i x wr (HT.out _ (HBA.out _ HWn2.out)) HLG.out.1 HLG.out.2.2.1 hx);obtain⟨e,he⟩:=geZ (balE t i);rw[he]at HCA;have HE:=zq he;have y0:(0:Int)<=i:=by omega
    have y1:(i:Int)<n2:=by omega
    clear hx he;go_wp2_with (with_reducible refine ldZ 35 (H0.out wr HWn2.out) ?_);refine HCA.out.mono ?_;rintro e_ w5 ⟨rfl,hb5⟩;have HB5:=tB HWn2 hb5;clear hb5 HCA;by_cases hz:e=0;rotate_left
    ·have z1:(e==0)=false:=by simp[hz]
     have z2:(e !=0)=true:=by simp[hz]
     have HFF:Hid (V=e):=zq (by have hf_:=qaO hlt HF2.out (by rw[HE.out];exact hz);rw[HE.out]at hf_;rw[<-HR2.out];rw[hf_,if_neg hz]);go_wp2;go_ret
     exact⟨by rw[HFF.out];rfl,HBA.out _ HB5.out⟩
    subst hz;have HFN:Hid (qaE (balE t) (i+1)=0):=zq (by show(if qaE (balE t) i=0 then balE t i else qaE (balE t) i)=0;rw[if_pos HF2.out];exact HE.out);go_wp2;go_roundg (gk-1)
    case measure=>omega
    case rel=>exact⟨i+1,by omega,by omega,by go_num,HFN,HB5⟩
   obtain⟨x,hx⟩: ∃x,t.joints[i]?=some x:=⟨_,List.getElem?_eq_getElem (by rw[HN1.out];exact hlt)⟩
   have HCA:=zq (otcj_any t a i x wr (HT.out _ (HBA.out _ HWn1.out)) HLG.out.1 HLG.out.2.1 HCJ.out hx);obtain⟨e,he⟩:=geZ (qbi t i);rw[he]at HCA;have HE:=zq he;have y0:(0:Int)<=i:=by omega
   have y1:(i:Int)<n1:=by omega
   clear hx he;go_wp2_with (with_reducible refine ldZ 22 (H0.out wr HWn1.out) ?_);refine HCA.out.mono ?_;rintro e_ w5 ⟨rfl,hb5⟩;have HB5:=tB HWn1 hb5;clear hb5 HCA;by_cases hz:e=0;rotate_left
   ·have z1:(e==0)=false:=by simp[hz]
    have z2:(e !=0)=true:=by simp[hz]
    have HFF:Hid (V=e):=zq (by have hf_:=qaO hlt HF1.out (by rw[HE.out];exact hz);rw[HE.out]at hf_;rw[<-HR1.out];rw[hf_,if_neg hz]);go_wp2;go_ret
    exact⟨by rw[HFF.out];rfl,HBA.out _ HB5.out⟩
   subst hz;have HFN:Hid (qaE (qbi t) (i+1)=0):=zq (by show(if qaE (qbi t) i=0 then qbi t i else qaE (qbi t) i)=0;rw[if_pos HF1.out];exact HE.out);go_wp2;go_roundg (gk-1)
   case measure=>omega
   case rel=>exact⟨i+1,by omega,by omega,by go_num,HFN,HB5⟩
end
section
open Go.RowKit
open Go.Great
def distP (t:Tp3)(p:Ps3):Int:=if p.rev=true then qau t p.edge-p.at_ else p.at_
def posP (t:Tp3)(s:St3)(n:Int):Ps3:=if s.rev=true then⟨s.edge,qau t s.edge-n,true⟩else⟨s.edge,n,false⟩
theorem qf0 (t:Tp3)(p:Ps3):distP t p=qau t p.edge-qaA t p:=by
 obtain⟨e,a,r⟩:=p
 cases r
 ·show a=qau t e-(qau t e-a)
  omega
 ·rfl
theorem pos_dist (t:Tp3)(p:Ps3)(n:Int):posP t (stepP p) (distP t p+n)=qbt p n:=by
 obtain⟨e,a,r⟩:=p
 cases r
 ·rfl
 ·show(⟨e,qau t e-(qau t e-a+n),true⟩:Ps3)=⟨e,a-n,true⟩
  rw[show qau t e-(qau t e-a+n)=a-n by omega]
theorem dist_begin (t:Tp3)(s:St3):distP t (qb1 t s)=0:=by
 obtain⟨e,r⟩:=s
 cases r
 ·rfl
 ·show qau t e-qau t e=0
  omega
theorem dist_ok {t:Tp3}(ht:qaF t=true){p:Ps3}(h:onB t p=true):0<=distP t p/\distP t p<=1000000:=by
 obtain⟨h1,h2,h3⟩:=qbu.1 h;have h4:=qa2 ht (s:=stepP p) h1;rw[qb7]at h4;have h5:qau t (stepP p).edge=qau t p.edge:=rfl;rw[h5]at h4;unfold distP;split<;>omega
theorem right_w (t:Tp3)(p:Ps3):qa4 t p=(decide (qax t=0) &&(qaq p.edge 0 ((t.edges.length:Int)-1) &&qaq p.at_ 0 (qau t p.edge))):=by
 unfold qa4 onB;rw[qc9]
 rfl
theorem qeZ (n a b:Int)(w:World):
  Calls Tryz.prog 141 #[.int .i64 n,.int .i64 a,.int .i64 b] w fun e w'=>e= .returned (.bool (qaq n a b))/\w'=w:=by
 unfold qaq;by_cases h1:a<=n
 ·by_cases h2:n<=b
  ·rw[decide_eq_true h1,decide_eq_true h2]
   go_enter Tryz.func141,Tryz.ntmps141;go_wp2;go_ret
   exact⟨rfl,rfl⟩
  ·rw[decide_eq_true h1,decide_eq_false h2]
   go_enter Tryz.func141,Tryz.ntmps141;go_wp2;go_ret
   exact⟨rfl,rfl⟩
 ·rw[decide_eq_false h1,Bool.false_and]
  go_enter Tryz.func141,Tryz.ntmps141;go_wp2;go_ret
  exact⟨rfl,rfl⟩
theorem qgl (n a b:Int)(w:World):Calls Tryz.prog 141 #[.int .i64 n,.int .i64 a,.int .i64 b] w fun e w'=>e= .returned (.bool (qaq n a b))/\Below w.heap.size w w':=
 (qeZ n a b w).mono fun _ _ ⟨h1,h2⟩=>⟨h1,by rw[h2];exact Below.refl _ _⟩
theorem qeD (p:Ps3)(w:World):
  Calls Tryz.prog 142 #[.agg (psA p)] w fun e w'=>e= .returned (.agg (stA13 (stepP p)))/\Below w.heap.size w w':=by
 obtain⟨wa,hwa,hbwa,HWA,HBWA,h0,h1⟩:=bx2Z w 51 (psA p) 30 #[.int .i64 0,.bool false];have c0:wa.cell? ⟨w.heap.size,0,none⟩=some (.int .i64 p.edge):=h0.cell 0;have c2:wa.cell? ⟨w.heap.size,2,none⟩=some (.bool p.rev):=h0.cell 2;have HZ:=zq h1;clear hwa hbwa h0 h1;obtain⟨n,k,r⟩:=p;unfold psA at*;unfold stepP stA13;dsimp only at*;have HR:=zq (qab HZ.out #[.int .i64 n,.bool r]);have HBF:=zq (qac (g:=w.heap.size+1) HBWA.out (by omega) #[.int .i64 n,.bool r]);go_enter Tryz.func142,Tryz.ntmps142;go_upto_region 1 with fail;rw[HWA.out];clear HWA HBWA;go_wp2_with (with_reducible refine stZ #[.int .i64 n,.bool r] HZ.out ?_);refine roZ HR.out ?_;exact⟨rfl,HBF.out⟩
theorem qdA (t:Tp3)(a:TpA)(p:Ps3)(w:World)(ht:TopR w t a)(hp:onB t p=true)(hok:qaF t=true):
  Calls Tryz.prog 143 #[.agg (tpC t a),.agg (psA p)] w fun e w'=>e= .returned (.int .i64 (distP t p))/\Below w.heap.size w w':=by
 have HP:=zq (qbu.1 hp);have HA:=zq (dist_ok hok hp);obtain⟨wa,hwa,hbwa,HWA,HBWA,h0,h1⟩:=bx2Z w 27 (tpC t a) 51 (psA p);obtain⟨e,at_,rv⟩:=p;unfold psA at*;unfold distP at HA⊢;dsimp only at*;have c0:wa.cell? ⟨w.heap.size,0,none⟩=some (.slice a.ae t.edges.length a.ce):=h0.cell 0;have d0:wa.cell? ⟨w.heap.size+1,0,none⟩=some (.int .i64 e):=h1.cell 0;have d1:wa.cell? ⟨w.heap.size+1,1,none⟩=some (.int .i64 at_):=h1.cell 1;have d2:wa.cell? ⟨w.heap.size+1,2,none⟩=some (.bool rv):=h1.cell 2;have HE1:=zq (ht.e.under hbwa);clear hwa hbwa h0 h1 hp ht hok;have hpp:=HP.out.1;unfold edgeB at hpp;simp only[Bool.and_eq_true,decide_eq_true_eq]at hpp;obtain⟨hp1,hp2⟩:=hpp;obtain⟨k,rfl⟩: ∃k:Nat,e=k:=⟨e.toNat,by omega⟩
 obtain⟨be,oe,hae,ce⟩:=HE1.out.edge (show k<t.edges.length by omega);obtain⟨q,hq⟩:=geZ (t.edges.getD k 0);have hq2:qau t k=q:=hq;rw[hq2]at HA⊢;rw[hq]at ce;rw[hae]at c0;obtain⟨n,hn⟩:=geZ (t.edges.length);rw[hn]at c0 hp2;clear hq hq2 hae hn HE1 HP
 cases rv with
 |false=>
  go_enter Tryz.func143,Tryz.ntmps143;go_upto_region 1 with fail;rw[HWA.out];clear HWA;go_wp2;go_ret
  exact⟨rfl,HBWA.out⟩
 |true=>
  have hwr1:IntKind.i64.wrap (q-at_)=q-at_:=by have h_:=HA.out;rw[if_pos rfl]at h_;rw[IntKind.wrap_i64];omega
  go_enter Tryz.func143,Tryz.ntmps143;go_upto_region 1 with fail;rw[HWA.out];clear HWA;go_wp2;go_quiet (fail);go_wp2;go_ret
  exact⟨by first|rfl|simp,by first|exact qaa HBWA.out _|(rw[World.drewN_drewN];exact qaa HBWA.out _)|exact HBWA.out⟩
theorem plpos_any (t:Tp3)(a:TpA)(s:St3)(n:Int)(w:World)(ht:TopR w t a)(hs:edgeB t s.edge=true)(hok:qaF t=true)(hn0:0<=n)(hn:n<=qau t s.edge):
  Calls Tryz.prog 144 #[.agg (tpC t a),.agg (stA13 s),.int .i64 n] w fun e w'=>e= .returned (.agg (psA (posP t s n)))/\Below w.heap.size w w':=by
 have HQ:=zq (qa2 hok hs);obtain⟨wa,hwa,hbwa,HWA,HBWA,h0,h1,h2⟩:=bx3Z w 27 (tpC t a) 30 (stA13 s) 51 #[.int .i64 0,.int .i64 0,.bool false];obtain⟨e,rv⟩:=s;unfold posP psA;dsimp only at*;have c0:wa.cell? ⟨w.heap.size,0,none⟩=some (.slice a.ae t.edges.length a.ce):=h0.cell 0;have d0:wa.cell? ⟨w.heap.size+1,0,none⟩=some (.int .i64 e):=h1.cell 0;have d1:wa.cell? ⟨w.heap.size+1,1,none⟩=some (.bool rv):=h1.cell 1;have HZ:=zq h2;have HE1:=zq (ht.e.under hbwa);clear hwa hbwa h0 h1 h2 ht hok;unfold edgeB at hs;simp only[Bool.and_eq_true,decide_eq_true_eq]at hs;obtain⟨hp1,hp2⟩:=hs;obtain⟨k,rfl⟩: ∃k:Nat,e=k:=⟨e.toNat,by omega⟩
 obtain⟨be,oe,hae,ce⟩:=HE1.out.edge (show k<t.edges.length by omega);obtain⟨q,hq⟩:=geZ (t.edges.getD k 0);have hq2:qau t k=q:=hq;rw[qb7]at HQ;dsimp only at HQ hn;rw[hq2]at HQ hn⊢;rw[hq]at ce;rw[hae]at c0;obtain⟨m,hm⟩: ∃n,t.edges.length=n:=⟨_,rfl⟩
 rw[hm]at c0 hp2;have hwr1:IntKind.i64.wrap (q-n)=q-n:=by have h_:=HQ.out;rw[IntKind.wrap_i64];omega
 clear hq hq2 hae hm HE1 HQ hn hn0
 cases rv with
 |false=>
  have HR:=zq (qab HZ.out #[.int .i64 (k:Int),.int .i64 n,.bool false]);have HBF:=zq (qac (g:=w.heap.size+1+1) HBWA.out (by omega) #[.int .i64 (k:Int),.int .i64 n,.bool false]);go_enter Tryz.func144,Tryz.ntmps144;go_upto_region 1 with fail;rw[HWA.out];clear HWA HBWA;go_wp2_with (with_reducible refine stZ #[.int .i64 (k:Int),.int .i64 n,.bool false] HZ.out ?_);refine roZ HR.out ?_;exact⟨rfl,HBF.out⟩
 |true=>
  have HR:=zq (qab HZ.out #[.int .i64 (k:Int),.int .i64 (q-n),.bool true]);have HBF:=zq (qac (g:=w.heap.size+1+1) HBWA.out (by omega) #[.int .i64 (k:Int),.int .i64 (q-n),.bool true]);go_enter Tryz.func144,Tryz.ntmps144;go_upto_region 1 with fail;rw[HWA.out];clear HWA HBWA;go_wp2_with (with_reducible refine stZ #[.int .i64 (k:Int),.int .i64 (q-n),.bool true] HZ.out ?_);refine roZ HR.out ?_;exact⟨rfl,HBF.out⟩
theorem opl_right (t:Tp3)(a:TpA)(p:Ps3)(w:World)(ht:TopR w t a)(hlt:qaJ t=true)(hcj:t.joints.length<=a.cj):
  Calls Tryz.prog 140 #[.agg (tpC t a),.agg (psA p)] w fun e w'=>e= .returned (.bool (qa4 t p))/\Below w.heap.size w w':=by
 obtain⟨cE,hcE⟩: ∃e,qax t=e:=⟨_,rfl⟩
 have HNN:=zq (qav hlt);have HCK:=zq (fun W (hW:Below w.heap.size w W)=>qfw t a W (ht.under hW) hlt hcj);rw[hcE]at HCK;obtain⟨wa,hwa,hbwa,HWA,HBWA,h0,h1⟩:=bx2Z w 27 (tpC t a) 51 (psA p);have HT:=zq ht;have HW1:=zq (fun W=>qgl p.edge 0 ((t.edges.length:Int)-1) W);have HW2:=zq (fun W=>qgl p.at_ 0 (qau t p.edge) W);have HR:Hid (qa4 t p=(decide (cE=0) &&(qaq p.edge 0 ((t.edges.length:Int)-1) &&qaq p.at_ 0 (qau t p.edge)))):=zq (by rw[right_w,hcE]);obtain⟨q,hq⟩: ∃x,qau t p.edge=x:=⟨_,rfl⟩
 have HBX:=zq (show qaq p.edge 0 ((t.edges.length:Int)-1)=true->0<=p.edge/\p.edge<t.edges.length from fun h=>by rw[<-qc9]at h;unfold edgeB at h;simpa using h);obtain⟨b2,hb2⟩: ∃x,qaq p.edge 0 ((t.edges.length:Int)-1)=x:=⟨_,rfl⟩
 rw[hq]at HW2 HR;obtain⟨b3,hb3⟩: ∃x,qaq p.at_ 0 q=x:=⟨_,rfl⟩
 rw[hb2]at HW1 HR HBX;rw[hb3]at HW2 HR;have HQ:=zq hq;have HH0:=zq h0;have HH1:=zq h1;clear hwa hbwa h0 h1 ht hlt hcj hcE hb2 hb3 hq;obtain⟨pe,pa,pr⟩:=p;dsimp only at*;unfold psA at*;dsimp only at*;have hml:t.edges.length<=100:=HNN.out.1;obtain⟨m,hm⟩: ∃x,t.edges.length=x:=⟨_,rfl⟩
 rw[hm]at hml HW1;have hwr1:IntKind.i64.wrap ((m:Int)-1)=(m:Int)-1:=by rw[IntKind.wrap_i64];omega
 have HCE0:Hid (∀W,Has W (w.heap.size) 27 (tpC t a)->W.cell? ⟨w.heap.size,0,none⟩=some (.slice a.ae m a.ce)):=zq fun W hW=>by
  have c_:W.cell? ⟨w.heap.size,0,none⟩=some (.slice a.ae t.edges.length a.ce):=hW.cell 0;rw[hm]at c_;exact c_
 have HM:=zq hm;clear hm hml;by_cases z0:cE=0;rotate_left
 ·have g0:decide (cE=0)=false:=decide_eq_false z0
  have g1:(cE==0)=false:=by simp[z0]
  rw[g0]at HR;go_enter Tryz.func140,Tryz.ntmps140;go_upto_region 1 with fail;rw[HWA.out];clear HWA;refine wp_region_held_drew (S:=(fun W_=>Has W_ (w.heap.size+1) 51 #[.int .i64 pe,.int .i64 pa,.bool pr]/\Has W_ (w.heap.size) 27 (tpC t a)/\Below w.heap.size w W_)) (by kernel_rfl) ?_ (fun hHeld=>?_)
  ·exact⟨HH1.out.draw,HH0.out.draw,qah HBWA.out⟩
  refine tlZ 0 5 w.heap.size (tpC t a) (fun _ ⟨_,h_,_⟩=>h_) (h:=?_);simp only[lyZ];refine rdZ [1] ?_;refine acZ (some 6) (fun K hK=>?_) ?_
  ·go_simp
   obtain⟨s0,s1,s2⟩:=hHeld;refine(HCK.out _ s2).mono ?_;rintro e_ v1 ⟨rfl,hbs⟩;go_wp2_with fail;refine hK.out _ _ ?_ (fun hHeld=>?_)
   ·exact⟨s0.u hbs,s1.u hbs,bu s2 hbs⟩
   clear hK K s0 s1 s2
   try simp only[lyZ]
   refine tkZ 2 7 (h:=?_);simp only[lyZ];refine tkZ 3 8 (h:=?_);simp only[lyZ];refine skZ 4 9 (h:=?_);simp only[lyZ];refine skZ 5 10 (h:=?_);simp only[lyZ];refine skZ 6 11 (h:=?_);simp only[lyZ];refine skZ 7 12 (h:=?_);simp only[lyZ];refine skZ 8 13 (h:=?_);simp only[lyZ];refine skZ 9 14 (h:=?_);simp only[lyZ];refine skZ 10 15 (h:=?_);simp only[lyZ];refine tkZ 11 16 (h:=?_);simp only[lyZ];refine tkZ 12 17 (h:=?_);simp only[lyZ];refine skZ 13 18 (h:=?_);simp only[lyZ];refine skZ 14 19 (h:=?_);simp only[lyZ];refine skZ 15 20 (h:=?_);simp only[lyZ];refine skZ 16 21 (h:=?_);simp only[lyZ];refine skZ 17 22 (h:=?_);simp only[lyZ];refine skZ 18 23 (h:=?_);simp only[lyZ];refine skZ 19 24 (h:=?_);simp only[lyZ];refine skZ 20 25 (h:=?_);simp only[lyZ];refine skZ 21 26 (h:=?_);simp only[lyZ];refine tkZ 22 27 (h:=?_);simp only[lyZ];refine tkZ 23 4 (h:=?_);simp only[lyZ];refine dnZ ?_;have HE:=zq hHeld.2.2;clear hHeld;go_wp2;go_ret
   rw[HR.out];exact⟨by first|rfl|simp,HE.out⟩
  exact AllReadyH.nil
 subst z0;rw[show decide ((0:Int)=0)=true from rfl]at HR
 cases b2 with
 |false=>
  go_enter Tryz.func140,Tryz.ntmps140;go_upto_region 1 with fail;rw[HWA.out];clear HWA;refine wp_region_held_drew (S:=(fun W_=>Has W_ (w.heap.size+1) 51 #[.int .i64 pe,.int .i64 pa,.bool pr]/\Has W_ (w.heap.size) 27 (tpC t a)/\Below w.heap.size w W_)) (by kernel_rfl) ?_ (fun hHeld=>?_)
  ·exact⟨HH1.out.draw,HH0.out.draw,qah HBWA.out⟩
  refine tlZ 0 5 w.heap.size (tpC t a) (fun _ ⟨_,h_,_⟩=>h_) (h:=?_);simp only[lyZ];refine rdZ [1] ?_;refine acZ (some 6) (fun K hK=>?_) ?_
  ·go_simp
   obtain⟨s0,s1,s2⟩:=hHeld;refine(HCK.out _ s2).mono ?_;rintro e_ v1 ⟨rfl,hbs⟩;go_wp2_with fail;refine hK.out _ _ ?_ (fun hHeld=>?_)
   ·exact⟨s0.u hbs,s1.u hbs,bu s2 hbs⟩
   clear hK K s0 s1 s2
   try simp only[lyZ]
   refine tkZ 2 7 (h:=?_);simp only[lyZ];refine tkZ 3 8 (h:=?_);simp only[lyZ];refine tkZ 4 9 (h:=?_);simp only[lyZ];refine tqZ 5 10 (fun w_ hSw=>(show w_.cell? ⟨w.heap.size+1,0,none⟩=some (.int .i64 pe:Value)from hSw.1.cell 0)) (h:=?_);simp only[lyZ];refine tkZ 6 11 (h:=?_);simp only[lyZ];refine tqZ 7 12 (fun w_ hSw=>(show w_.cell? ⟨w.heap.size,0,none⟩=some (.slice a.ae m a.ce:Value)from HCE0.out w_ hSw.2.1)) (h:=?_);simp only[lyZ];refine tkZ 8 13 (h:=?_);simp only[lyZ];refine tkZ 9 14 (h:=?_);simp only[lyZ];refine rdZ [10] ?_;refine acZ (some 15) (fun K hK=>?_) ?_
   ·go_simp
    obtain⟨s0,s1,s2⟩:=hHeld;refine(HW1.out _).mono ?_;rintro e_ v2 ⟨rfl,hbs⟩;go_wp2_with fail;refine hK.out _ _ ?_ (fun hHeld=>?_)
    ·exact⟨s0.u hbs,s1.u hbs,bu s2 hbs⟩
    clear hK K s0 s1 s2
    try simp only[lyZ]
    refine tkZ 11 16 (h:=?_);simp only[lyZ];refine tkZ 12 17 (h:=?_);simp only[lyZ];refine skZ 13 18 (h:=?_);simp only[lyZ];refine skZ 14 19 (h:=?_);simp only[lyZ];refine skZ 15 20 (h:=?_);simp only[lyZ];refine skZ 16 21 (h:=?_);simp only[lyZ];refine skZ 17 22 (h:=?_);simp only[lyZ];refine skZ 18 23 (h:=?_);simp only[lyZ];refine skZ 19 24 (h:=?_);simp only[lyZ];refine skZ 20 25 (h:=?_);simp only[lyZ];refine skZ 21 26 (h:=?_);simp only[lyZ];refine tkZ 22 27 (h:=?_);simp only[lyZ];refine tkZ 23 4 (h:=?_);simp only[lyZ];refine dnZ ?_;have HE:=zq hHeld.2.2;clear hHeld;go_wp2;go_ret
    rw[HR.out];exact⟨by first|rfl|simp,HE.out⟩
   exact AllReadyH.nil
  exact AllReadyH.nil
 |true=>
  have hed:=HBX.out rfl;obtain⟨en,hen⟩: ∃e:Nat,pe=e:=⟨pe.toNat,by omega⟩
  have hel:en<t.edges.length:=by omega
  obtain⟨bke,oe,hae,ce⟩:=(HT.out.under HBWA.out).e.edge hel;have hqq:t.edges.getD en 0=q:=by rw[<-HQ.out,hen];rfl
  rw[hqq]at ce;have HCE2:Hid (∀W,Has W (w.heap.size) 27 (tpC t a)->W.cell? ⟨w.heap.size,0,none⟩=some (.slice (some ⟨bke,oe,none⟩) m a.ce)):=zq fun W hW=>by rw[<-hae];exact HCE0.out W hW
  have HCQ:Hid (∀W,Below w.heap.size w W->W.cell? ⟨bke,oe+en,none⟩=some (.int .i64 q)):=zq fun W hW=>by
   obtain⟨b_,o_,e_,h_⟩:=(HT.out.under hW).e.edge hel;rw[hae]at e_;injection e_ with e_
   injection e_ with e1_ e2_ _
   subst e1_ e2_;rw[hqq]at h_;exact h_
  have y2:(0:Int)<=en:=by omega
  have y3:(en:Int)<m:=by rw[<-HM.out];omega
  subst hen;clear hed hel hae ce hqq HCE0 HBX HQ HM;go_enter Tryz.func140,Tryz.ntmps140;go_upto_region 1 with fail;rw[HWA.out];clear HWA;refine wp_region_held_drew (S:=(fun W_=>Has W_ (w.heap.size+1) 51 #[.int .i64 (en:Nat),.int .i64 pa,.bool pr]/\Has W_ (w.heap.size) 27 (tpC t a)/\Below w.heap.size w W_)) (by kernel_rfl) ?_ (fun hHeld=>?_)
  ·exact⟨HH1.out.draw,HH0.out.draw,qah HBWA.out⟩
  refine tlZ 0 5 w.heap.size (tpC t a) (fun _ ⟨_,h_,_⟩=>h_) (h:=?_);simp only[lyZ];refine rdZ [1] ?_;refine acZ (some 6) (fun K hK=>?_) ?_
  ·go_simp
   obtain⟨s0,s1,s2⟩:=hHeld;refine(HCK.out _ s2).mono ?_;rintro e_ v1 ⟨rfl,hbs⟩;go_wp2_with fail;refine hK.out _ _ ?_ (fun hHeld=>?_)
   ·exact⟨s0.u hbs,s1.u hbs,bu s2 hbs⟩
   clear hK K s0 s1 s2
   try simp only[lyZ]
   refine tkZ 2 7 (h:=?_);simp only[lyZ];refine tkZ 3 8 (h:=?_);simp only[lyZ];refine tkZ 4 9 (h:=?_);simp only[lyZ];refine tqZ 5 10 (fun w_ hSw=>(show w_.cell? ⟨w.heap.size+1,0,none⟩=some (.int .i64 (en:Nat):Value)from hSw.1.cell 0)) (h:=?_);simp only[lyZ];refine tkZ 6 11 (h:=?_);simp only[lyZ];refine tqZ 7 12 (fun w_ hSw=>(show w_.cell? ⟨w.heap.size,0,none⟩=some (.slice (some ⟨bke,oe,none⟩) m a.ce:Value)from HCE2.out w_ hSw.2.1)) (h:=?_);simp only[lyZ];refine tkZ 8 13 (h:=?_);simp only[lyZ];refine tkZ 9 14 (h:=?_);simp only[lyZ];refine rdZ [10] ?_;refine acZ (some 15) (fun K hK=>?_) ?_
   ·go_simp
    obtain⟨s0,s1,s2⟩:=hHeld;refine(HW1.out _).mono ?_;rintro e_ v2 ⟨rfl,hbs⟩;go_wp2_with fail;refine hK.out _ _ ?_ (fun hHeld=>?_)
    ·exact⟨s0.u hbs,s1.u hbs,bu s2 hbs⟩
    clear hK K s0 s1 s2
    try simp only[lyZ]
    refine tkZ 11 16 (h:=?_);simp only[lyZ];refine tkZ 12 17 (h:=?_);simp only[lyZ];refine tkZ 13 18 (h:=?_);simp only[lyZ];refine tqZ 14 19 (fun w_ hSw=>(show w_.cell? ⟨w.heap.size+1,1,none⟩=some (.int .i64 pa:Value)from hSw.1.cell 1)) (h:=?_);simp only[lyZ];refine tkZ 15 20 (h:=?_);simp only[lyZ];refine tqZ 16 21 (fun w_ hSw=>(show w_.cell? ⟨w.heap.size,0,none⟩=some (.slice (some ⟨bke,oe,none⟩) m a.ce:Value)from HCE2.out w_ hSw.2.1)) (h:=?_);simp only[lyZ];refine tkZ 17 22 (h:=?_);simp only[lyZ];refine tqZ 18 23 (fun w_ hSw=>(show w_.cell? ⟨w.heap.size+1,0,none⟩=some (.int .i64 (en:Nat):Value)from hSw.1.cell 0)) (h:=?_);simp only[lyZ];refine tkZ 19 24 (h:=?_);simp only[lyZ];refine tqZ 20 25 (fun w_ hSw=>HCQ.out w_ hSw.2.2) (h:=?_);simp only[lyZ];refine rdZ [21] ?_;refine acZ (some 26) (fun K hK=>?_) ?_
    ·go_simp
     obtain⟨s0,s1,s2⟩:=hHeld;refine(HW2.out _).mono ?_;rintro e_ v3 ⟨rfl,hbs⟩;go_wp2_with fail;refine hK.out _ _ ?_ (fun hHeld=>?_)
     ·exact⟨s0.u hbs,s1.u hbs,bu s2 hbs⟩
     clear hK K s0 s1 s2
     try simp only[lyZ]
     refine tkZ 22 27 (h:=?_);simp only[lyZ];refine tkZ 23 4 (h:=?_);simp only[lyZ];refine dnZ ?_;have HE:=zq hHeld.2.2;clear hHeld;go_wp2;go_ret
     rw[HR.out];exact⟨by first|rfl|simp,HE.out⟩
    exact AllReadyH.nil
   exact AllReadyH.nil
  exact AllReadyH.nil
theorem oixs_any (l:List St3)(v:St3)(A:Option Addr)(n c:Nat)(w:World)(hs:SlO stC 2 w A n c l)(hbig:n<=1048576):
  Calls Tryz.prog 107 #[.slice A n c,.agg (stA13 v)] w fun e w'=>e= .returned (.int .i64 (idxL (eqS v) l))/\Below w.heap.size w w':=by
 obtain⟨wa,hwa,hbwa,HWA,HBWA,h0⟩:=bx1Z w 30 (stA13 v);have HN:Hid (l.length=n):=zq hs.1;have HW:=zq (hs.under hbwa);have c0:wa.cell? ⟨w.heap.size,0,none⟩=some (.int .i64 v.edge):=h0.cell 0;have c1:wa.cell? ⟨w.heap.size,1,none⟩=some (.bool v.rev):=h0.cell 1;have HQ:=zq (fun x W=>eq_st13 v x W);clear hs hwa hbwa h0;have x0:(0:Int)<=n:=by omega
 obtain⟨R,hR⟩:=geZ (idxL (eqS v) l);have HR:=zq hR;rw[hR];clear hR;unfold stA13 at*;go_enter Tryz.func107,Tryz.ntmps107;go_upto_region 1 with fail;rw[HWA.out];clear HWA;go_wp2;go_loopg [8] n (fun kk s8 wl=> ∃j q:Nat,j<=n/\n-j<=kk/\s8= .int .i64 j/\Hid (∀i x,i<j->l[i]?=some x->eqS v x=false)/\wl=wa.drewN q)
 case atStart=>exact⟨0,0,by omega,by omega,rfl,zq fun i x h=>absurd h (by omega),rfl⟩
 obtain⟨j,q,hj,hjk,rfl,HNO,rfl⟩:=hrel;by_cases hlt:j<n
 ·obtain⟨x,hx⟩:=glZ l (j) (by rw[HN.out];omega)
  obtain⟨bk,off,rfl,d0,d1⟩:=HW.out.step hx;have HX:=zq hx;have y0:(0:Int)<=j:=by omega
  have y1:(j:Int)<n:=by omega
  have q1:=HQ.out x;clear hx;generalize hb:eqS v x=b at*;have HBE:=zq hb;clear hb;go_upto_region 4 with fail
  cases b with
  |true=>
   have HF:Hid (R=j):=zq (by rw[<-HR.out];exact qbC HX.out HBE.out HNO.out);go_quiet (fail);go_wp2;go_ret
   exact⟨by rw[HF.out];rfl,by first|exact qaa HBWA.out _|(rw[World.drewN_drewN];exact qaa HBWA.out _)⟩
  |false=>
   have HN2:Hid (∀i y,i<j+1->l[i]?=some y->eqS v y=false):=zq fun i y hi hy=>by
    by_cases h:i=j
    ·subst h;rw[HX.out]at hy;cases hy;exact HBE.out
    ·exact HNO.out i y (by omega) hy
   go_quiet (fail);go_wp2;go_roundg (gk-1)
   case measure=>omega
   case rel=>exact⟨j+1,_,by omega,by omega,by go_num,HN2,by first|rfl|rw[World.drewN_drewN]⟩
 ·have y1: ¬(j:Int)<n:=by omega
  have HF:Hid (R= -1):=zq (by rw[<-HR.out];exact qbg fun i y hi hy=>HNO.out i y (by have:=HN.out;omega) hy);go_wp2;go_ret
  exact⟨by rw[HF.out];rfl,qaa HBWA.out _⟩
end
section
open Go.RowKit Go.Shelf
open Go.Maps (has)
attribute [local go_sem] Oper.semAt_some
/-! What has come, and what is still to come. -/
def Coll13 (D:DataW Unit)(left:Lit->Bool)(ss:List St3):Prop:=ss.Nodup/\ ∀x,x∈ss↔(wfS x/\has D (stK x)=true/\left (stK x)=false)
theorem Coll13.start (D:DataW Unit):Coll13 D (has D) []:=⟨List.nodup_nil,fun x=>by cases has D (stK x)<;>simp⟩
theorem Coll13.step {D:DataW Unit}{left:Lit->Bool}{ss:List St3}(h:Coll13 D left ss){x:St3}(hx:wfS x){y:DataW Unit}(hlk:left (stK x)=true)(hat: ∀zd,D.atKey (stK x) zd=y):Coll13 D (fun z=>left z &&!z.sameKey (stK x)) (ss++[x]):=by
 have hhas:has D (stK x)=true:=Go.Maps.has_true_of_atKey hat
 have hnew:x∉ss:=fun hm=>by have:=((h.2 x).1 hm).2.2;rw[hlk]at this;cases this
 refine⟨List.nodup_append.2 ⟨h.1,by simp,fun a ha b hb=>by simp at hb;subst hb;exact fun e=>hnew (e▸ha)⟩,fun y=>?_⟩;rw[List.mem_append,List.mem_singleton,h.2 y]
 constructor
 ·rintro(⟨h1,h2,h3⟩|rfl)
  ·exact⟨h1,h2,by show(left (stK y) &&!(stK y).sameKey (stK x))=false;rw[h3];rfl⟩
  ·exact⟨hx,hhas,by show(left (stK y) &&!(stK y).sameKey (stK y))=false;rw[stK_same hx hx,(qaI _ _).2 rfl];simp⟩
 ·rintro⟨h1,h2,h3⟩
  by_cases e:y=x
  ·exact .inr e
  ·refine .inl ⟨h1,h2,?_⟩
   have e2:eqS y x=false:=by
    cases h4:eqS y x with
    |false=>rfl
    |true=>exact absurd ((qaI _ _).1 h4) e
   have h4:(left (stK y) &&!(stK y).sameKey (stK x))=false:=h3;rw[stK_same h1 hx,e2]at h4
   simpa using h4
def encT (x:St3):Array Value:=#[.agg (stA13 x)]
theorem stA_inj {a b:St3}(h:Value.agg (stA13 a)=Value.agg (stA13 b)):a=b:=by
 obtain⟨a1,a2⟩:=a;obtain⟨b1,b2⟩:=b;unfold stA13 at h;simp at h;obtain⟨rfl,rfl⟩:=h
 rfl
theorem otkeys_stops (n:Nat)(hn1:1<=n)(Bm b nn:Nat)(D:DataW Unit)(w:World)(hm:Has w Bm 143 #[.map (some b)])(hown:w.ownsMap Tryz.prog 30 (plainElem Tryz.prog 4) b nn D):
  SeqStopsK Fence.wide n Tryz.prog 169 #[.pointer (some ⟨Bm,0,none⟩)] encT KeepsWalks (fun ss=>ss.Nodup/\ ∀x,x∈ss↔(wfS x/\has D (stK x)=true)) (fun _=>True) (Go.Maps.size D) w:=fun l J Jx W hW hJ hJx hY h0=>by
 refine callsIn_of_wp Tryz.func169 rfl trivial ?_ rfl;simp only[Tryz.ntmps169,List.size_toArray,List.length_cons,List.length_nil,Nat.reduceAdd,Nat.reduceSub,Array.replicate_succ,Array.replicate_zero,List.push_toArray,List.append_toArray,List.nil_append,List.cons_append];have hmW:=hm.u hW;have c0:W.cell? ⟨Bm,0,none⟩=some (.map (some b)):=hmW.cell 0;have hownW:W.ownsMap Tryz.prog 30 (plainElem Tryz.prog 4) b nn D:=hown.kept (qaL hW (Nat.le_refl _) none) (by simp);clear hm hown hmW
 gi_wp2_with (first
  |(gi_at_range;refine wpListIn_range_own _ rfl _ 143 rfl 30 4 qdc Tryz.underlying143 _ b nn _ rfl hownW ?_;intro w0 hrg0 hg0 hs0)
  |gi_in)
 go_frame
 gi_loopw [3] (fun _ wr=> ∃(left:Lit->Bool) (cnt:Nat) (ss:List St3),wr.ranges Tryz.prog 30 (plainElem Tryz.prog 4) b W.heap.size nn D left cnt/\ss.length+cnt<=Go.Maps.size D/\Coll13 D left ss/\J ss wr)
  (fun _ wr=>wr.rangeLeft b W.heap.size)
 case atStart=>
  exact⟨_,_,[],hrg0,by simp,Coll13.start D,hJ [] W w0 none h0 hg0 (fun r e=>by cases e)⟩
 obtain⟨left,cnt,ss,hrg,hcs,hC,hJs⟩:=hrel
 gi_wp2_with (first
  |(gi_at_next;refine wpListIn_next_ranges _ rfl _ rfl 30 qdc (plainElem Tryz.prog 4) (fun x:St3=>Value.agg (stA13 x)) id (fun key kl hk=>by obtain⟨x,hx,_⟩:=qeV hk;exact⟨x,hx⟩) (fun v _ _=>⟨v,rfl⟩) b W.heap.size nn _ _ _ rfl hrg ?_ ?_)
  |gi_in)
 ·intro hc0 hl0
  gi_wp2
  go_end0
  exact⟨⟨_,rfl⟩,.inl ⟨ss,⟨hC.1,fun x=>by rw[hC.2 x,hl0];simp⟩,hJs⟩⟩
 ·intro x c kl yd yp w2 cnt2 hkey hlk hv hat hrg2 hlt hg2 hs2 hen
  obtain⟨x',ex,hwf,rfl⟩:=qeV hkey;obtain rfl:x=x':=stA_inj ex;have hJ2:J ss w2:=hJ ss wr w2 (some W.heap.size) hJs hg2 (fun r e=>by cases e;exact⟨Nat.le_refl _,hrg.iter_walk⟩);have hJ3:J ss (w2.alloc (.cells #[.int .i64 x.edge,.bool x.rev] 30)):=hJ ss w2 _ none hJ2 (World.grownBy_alloc w2 _ none) (fun r e=>by cases e);have hrg3:(w2.alloc (.cells #[.int .i64 x.edge,.bool x.rev] 30)).ranges Tryz.prog 30 (plainElem Tryz.prog 4) b W.heap.size nn D (fun z=>left z &&!z.sameKey (stK x)) cnt2:=hrg2.alloc _;obtain⟨fn,tmps,assign,body,hy,hR⟩:=hY ss x _ hJ3 (by omega);have hC2:=hC.step hwf hlk hat
  have HC2:=zq hC2;have HRG:=zq hrg;have HRG3:=zq hrg3;have HLT:=zq hlt;have HCS:=zq hcs;unfold encT stA13 at hy;unfold stA13 at hen;have hc0:(w2.alloc (.cells #[.int .i64 x.edge,.bool x.rev] 30)).cell? ⟨w2.heap.size,0,none⟩=some (.int .i64 x.edge):=(Has.made w2 _ #[.int .i64 x.edge,.bool x.rev]).cell 0;have hc1:(w2.alloc (.cells #[.int .i64 x.edge,.bool x.rev] 30)).cell? ⟨w2.heap.size,1,none⟩=some (.bool x.rev):=(Has.made w2 _ #[.int .i64 x.edge,.bool x.rev]).cell 1;clear hs2 hC2 hrg hrg3 hrg2 hlt hcs hC hkey ex hv hat hJs hJ2 hg2
  gi_wp2
  refine hR.mono ?_;rintro e W3 (⟨rfl,hJ4,hk4⟩|⟨rfl,hJx4⟩)
  ·gi_wp2
   have hrg4:=HRG3.out.of_walks hk4;go_roundw
   case rel=>exact⟨_,cnt2,ss++[x],hrg4,by have h1:=HCS.out;have h2:=HLT.out;simp;omega,HC2.out,hJ4⟩
   case measure=>rw[hrg4.left_eq,HRG.out.left_eq];exact HLT.out
  ·gi_wp2
   refine bodyPost_ret (results_none rfl _ _ _) rfl ?_;exact⟨⟨_,rfl⟩,.inr ⟨ss++[x],trivial,hJx4⟩⟩
theorem otkeys_any (mb:Option Nat)(w:World):
  Calls Tryz.prog 95 #[.map mb] w fun e w'=>e= .returned (.func (.func 169) #[] #[.pointer (some ⟨w.heap.size,0,none⟩)])/\w'=w.alloc (.cells #[.map mb] 143):=by
 go_enter Tryz.func95,Tryz.ntmps95;go_wp2;go_ret
 exact⟨rfl,rfl⟩
end
section
open Go.RowKit Go.Shelf
attribute [local go_sem] Oper.semAt_some
theorem wpIn_range13 {F:Fence}{n:Nat}{P:Program}{α:Type}{g:Operand}{ps:Array Tmp}{assign body:Code}{Q:Exit->Act->World->Prop}{a:Act}{w:World}
  (hro:F.round=none) (h1:1<=n) {gf:Nat} {lb:Array Value} (hg:a.eval g= .func (.func gf) #[] lb) (hFg:F.fn gf) (eg: ∀args w,(callFunc gf args).run P w= .ok (.enter gf args) w)
  {encs:α->Array Value} {S:List α->Prop} {N:Nat} {w0:World} (hseq:SeqStopsK F (n-1) P gf lb encs KeepsWalks S (fun _=>True) N w0)
  (hb0:Below w0.heap.size w0 w) (hps: ∀x,(encs x).size=ps.size)
  (I:List α->World->Prop) (hI:OwnFrom w.heap.size I) (h0:I [] w) (ob:α->Obj) (a₁:α->Nat->Act)
  (hassign: ∀(l:Nat) (x:α) (W:World) (K:Act->World->Prop),K (a₁ x W.heap.size) (W.alloc (ob x))->
   assign.wpIn (F.inRound l) (n-1-1) P (Exit.then K (fun _ _ _=>False)) {tmps:=(ps.zip (encs x)).foldl (fun t (p,v)=>t.setIfInBounds p v) a.tmps,defers:=[]} W)
  (hbody: ∀(l:Nat) (pre:List α) (x:α) (v:Nat) (W:World),I pre W->W.heap[v]?=some (ob x)->w.heap.size<=v->pre.length<N->body.wpIn (F.inRound l) (n-1-1) P (ownPostK KeepsWalks I (fun _ _ _=>False) (pre++[x]) W) (a₁ x v) W)
  (hdone: ∀(D:Nat) (xs:List α) (W:World),w.heap.size<=D->S xs->I xs W->W.heap[D]?=some (.deferred (some []))->Q .normal {a with defers:= {target:= .collected D,args:=#[]} ::a.defers} W):
  (Code.rangeFunc g ps assign body).wpIn F n P Q a w:=by
 refine wpIn_rangeFunc ?_;intro fn hfn;rw[hro];obtain⟨rec,hrec⟩: ∃rec:LoopState->Option Code->Loop,rec=fun st pe=> {state:=st,pending:=pe,fn,tmps:=a.tmps,params:=ps,assign,body,defers:=w.heap.size} :=⟨_,rfl⟩
 obtain⟨W1,hW1⟩:=geZ ((w.alloc (.deferred (some []))).alloc (.loop (rec .ready none)));have hL1:W1.heap[w.heap.size+1]?=some (.loop (rec .ready none)):=by
  rw[<-hW1];have:=World.alloc_heap_new (w.alloc (.deferred (some []))) (.loop (rec .ready none));rwa [World.size_alloc]at this
 have hK1:W1.heap[w.heap.size]?=some (.deferred (some [])):=by
  rw[<-hW1];exact(Below.heap_alloc _ _ _ (by simp)).trans (World.alloc_heap_new w _)
 have hI1:I [] W1:=by rw[<-hW1];exact hI.alloc _ (hI.alloc _ h0)
 have hb1:Below w0.heap.size w0 W1:=by
  rw[<-hW1];exact hb0.trans ((((Below.refl _ w).alloc (Nat.le_refl _) _).alloc (by simp) _).mono hb0.size)
 refine⟨w.heap.size+1,[{target:= .collected w.heap.size,args:=#[]}],W1, {target:= .fn (.func gf) lb,args:=#[.func (.yield (w.heap.size+1)) #[] #[]]},W1,gf,
  #[.func (.yield (w.heap.size + 1)) #[] #[]] ++ lb, W1, ?_, ?_, ?_, ?_, fun _ => h1, ?_⟩
 ·rw[<-hW1,hrec];exact run_enterLoop_outer _ _ _ _ _
 ·simp only[resolve,hg]
  simp[go_sem]
 ·intro f' hf';simp[Target.leads]at hf';subst hf';exact hFg
 ·simp[invoke,go_sem,eg]
 ·have hnw: ∀ {A B:World} {row:Option Nat},(∀r,row=some r->W1.heap.size<=r/\ ∃o:Obj,A.heap[r]?=some o/\o.isWalk=true)->(∀r,row=some r->w.heap.size<=r/\ ∃o:Obj,A.heap[r]?=some o/\o.isCells=false):=
   fun hr r e=>by obtain⟨hB,o,ho,hw⟩:=hr r e;exact⟨by rw[<-hW1]at hB;simp at hB;omega,o,ho,Obj.not_cells_of_walk hw⟩
  refine(hseq (w.heap.size+1)
   (fun pre W=>I pre W/\W.heap[w.heap.size+1]?=some (.loop (rec .ready none))/\W.heap[w.heap.size]?=some (.deferred (some [])))
   (fun _ _=>False)
   W1 hb1
   (fun s A B row hs hg' hr=>⟨hI s A B row hs.1 hg' (hnw (B:=B) hr),(grownBy_keeps hg' (fun r e=>(hr r e).2) hs.2.1 rfl).trans hs.2.1,(grownBy_keeps hg' (fun r e=>(hr r e).2) hs.2.2 rfl).trans hs.2.2⟩)
   (fun _ _ _ _ hs _ _=>hs)
   ?_ ⟨hI1,hL1,hK1⟩).mono ?_
  ·rintro pre x W ⟨hi,hl,hk⟩ hlen
   have hlt:w.heap.size+1<W.heap.size:=(Array.getElem?_eq_some_iff.1 hl).1;have hy:=run_yield (P:=P) (args:=encs x) hl (by rw[hrec];exact hps x);rw[hrec]at hy;obtain⟨WA,hWA⟩:=geZ (W.alloc (ob x));have hlA:WA.heap[w.heap.size+1]?=some (.loop (rec .ready none)):=by rw[<-hWA];exact(Below.heap_alloc _ _ _ hlt).trans hl
   have hkA:WA.heap[w.heap.size]?=some (.deferred (some [])):=by rw[<-hWA];exact(Below.heap_alloc _ _ _ (by omega)).trans hk
   have hiA:I pre WA:=by rw[<-hWA];exact hI.alloc _ hi
   have hvA:WA.heap[W.heap.size]?=some (ob x):=by rw[<-hWA];exact World.alloc_heap_new W _
   have hwA:KeepsWalks W WA:=by rw[<-hWA];exact KeepsWalks.alloc _ _
   have hltA:w.heap.size+1<WA.heap.size:=(Array.getElem?_eq_some_iff.1 hlA).1;refine⟨fn,_,assign,body,hy,roundIn_of_wpIn hfn (hassign _ x W _ ?_)⟩;rw[hWA];refine⟨_,run_beginRound hlA (by rw[hrec]),?_⟩;have hl2:(WA.putObj (w.heap.size+1) (.loop {rec .ready none with state:= .busy})).heap[w.heap.size+1]?=some (.loop {rec .ready none with state:= .busy}):=World.putObj_heap_same hltA;have hk2:(WA.putObj (w.heap.size+1) (.loop {rec .ready none with state:= .busy})).heap[w.heap.size]?=some (.deferred (some [])):=(World.putObj_heap_other (by omega)).trans hkA;have hv2:(WA.putObj (w.heap.size+1) (.loop {rec .ready none with state:= .busy})).heap[W.heap.size]?=some (ob x):=(World.putObj_heap_other (by omega)).trans hvA;have hw2:KeepsWalks WA (WA.putObj (w.heap.size+1) (.loop {rec .ready none with state:= .busy})):=KeepsWalks.putObj _ hlA rfl;refine wpIn_mono (hbody _ pre x W.heap.size _ (hI.putObj _ hiA (by omega) hlA rfl) hv2 (by omega) hlen) ?_;rintro e a3 W3 hp
   cases e with
   |normal=>
    obtain⟨hk3,hkp3,hi3⟩:=hp;have hl3:=hk3.same _ _ hl2 rfl;have hr:=run_endRound (P:=P) none hl3;rw[hrec]at hr hl3;refine⟨_,_,hr,.inl ⟨rfl,⟨hI.putObj _ hi3 (by omega) hl3 rfl,?_,(World.putObj_heap_other (by omega)).trans (hk3.same _ _ hk2 rfl)⟩,walksK_t (walksK_t hwA (walksK_t hw2 hkp3)) (KeepsWalks.putObj _ hl3 rfl)⟩⟩;rw[hrec];exact World.putObj_heap_same (Array.getElem?_eq_some_iff.1 hl3).1
   |ret=>exact hp.2.elim
   |exit id=>exact hp.2.elim
   |goto t=>exact hp.2.elim
   |panic ch=>exact hp.elim
   |outgrown=>exact hp.elim
  ·rintro e W2 ⟨⟨v,rfl⟩,(⟨xs,hS,hi,hl,hk⟩|⟨pre,_,h⟩)⟩
   ·exact⟨none,_,by have:=run_endLoop (P:=P) hl (by rw[hrec];simp);rw[hrec]at this;exact this,hdone _ xs _ (Nat.le_refl _) hS (hI.putObj _ hi (by omega) hl rfl) ((World.putObj_heap_other (by omega)).trans hk)⟩
   ·exact h.elim
theorem otappend_any (gf:Nat)(lb:Array Value)(S:List St3->Prop)(N:Nat)(hN:N<=1048576)(w:World)(eg: ∀args w,(callFunc gf args).run Tryz.prog w= .ok (.enter gf args) w)
  (hseq:SeqStopsK Fence.wide 3 Tryz.prog gf lb encT KeepsWalks S (fun _=>True) N w):
  Calls Tryz.prog 203 #[.slice none 0 0,.func (.func gf) #[] lb] w fun e w'=> ∃(v:Value) (ss:List St3),e= .returned v/\S ss/\Hid (w'.ownsRow w.heap.size 30 2 v ss.length (ss.flatMap stC))/\Below w.heap.size w w':=by
 refine(callsIn_wide (n:=4)).1 ?_;refine callsIn_of_wp_marks Tryz.func203 rfl trivial ?_ rfl;simp only[Tryz.ntmps203,List.size_toArray,List.length_cons,List.length_nil,Nat.reduceAdd,Nat.reduceSub,Array.replicate_succ,Array.replicate_zero,List.push_toArray,List.append_toArray,List.nil_append,List.cons_append];have HSEQ:=zq hseq;have HEG:=zq eg;clear hseq eg
 gi_wp2
 obtain⟨w3,hw3⟩:=geZ (w.alloc (.cells #[.slice none 0 0] 35));rw[hw3];have hs3:w3.heap.size=w.heap.size+1:=by rw[<-hw3];simp
 have hx3:Boxed w3 w.heap.size 35 (.slice none 0 0):=by rw[<-hw3];exact Boxed.new _ _ _
 have hb3:Below w.heap.size w w3:=by rw[<-hw3];exact bA
 clear hw3;refine wpIn_range13 rfl (by omega) (gf:=gf) (lb:=lb) rfl trivial HEG.out HSEQ.out hb3 (fun _=>rfl)
  (fun pre W=>(∃v,Boxed W w.heap.size 35 v/\W.ownsRow w.heap.size 30 2 v pre.length (pre.flatMap stC)/\True)/\Below w.heap.size w W)
  (OwnFrom.and (Own.from (holdsRow_own w.heap.size w.heap.size 35 30 2 List.length (fun pre=>pre.flatMap stC) (fun _ _=>True)) _) (ownFrom_below (Nat.le_refl _) (by omega)))
  ⟨⟨_,hx3,World.ownsRow_nil _ _ _ _,trivial⟩,hb3⟩
  (fun x=> .cells (stA13 x) 30)
  (fun x v=> {tmps:=#[.slice none 0 0,.func (.func gf) #[] lb,.pointer (some ⟨w.heap.size,0,none⟩),undef,.slice none 0 0,.pointer (some ⟨v,0,none⟩),.func (.func gf) #[] lb,.agg (stA13 x),undef,undef,undef,undef,undef],defers:=[]}) ?assign ?body ?done
 case assign=>
  intro l x W K hK;unfold encT;unfold stA13 at*
  gi_wp2
  exact hK
 case body=>
  rintro l pre x v W ⟨⟨u,hu,hrow,_⟩,hB⟩ hv hvw hlen;have hst:Has W v 30 (stA13 x):=hv;have c0:W.cell? ⟨v,0,none⟩=some (.int .i64 x.edge):=hst.cell 0;have c1:W.cell? ⟨v,1,none⟩=some (.bool x.rev):=hst.cell 1;have c2:=hu.cell;have HROW:=zq hrow;have HU:=zq hu;have HB:=zq hB;have HLEN:=zq hlen;have HAL:Hid (∀e r:Value,∀j y,[e,r][j]?=some y->(W.alloc (.cells #[e,r] 30)).cell? ((⟨W.heap.size,0,none⟩:Addr).add j)=some y):=zq fun e r j y hj=>by
   have h_:=(Has.made W 30 #[e,r]).cell j;rw[show((⟨W.heap.size,0,none⟩:Addr).add j)=⟨W.heap.size,j,none⟩ by simp[Addr.add];exact fun h=>h.symm,h_]
   simpa using hj
  obtain⟨i0,hi,hz0,hz1,hz2⟩:=info_parts qfj;have HNM:Hid (pre.length+1<=maxLen/\(pre.length+1)*16<=140737488355328/\w.heap.size<=(W.alloc (.cells #[Value.int .i64 x.edge,Value.bool x.rev] 30)).heap.size):=zq ⟨by unfold maxLen;omega,by omega,by have:=hB.size;simp;omega⟩;unfold stA13 at*;clear hst hv hrow hB hlen hu
  gi_wp2_with (first
   |(gi_at_builtin;refine wpListIn_append_own _ rfl _ _ 35 rfl w.heap.size 30 i0 (.agg #[.int .i64 0,.bool false]) 2 16 Tryz.underlying35 hi hz0 hz1 hz2 rfl (by decide) _ _ _ rfl (HROW.out.alloc _) ⟨W.heap.size,0,none⟩ 1 1 [.int .i64 x.edge,.bool x.rev] rfl rfl (HAL.out _ _) (by intro y hy;simp at hy;rcases hy with rfl|rfl<;>rfl) HNM.out.1 HNM.out.2.1 HNM.out.2.2 ?_;intro v' w4 hown' hg3 hnil3
     obtain⟨g',cap',rfl⟩:=ownsRow_succ hown';obtain⟨hb1,hb2,hb3',hb4,hb5⟩:=HU.out.appended (by decide) HROW.out HB.out.size (Nat.le_refl _) hown' hg3;have c5:=hb1.cell;have c6:=hb1.frozen;have HR:=zq (show _/\_/\_/\_ from⟨hb2,hb3',hb4,hb5⟩);clear hown' hg3 hnil3 hb1 hb2 hb3' hb4 hb5;go_frame)
   |gi_in)
  obtain⟨hb2,hb3',hb4,hb5⟩:=HR.out;exact⟨hb4,hb4.walks,⟨_,hb2,by rw[List.length_append,List.flatMap_append];exact hb3',trivial⟩,HB.out.trans hb5⟩
 case done=>
  rintro D ys W hD hys ⟨⟨u,hu,hrow,_⟩,hB⟩ hK;have c2:=hu.cell;have f2:=hu.frozen
  gi_wp2
  refine⟨by simp,.inl ⟨_,_,rfl,run_takeDeferred hK,?_⟩⟩;refine⟨_,results_tmp rfl _ _ _,u,ys,rfl,hys,zq (ownsRow_putObj hrow _ hK rfl),hB.trans (belowK_b (w:=w) (Nat.le_refl _) W D _ _ (by omega) hK rfl rfl)⟩
end
section
open Go.RowKit Go.Shelf
attribute [local go_sem] Oper.semAt_some
end
section
open Go.RowKit
open Go.Great
theorem qgi (t:Tp3)(a:TpA)(id:Int)(w:World)(ht:TopR w t a)(hl:qaJ t=true):
  Calls Tryz.prog 35 #[.agg (tpC t a),.int .i64 id] w fun e w'=> ∃A c,SlO stC 2 w' A (qbd t id).path.length c (qbd t id).path/\(∀ad,A=some ad->w.heap.size<=ad.block/\ad.block<w'.heap.size)/\(qbd t id).path.length<=c/\e= .returned (.tuple #[.agg (rtA (qbd t id) (.slice A (qbd t id).path.length c)),.bool (qaR t id).isSome])/\Below w.heap.size w w':=by
 have hn:t.routes.length<=1048576:=by have:=(qav hl).2.2.2.1;omega
 have hpl:=(qav hl).2.2.2.2;obtain⟨wa,hwa,hbwa,HWA,HBWA,h0,h1⟩:=bx2Z w 27 (tpC t a) 75 #[.int .i64 0,.slice none 0 0,.int .i64 0,.int .i64 0];have c3:wa.cell? ⟨w.heap.size,3,none⟩=some (.slice a.ar t.routes.length a.cr):=(h0).cell 3;have H:=zq (qdg t a id wa (ht.under hbwa) hn);have HT:=zq ht;have HP:=zq h0;have KP:=zH h0;have KZ:=zH h1;have KC:Hid (∀W,Below wa.heap.size wa W->W.cell? ⟨w.heap.size,3,none⟩=some (.slice a.ar t.routes.length a.cr)):=zq fun W hW=>(hW.cell (qag c3)).trans c3;have HSZ:Hid (wa.heap.size=w.heap.size+2):=zq (by rw[<-hwa];simp);have hfi:=qe5 (fun r:Rt3=>r.id==id) t.routes;generalize hR:idxL (fun r:Rt3=>r.id==id) t.routes=R at*;clear hwa hbwa h0 h1 ht hR
 rcases hfi with⟨rfl,hf⟩|⟨j,x,hx,rfl,hf⟩
 ·have HF:=zq (show qaR t id=none from hf)
  clear hf;go_enter Tryz.func35,Tryz.ntmps35;go_upto_region 1 with fail;rw[HWA.out];clear HWA c3;go_wp2_with (with_reducible refine ldZ 8 HP.out ?_);refine H.out.mono ?_;rintro e w1 ⟨rfl,hb1⟩;have HZ1:=zq (KZ.out w1 hb1);have HB1:=tB HBWA hb1;clear hb1 HBWA H HP KP KZ KC;have HR:=zq (qab HZ1.out #[.int .i64 0,.slice none 0 0,.int .i64 0,.int .i64 0]);have HBF:=zq (qac (g:=w.heap.size+1) HB1.out (by omega) #[.int .i64 0,.slice none 0 0,.int .i64 0,.int .i64 0]);go_wp2_with (with_reducible refine stZ #[.int .i64 0,.slice none 0 0,.int .i64 0,.int .i64 0] HZ1.out ?_);refine rtZ HR.out ?_;have e1_:qbd t id=⟨0,[],0,0⟩:=by unfold qbd;rw[HF.out];rfl
  have e2_:(qaR t id).isSome=false:=by rw[HF.out];rfl
  rw[e1_,e2_];exact⟨none,0,SlO.nil _ _ _,(fun ad h=>by cases h),Nat.le_refl _,rfl,HBF.out⟩
 ·have HF:=zq (show qaR t id=some x from hf)
  have hjl:=(List.getElem?_eq_some_iff.1 hx).1;have hpx:=hpl x (List.mem_of_getElem? hx);clear hf hpl;go_enter Tryz.func35,Tryz.ntmps35;go_upto_region 1 with fail;rw[HWA.out];clear HWA c3;go_wp2_with (with_reducible refine ldZ 8 HP.out ?_);refine H.out.mono ?_;rintro e w1 ⟨rfl,hb1⟩;have HZ1:=zq (KZ.out w1 hb1);have HB1:=tB HBWA hb1;have c3:=KC.out w1 hb1;have s1:w.heap.size+2<=w1.heap.size:=by have:=hb1.size;have:=HSZ.out;omega
  obtain⟨bk,off,PA,pc,hab,hpa,d0,d1,d2,d3⟩:=(HT.out.under HB1.out).r.at_ hx;have HPA:=zq hpa;clear hpa;rw[hab]at c3;have y0:(0:Int)<=j:=by omega
  have y1:(j:Int)<t.routes.length:=by omega
  have y2: ¬(j:Int)<0:=by omega
  clear hb1 HBWA H HP KP KZ KC hx hab HSZ;generalize t.routes.length=m at*;have HPL:=zq hpx;clear hpx;go_upto_region 5 with fail;obtain⟨w2,hw2⟩:=geZ (w1.alloc (.cells #[.int .i64 x.id,.slice PA x.path.length pc,.int .i64 x.gap,.int .i64 x.timer] 75));rw[hw2];have hb2:Below w1.heap.size w1 w2:=by rw[<-hw2];exact bA
  have hX:Has w2 w1.heap.size 75 #[.int .i64 x.id,.slice PA x.path.length pc,.int .i64 x.gap,.int .i64 x.timer]:=by rw[<-hw2];exact Has.made _ _ _
  have hZ2:=HZ1.out.u hb2;have HB2:=tB HB1 hb2;have e1:w2.cell? ⟨w1.heap.size,1,none⟩=some (.slice PA x.path.length pc):=hX.cell 1;have HC:=zq (oclones_any PA x.path.length pc (x.path.flatMap stC) w2 ((HPA.out.under hb2).2) (stc_one13 _) (by have:=HPL.out;omega));have HX:=zq hX;have HZ2:=zq hZ2;clear hw2 hb2 hX hZ2 d0 d1 d2 d3 c3;go_wp2_with fail;refine HC.out.mono ?_;rintro e w3 ⟨A2,c2,rfl,HO,hb3⟩;have HB3:=zq (HB2.out.trans (hb3.out.mono HB2.out.size));have hX3:=HX.out.under hb3.out HX.out.lt;have hZ3:=HZ2.out.under hb3.out HZ2.out.lt;have g1:=hX3.thaw 1;have e1':w3.cell? ⟨w1.heap.size,1,none⟩=some (.slice PA x.path.length pc):=hX3.cell 1;have HX3:=zq hX3;have HZ3:=zq hZ3;clear e1 hX3 hZ3 hb3 HX HZ2 HC;go_upto_region 6 with fail;obtain⟨w4,hw4⟩:=geZ (w3.setCell ⟨w1.heap.size,1,none⟩ (.slice A2 x.path.length c2));rw[hw4];have hb4:Below w.heap.size w w4:=by rw[<-hw4];exact HB3.out.setCell (p:=⟨w1.heap.size,1,none⟩) (by show w.heap.size<=w1.heap.size;omega) _
  have hX4:Has w4 w1.heap.size 75 #[.int .i64 x.id,.slice A2 x.path.length c2,.int .i64 x.gap,.int .i64 x.timer]:=by rw[<-hw4];exact(HX3.out.stored 1 _).is11 (by simp)
  have hZ4:Has w4 (w.heap.size+1) 75 #[.int .i64 0,.slice none 0 0,.int .i64 0,.int .i64 0]:=by rw[<-hw4];exact HZ3.out.apart (show w.heap.size+1≠w1.heap.size by omega) _
  have HO4:Hid (w4.ownsRow w2.heap.size 30 2 (.slice A2 x.path.length c2) x.path.length (x.path.flatMap stC)):=zq (by rw[<-hw4];exact qeg HO.out (qb9 (qbB _ _) rfl _) (qa0 HO.out HX3.out (by decide)));have HX4:=zq hX4;have HZ4:=zq hZ4;have HB4:=zq hb4;clear hw4 hb4 hX4 hZ4 g1 e1' HX3 HZ3 HO;have HR:=zq (qab HZ4.out #[.int .i64 x.id,.slice A2 x.path.length c2,.int .i64 x.gap,.int .i64 x.timer]);have HBF:=zq (qac (g:=w.heap.size+1) HB4.out (by omega) #[.int .i64 x.id,.slice A2 x.path.length c2,.int .i64 x.gap,.int .i64 x.timer]);have HO5:=zq (qeg HO4.out (qaj w4 (w.heap.size+1) #[.int .i64 x.id,.slice A2 x.path.length c2,.int .i64 x.gap,.int .i64 x.timer]) (qa0 HO4.out HZ4.out (by decide)));go_wp2_with (first|(with_reducible refine ldZ 23 HX4.out ?_)|(with_reducible refine stZ #[.int .i64 x.id,.slice A2 x.path.length c2,.int .i64 x.gap,.int .i64 x.timer] HZ4.out ?_));refine rtZ HR.out ?_;have e1_:qbd t id=x:=by unfold qbd;rw[HF.out];rfl
  have e2_:(qaR t id).isSome=true:=by rw[HF.out];rfl
  rw[e1_,e2_];exact⟨A2,c2,⟨rfl,Sl.of_own HO5.out⟩,(fun ad h=>by
   subst h
   rcases HO5.out.2 with⟨e,_⟩|⟨g,cap,cur,e,hg,hbk,_⟩
   ·cases e
   ·injection e with e1 _ _
    injection e1 with e2
    have:=HB2.out.size;subst e2;exact⟨Nat.le_trans this hg,(Array.getElem?_eq_some_iff.1 hbk).1⟩),(by
   rcases HO5.out.2 with⟨e,e2⟩|⟨g,cap,cur,e,_,_,h2,_⟩
   ·omega
   ·injection e with _ _ e3
    omega),rfl,HBF.out⟩
theorem otp_routeF (t:Tp3)(a:TpA)(id:Int)(w:World)(ht:TopR w t a)(hl:qaJ t=true):
  Calls Tryz.prog 35 #[.agg (tpC t a),.int .i64 id] w fun e w'=> ∃A c,SlO stC 2 w' A (qbd t id).path.length c (qbd t id).path/\(∀ad,A=some ad->w.heap.size<=ad.block/\ad.block<w'.heap.size)/\e= .returned (.tuple #[.agg (rtA (qbd t id) (.slice A (qbd t id).path.length c)),.bool (qaR t id).isSome])/\Below w.heap.size w w':=(qgi t a id w ht hl).mono fun _ _ ⟨A,c,h1,h2,_,h3,h4⟩=>⟨A,c,h1,h2,h3,h4⟩
end
section
open Go.RowKit
open Go.Great
theorem otp_length_e (t:Tp3)(a:TpA)(path:List St3)(A:Option Addr)(n c:Nat)(w:World)(ht:TopR w t a)(hp:SlO stC 2 w A n c path)(hn:n<=1048576)(hl:qaJ t=true):Calls Tryz.prog 146 #[.agg (tpC t a),.slice A n c] w fun e w'=> ∃N:Int,e= .returned (.tuple #[.int .i64 N,.int .i64 (lenE t path)])/\Below w.heap.size w w':=by
 have hlg:=qav hl;obtain⟨wa,hwa,hbwa,HWA,HBWA,h0⟩:=bx1Z w 27 (tpC t a);have H0:=zH h0;have HT:=zq (fun W (hW:Below w.heap.size w W)=>ht.under hW);have HP:=zq (fun W (hW:Below w.heap.size w W)=>hp.under hW);have HBA:=zq (fun W (hW:Below wa.heap.size wa W)=>hbwa.trans (hW.mono hbwa.size));have HLN:=zq hp.1;have HL:=zq hlg.1;have HJ:=zq hlg.2.1;obtain⟨rE,hrE⟩: ∃r,lenE t path=r:=⟨_,rfl⟩
 have HRE:=zq hrE;rw[hrE];have HWI:=zq (fun W=>qbH n 1 40 W);obtain⟨b1,hb1⟩: ∃b,qaq n 1 40=b:=⟨_,rfl⟩
 rw[hb1]at HWI;have HB1:Hid (qaq n 1 40=b1):=zq hb1;have HEE:=zq (fun W (hW:Below w.heap.size w W)=>qfv t a path A n c W (hp.under hW) hn hlg.1);obtain⟨b2,hb2⟩: ∃b,(path.all fun s=>edgeB t s.edge)=b:=⟨_,rfl⟩
 rw[hb2]at HEE;have HB2:=zq hb2;have HNB:=zq hn;clear hwa hbwa h0 ht hp hrE hl hlg hb1 hb2 hn
 cases b1 with
 |false=>
  go_enter Tryz.func146,Tryz.ntmps146;go_upto_region 1 with fail;rw[HWA.out];clear HWA;go_wp2_with fail;refine(HWI.out _).mono ?_;rintro e w1 ⟨rfl,hw1⟩;rw[hw1];clear hw1;go_wp2;go_ret2
  have hE:lenE t path=1:=by unfold lenE;rw[if_pos (by have h_:=HB1.out;unfold qaq at h_;simp only[Bool.and_eq_false_iff,decide_eq_false_iff_not]at h_;have:=HLN.out;omega)]
  have e2_:rE=1:=by rw[<-HRE.out];exact hE
  subst e2_
  first|exact⟨_,rfl,HBWA.out⟩|exact⟨⟨_,rfl⟩,HBWA.out⟩
 |true=>
  cases b2 with
  |false=>
   go_enter Tryz.func146,Tryz.ntmps146;go_upto_region 1 with fail;rw[HWA.out];clear HWA;go_wp2_with fail;refine(HWI.out _).mono ?_;rintro e w1 ⟨rfl,hw1⟩;rw[hw1];clear hw1;go_wp2_with ((with_reducible refine qbx 15 ?_);refine qaB (o:=⟨some 15,_,_,_,_,_⟩) 27 _ rfl (by kernel_rfl) (w.heap.size) rfl 27 (tpC t a) (0,0) _ ((H0.out _ (Below.refl _ _))).raw11 Tryz.underlying27 rfl (by kernel_rfl) ?_);refine(HEE.out _ HBWA.out).mono ?_;rintro e w2 ⟨rfl,hbw2⟩;have HB3:=tB HBWA hbw2;clear hbw2;go_wp2;go_ret2
   have hE:lenE t path=1:=by unfold lenE;rw[if_neg (by have h_:=HB1.out;unfold qaq at h_;simp only[Bool.and_eq_true,decide_eq_true_eq]at h_;have:=HLN.out;omega),HB2.out];rfl
   have e2_:rE=1:=by rw[<-HRE.out];exact hE
   subst e2_
   first|exact⟨_,rfl,HB3.out⟩|exact⟨⟨_,rfl⟩,HB3.out⟩
  |true=>
   go_enter Tryz.func146,Tryz.ntmps146;go_upto_region 1 with fail;rw[HWA.out];clear HWA;go_wp2_with fail;refine(HWI.out _).mono ?_;rintro e w1 ⟨rfl,hw1⟩;rw[hw1];clear hw1;go_wp2_with ((with_reducible refine qbx 15 ?_);refine qaB (o:=⟨some 15,_,_,_,_,_⟩) 27 _ rfl (by kernel_rfl) (w.heap.size) rfl 27 (tpC t a) (0,0) _ ((H0.out _ (Below.refl _ _))).raw11 Tryz.underlying27 rfl (by kernel_rfl) ?_);refine(HEE.out _ HBWA.out).mono ?_;rintro e w2 ⟨rfl,hbw2⟩;have HBW:=zq hbw2;have HALL:Hid (∀s∈path,edgeB t s.edge=true):=zq (List.all_eq_true.1 HB2.out);have HNZ:Hid (1<=n/\n<=40):=zq (by have h_:=HB1.out;unfold qaq at h_;simp only[Bool.and_eq_true,decide_eq_true_eq]at h_;omega);have HWY:=zq (otway_any t a path A n c w2 (HT.out _ (HBA.out _ hbw2)) (HP.out _ (HBA.out _ hbw2)) HNB.out HNZ.out.1 HL.out HJ.out HALL.out);obtain⟨b3,hb3⟩: ∃b,wayB t path=b:=⟨_,rfl⟩
   rw[hb3]at HWY;have HB3:=zq hb3;clear hbw2 hb3;go_wp2_with (with_reducible refine ldZ 21 (H0.out _ HBW.out) ?_);refine HWY.out.mono ?_;rintro e w3 ⟨rfl,hbw3⟩;have HW3:=tB HBW hbw3;clear hbw3 HWY HBW
   cases b3 with
   |false=>
    go_wp2;go_ret2
    have hE:lenE t path=141:=by unfold lenE;rw[if_neg (by have h_:=HB1.out;unfold qaq at h_;simp only[Bool.and_eq_true,decide_eq_true_eq]at h_;have:=HLN.out;omega),HB2.out,if_pos rfl,HB3.out];rfl
    have e2_:rE=141:=by rw[<-HRE.out];exact hE
    subst e2_
    first|exact⟨_,rfl,HBA.out _ HW3.out⟩|exact⟨⟨_,rfl⟩,HBA.out _ HW3.out⟩
   |true=>
    have HE0:Hid (lenE t path=0):=zq (by unfold lenE;rw[if_neg (by have h_:=HB1.out;unfold qaq at h_;simp only[Bool.and_eq_true,decide_eq_true_eq]at h_;have:=HLN.out;omega),HB2.out,if_pos rfl,HB3.out];rfl);clear HB1 HB2 HB3 HWI HEE;go_wp2;go_loopg [6,27] n (fun kk v6 v27 wl=> ∃i:Nat,i<=n/\n-i<=kk/\v27= .int .i64 i/\(∃sv:Int,v6= .int .i64 sv)/\Hid (Below wa.heap.size wa wl))
    case atStart=>exact⟨0,by omega,by omega,rfl,⟨0,rfl⟩,HW3⟩
    obtain⟨i,hi,hik,rfl,⟨sv,rfl⟩,HWR⟩:=hrel;by_cases hlt:i<n;rotate_left
    ·obtain rfl:i=n:=by omega
     have x1: ¬(i:Int)<i:=by omega
     have hti:path.take i=path:=List.take_of_length_le (by have:=HLN.out;omega);clear hti;go_wp2;go_ret2
     have e2_:rE=0:=HRE.out.symm.trans HE0.out;subst e2_
     first|exact⟨_,rfl,HBA.out _ HWR.out⟩|exact⟨⟨_,rfl⟩,HBA.out _ HWR.out⟩
    obtain⟨x,hx⟩:=glZ path (i) (by have:=HLN.out;omega);have HX:=zq hx;have hex:=HALL.out x (List.mem_of_getElem? hx);have hed:0<=x.edge/\x.edge<t.edges.length:=by have h_:=hex;unfold edgeB at h_;simpa using h_
    obtain⟨e,hee⟩: ∃e:Nat,x.edge=e:=⟨x.edge.toNat,by omega⟩
    have hel:e<t.edges.length:=by omega
    obtain⟨q,hq⟩:=geZ (t.edges.getD e 0);have HQ:=zq hq;have HHE:=zq hee;have HEL:=zq hel;obtain⟨bk,off,rfl,d0,d1⟩:=(HP.out _ (HBA.out _ HWR.out)).step hx;rw[hee]at d0;have y0:(0:Int)<=i:=by omega
    have y1:(i:Int)<n:=by omega
    have y2:(i:Int)<40:=by have:=HNZ.out;omega
    clear hx hex hed hee hel hq;go_upto_region 9 with fail;obtain⟨wb,hwb⟩:=geZ (wr.alloc (.cells #[.int .i64 (e:Nat),.bool x.rev] 30));rw[hwb];have hbb:Below wr.heap.size wr wb:=by rw[<-hwb];exact bA
    have hH:Has wb wr.heap.size 30 #[.int .i64 (e:Nat),.bool x.rev]:=by rw[<-hwb];exact Has.made _ _ _
    have HWB:=tB HWR hbb;have hc0:wb.cell? ⟨wr.heap.size,0,none⟩=some (.int .i64 (e:Nat)):=hH.cell 0;obtain⟨be,oe,hae,ce⟩:=(HT.out _ (HBA.out _ HWB.out)).e.edge HEL.out;have c0:=(H0.out _ HWB.out).cell 0;have c0':wb.cell? ⟨w.heap.size,0,none⟩=some (.slice (some ⟨be,oe,none⟩) t.edges.length a.ce):=by first|exact c0.trans (by rw[<-hae];rfl)|(rw[<-hae];exact c0)
    have z0:(0:Int)<=e:=by omega
    have z1:(e:Int)<t.edges.length:=by have:=HEL.out;omega
    rw[HQ.out]at ce;obtain⟨me,hme⟩: ∃m,t.edges.length=m:=⟨_,rfl⟩
    rw[hme]at c0' z1;clear hwb hbb hH c0 hme hae d0 d1;go_wp2;go_roundg (gk-1)
    case measure=>omega
    case rel=>
     refine⟨i+1,by omega,by omega,by go_num,⟨_,rfl⟩,HWB⟩
end
end Go.Proofs.YtahadmeilajdgaaGreatDoor
