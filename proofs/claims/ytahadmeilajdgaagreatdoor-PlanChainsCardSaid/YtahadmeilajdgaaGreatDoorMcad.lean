/-
  Our own text, joined.
-/
import Derived.Test.YtahadmeilajdgaaGreatDoorMcac
import Derived.BigQuiet
import Derived.IntWalk
import Derived.Test.YtahadmeilajdgaaGreatDoorMcaa
import Derived.Test.YtahadmeilajdgaaGreatDoorMcab
import Derived.RangeFuncNested
import Derived.RangeFuncBound
import Derived.RangeFuncCalls
import Derived.RangeFuncLeaves
import Derived.RangeFuncBox
import Derived.Sort.MapsRangeIn
import Derived.Shelf.Abstract
import Derived.Shelf.AbstractIn
import Derived.Shelf.RegionOpen
import Derived.OwnWalkIn
import Derived.TacticsInMore
import Derived.RegionIn
import Derived.LoopNIn
import Derived.LoopIn
import Derived.Deep.RegionWith
import Derived.Sort.Grow
import Derived.Test.YtahadmeilajdgaaGreatDoorRows
import Derived.KernelRfl
import Derived.Deep.DeepCutAuto
import Derived.StillTailTactics
import Derived.Below
import Derived.WalkKit
import Derived.ProofKit
import Derived.OpenShut
import Derived.Deep.Slices
import Derived.Lib.SmallJoins
import Derived.Laws.CopyOwn
import Derived.Deep.OwnRows
import Derived.Laws.BytesArg
import Derived.Lib.ConvBytes
import Derived.WalkSpells
import Derived.WalkLawsBesides
import Derived.Laws.BitsAllLaws
import Derived.Lib.Hide
import Derived.Deep.QuietTactic
import Derived.Deep.RegionLaw
import Derived.ChangeKeysEq
namespace Go.Proofs.YtahadmeilajdgaaGreatDoor
set_option maxRecDepth 100000
set_option maxHeartbeats 20000000
section
open Go.RowKit
open Go.Great
theorem otp_check (t:Tp3)(a:TpA)(w:World)(ht:TopR w t a)(hl:lightT t=true)(hcj:t.joints.length<=a.cj):Calls Tryz.prog 39 #[.agg (tpC t a)] w fun e w'=>e= .returned (.int .i64 (checkE t))/\Below w.heap.size w w':=by
 have hlg:=light_nums13 hl;obtain⟨wa,hwa,hbwa,HWA,HBWA,h0⟩:=bx1Z w 27 (tpC t a);have c0:wa.cell? ⟨w.heap.size,0,none⟩=some (.slice a.ae t.edges.length a.ce):=(h0).cell 0;have H0:=zH h0;have HT:=zq (fun W (hW:Below w.heap.size w W)=>ht.under hW);have HBA:=zq (fun W (hW:Below wa.heap.size wa W)=>hbwa.trans (hW.mono hbwa.size));have HLG:=zq hlg;have HLT:=zq hl;have HCJ:=zq hcj;obtain⟨V,hV⟩:=geZ (checkE t);rw[hV];have HV:=zq hV;obtain⟨lg,hlgb⟩: ∃b,longB t=b:=⟨_,rfl⟩
 have HLB:=zq hlgb;have HLO:=zq (otlong_any t a wa);rw[hlgb]at HLO;have heo:(t.edges.any fun x=>!withinB x 1 1000000)=!edgesOk t:=by
  unfold edgesOk;rw[List.all_eq_not_any_not,Bool.not_not]
  rfl
 have HCK:=zq (fun W (hW:Below wa.heap.size wa W)=>oct_ck (fun x=>!withinB x 1 1000000) t.edges a.ae t.edges.length a.ce W (ht.under (bu hbwa hW)).e (by omega) (zq fun x W2 _=>(otck_any x W2)));rw[heo]at HCK;obtain⟨ok,hok⟩: ∃b,edgesOk t=b:=⟨_,rfl⟩
 rw[hok]at HCK;have HOK:=zq hok;obtain⟨n1,hn1⟩: ∃n,t.joints.length=n:=⟨_,rfl⟩
 obtain⟨n2,hn2⟩: ∃n,t.bals.length=n:=⟨_,rfl⟩
 obtain⟨n3,hn3⟩: ∃n,t.routes.length=n:=⟨_,rfl⟩
 obtain⟨ne,hne⟩: ∃n,t.edges.length=n:=⟨_,rfl⟩
 have HN1:=zq hn1;have HN2:=zq hn2;have HN3:=zq hn3;have k1:n1<=100:=by rw[<-hn1];exact hlg.2.1
 have k2:n2<=100:=by rw[<-hn2];exact hlg.2.2.1
 have k3:n3<=100:=by rw[<-hn3];exact hlg.2.2.2.1
 have HC1:=zq (fun W (hW:Below wa.heap.size wa W)=>(show W.cell? ⟨w.heap.size,1,none⟩=some (.slice a.aj n1 a.cj)from by rw[<-hn1];exact(h0.u hW).cell 1));have HC2:=zq (fun W (hW:Below wa.heap.size wa W)=>(show W.cell? ⟨w.heap.size,2,none⟩=some (.slice a.ab n2 a.cb)from by rw[<-hn2];exact(h0.u hW).cell 2));have HC3:=zq (fun W (hW:Below wa.heap.size wa W)=>(show W.cell? ⟨w.heap.size,3,none⟩=some (.slice a.ar n3 a.cr)from by rw[<-hn3];exact(h0.u hW).cell 3));have HC0:=zq (fun W (hW:Below wa.heap.size wa W)=>(show W.cell? ⟨w.heap.size,0,none⟩=some (.slice a.ae ne a.ce)from by rw[<-hne];exact(h0.u hW).cell 0));rw[hne]at HCK;clear hwa hbwa h0 ht hl hcj hlg hV hlgb heo hok hn1 hn2 hn3 hne c0;go_enter Tryz.func39,Tryz.ntmps39;go_upto_region 1 with fail;rw[HWA.out];clear HWA;go_wp2_with (with_reducible refine ldZ 10 (H0.out wa (Below.refl _ _)) ?_);refine HLO.out.mono ?_;rintro e w1 ⟨rfl,hb1⟩;have HB1:=zq hb1;clear hb1 HLO
 cases lg with
 |true=>
  have HF:Hid (V=2):=zq (by rw[<-HV.out];unfold checkE;rw[if_pos HLB.out]);go_wp2;go_ret
  exact⟨by rw[HF.out];rfl,HBA.out _ HB1.out⟩
 |false=>
  have c0:=HC0.out w1 HB1.out;have HA:=zq (HCK.out w1 HB1.out);clear HCK;go_upto_region 3 with fail;go_wp2_with fail;refine HA.out.mono ?_;rintro e w2 ⟨rfl,hb2⟩;have HB2:=tB HB1 hb2;clear hb2 HA c0
  cases ok with
  |false=>
   have HF:Hid (V=1):=zq (by rw[<-HV.out];unfold checkE;rw[if_neg (by rw[HLB.out];decide),if_neg (by rw[HOK.out];decide)]);go_wp2;go_ret
   exact⟨by rw[HF.out];rfl,HBA.out _ HB2.out⟩
  |true=>
   have HR1:Hid ((if firstE (jointE t) n1=0 then(if firstE (balE t) n2=0 then firstE (routeAt t) n3 else firstE (balE t) n2)else firstE (jointE t) n1)=V):=zq (by rw[<-HV.out,<-HN1.out,<-HN2.out,<-HN3.out];unfold checkE;rw[if_neg (c:=longB t=true) (by rw[HLB.out];decide),if_pos HOK.out]);clear HV;have c1:=HC1.out _ HB2.out;go_upto_region 5 with fail;go_wp2;go_loopg [19] n1 (fun kk v wl=> ∃i:Nat,i<=n1/\n1-i<=kk/\v= .int .i64 i/\Hid (firstE (jointE t) i=0)/\Hid (Below wa.heap.size wa wl))
   case atStart=>exact⟨0,by omega,by omega,rfl,zq rfl,HB2⟩
   obtain⟨i,hi,hik,rfl,HF1,HWn1⟩:=hrel;clear c1;by_cases hlt:i<n1;rotate_left
   ·have x1: ¬(i:Int)<n1:=by omega
    obtain rfl:i=n1:=by omega
    have HR2:Hid ((if firstE (balE t) n2=0 then firstE (routeAt t) n3 else firstE (balE t) n2)=V):=zq (by have h_:=HR1.out;rw[if_pos HF1.out]at h_;exact h_);clear hi hik hlt x1;have c2:=HC2.out _ HWn1.out;go_upto_region 12 with fail;go_wp2;go_loopg [32] n2 (fun kk v wl=> ∃i:Nat,i<=n2/\n2-i<=kk/\v= .int .i64 i/\Hid (firstE (balE t) i=0)/\Hid (Below wa.heap.size wa wl))
    case atStart=>exact⟨0,by omega,by omega,rfl,zq rfl,HWn1⟩
    obtain⟨i,hi,hik,rfl,HF2,HWn2⟩:=hrel;clear c2;by_cases hlt:i<n2;rotate_left
    ·have x1: ¬(i:Int)<n2:=by omega
     obtain rfl:i=n2:=by omega
     have HR3:Hid (firstE (routeAt t) n3=V):=zq (by have h_:=HR2.out;rw[if_pos HF2.out]at h_;exact h_);clear hi hik hlt x1;have c3:=HC3.out _ HWn2.out;go_upto_region 19 with fail;go_wp2;go_loopg [45] n3 (fun kk v wl=> ∃i:Nat,i<=n3/\n3-i<=kk/\v= .int .i64 i/\Hid (firstE (routeAt t) i=0)/\Hid (Below wa.heap.size wa wl))
     case atStart=>exact⟨0,by omega,by omega,rfl,zq rfl,HWn2⟩
     obtain⟨i,hi,hik,rfl,HF3,HWn3⟩:=hrel;clear c3;by_cases hlt:i<n3;rotate_left
     ·have x1: ¬(i:Int)<n3:=by omega
      obtain rfl:i=n3:=by omega
      have HVV:Hid (V=0):=zq (by rw[<-HR3.out];exact HF3.out);go_wp2;go_ret
      exact⟨by rw[HVV.out];rfl,HBA.out _ HWn3.out⟩
     obtain⟨x,hx⟩: ∃x,t.routes[i]?=some x:=⟨_,List.getElem?_eq_getElem (by rw[HN3.out];exact hlt)⟩
     have HCA:=zq (otcr_any t a i x wr (HT.out _ (HBA.out _ HWn3.out)) HLT.out HOK.out hx);obtain⟨e,he⟩:=geZ (routeAt t i);rw[he]at HCA;have HE:=zq he;have y0:(0:Int)<=i:=by omega
     have y1:(i:Int)<n3:=by omega
     clear hx he;go_wp2_with (with_reducible refine ldZ 48 (H0.out wr HWn3.out) ?_);refine HCA.out.mono ?_;rintro e_ w5 ⟨rfl,hb5⟩;have HB5:=tB HWn3 hb5;clear hb5 HCA;by_cases hz:e=0;rotate_left
     ·have z1:(e==0)=false:=by simp[hz]
      have z2:(e !=0)=true:=by simp[hz]
      have HFF:Hid (V=e):=zq (by have hf_:=first_at hlt HF3.out (by rw[HE.out];exact hz);rw[HE.out]at hf_;rw[<-HR3.out];rw[hf_]);go_wp2;go_ret
      exact⟨by rw[HFF.out];rfl,HBA.out _ HB5.out⟩
     subst hz;have HFN:Hid (firstE (routeAt t) (i+1)=0):=zq (by show(if firstE (routeAt t) i=0 then routeAt t i else firstE (routeAt t) i)=0;rw[if_pos HF3.out];exact HE.out);go_wp2;go_roundg (gk-1)
     case measure=>omega
     case rel=>exact⟨i+1,by omega,by omega,by go_num,HFN,HB5⟩
    obtain⟨x,hx⟩: ∃x,t.bals[i]?=some x:=⟨_,List.getElem?_eq_getElem (by rw[HN2.out];exact hlt)⟩
    have HCA:=zq (otcb_any t a i x wr (HT.out _ (HBA.out _ HWn2.out)) HLG.out.1 HLG.out.2.2.1 hx);obtain⟨e,he⟩:=geZ (balE t i);rw[he]at HCA;have HE:=zq he;have y0:(0:Int)<=i:=by omega
    have y1:(i:Int)<n2:=by omega
    clear hx he;go_wp2_with (with_reducible refine ldZ 35 (H0.out wr HWn2.out) ?_);refine HCA.out.mono ?_;rintro e_ w5 ⟨rfl,hb5⟩;have HB5:=tB HWn2 hb5;clear hb5 HCA;by_cases hz:e=0;rotate_left
    ·have z1:(e==0)=false:=by simp[hz]
     have z2:(e !=0)=true:=by simp[hz]
     have HFF:Hid (V=e):=zq (by have hf_:=first_at hlt HF2.out (by rw[HE.out];exact hz);rw[HE.out]at hf_;rw[<-HR2.out];rw[hf_,if_neg hz]);go_wp2;go_ret
     exact⟨by rw[HFF.out];rfl,HBA.out _ HB5.out⟩
    subst hz;have HFN:Hid (firstE (balE t) (i+1)=0):=zq (by show(if firstE (balE t) i=0 then balE t i else firstE (balE t) i)=0;rw[if_pos HF2.out];exact HE.out);go_wp2;go_roundg (gk-1)
    case measure=>omega
    case rel=>exact⟨i+1,by omega,by omega,by go_num,HFN,HB5⟩
   obtain⟨x,hx⟩: ∃x,t.joints[i]?=some x:=⟨_,List.getElem?_eq_getElem (by rw[HN1.out];exact hlt)⟩
   have HCA:=zq (otcj_any t a i x wr (HT.out _ (HBA.out _ HWn1.out)) HLG.out.1 HLG.out.2.1 HCJ.out hx);obtain⟨e,he⟩:=geZ (jointE t i);rw[he]at HCA;have HE:=zq he;have y0:(0:Int)<=i:=by omega
   have y1:(i:Int)<n1:=by omega
   clear hx he;go_wp2_with (with_reducible refine ldZ 22 (H0.out wr HWn1.out) ?_);refine HCA.out.mono ?_;rintro e_ w5 ⟨rfl,hb5⟩;have HB5:=tB HWn1 hb5;clear hb5 HCA;by_cases hz:e=0;rotate_left
   ·have z1:(e==0)=false:=by simp[hz]
    have z2:(e !=0)=true:=by simp[hz]
    have HFF:Hid (V=e):=zq (by have hf_:=first_at hlt HF1.out (by rw[HE.out];exact hz);rw[HE.out]at hf_;rw[<-HR1.out];rw[hf_,if_neg hz]);go_wp2;go_ret
    exact⟨by rw[HFF.out];rfl,HBA.out _ HB5.out⟩
   subst hz;have HFN:Hid (firstE (jointE t) (i+1)=0):=zq (by show(if firstE (jointE t) i=0 then jointE t i else firstE (jointE t) i)=0;rw[if_pos HF1.out];exact HE.out);go_wp2;go_roundg (gk-1)
   case measure=>omega
   case rel=>exact⟨i+1,by omega,by omega,by go_num,HFN,HB5⟩
end
section
open Go.RowKit
open Go.Great
def distP (t:Tp3)(p:Ps3):Int:=if p.rev=true then edgeLen t p.edge-p.at_ else p.at_
def posP (t:Tp3)(s:St3)(n:Int):Ps3:=if s.rev=true then⟨s.edge,edgeLen t s.edge-n,true⟩else⟨s.edge,n,false⟩
theorem dist_ahead (t:Tp3)(p:Ps3):distP t p=edgeLen t p.edge-aheadP t p:=by
 obtain⟨e,a,r⟩:=p
 cases r
 ·show a=edgeLen t e-(edgeLen t e-a)
  omega
 ·rfl
theorem pos_dist (t:Tp3)(p:Ps3)(n:Int):posP t (stepP p) (distP t p+n)=movedP p n:=by
 obtain⟨e,a,r⟩:=p
 cases r
 ·rfl
 ·show(⟨e,edgeLen t e-(edgeLen t e-a+n),true⟩:Ps3)=⟨e,a-n,true⟩
  rw[show edgeLen t e-(edgeLen t e-a+n)=a-n by omega]
theorem dist_begin (t:Tp3)(s:St3):distP t (beginP t s)=0:=by
 obtain⟨e,r⟩:=s
 cases r
 ·rfl
 ·show edgeLen t e-edgeLen t e=0
  omega
theorem dist_ok {t:Tp3}(ht:edgesOk t=true){p:Ps3}(h:onB t p=true):0<=distP t p/\distP t p<=1000000:=by
 obtain⟨h1,h2,h3⟩:=on_iff.1 h;have h4:=lenAt_ok ht (s:=stepP p) h1;rw[lenAt_edge]at h4;have h5:edgeLen t (stepP p).edge=edgeLen t p.edge:=rfl;rw[h5]at h4;unfold distP;split<;>omega
theorem right_w (t:Tp3)(p:Ps3):rightP t p=(decide (checkE t=0) &&(withinB p.edge 0 ((t.edges.length:Int)-1) &&withinB p.at_ 0 (edgeLen t p.edge))):=by
 unfold rightP onB;rw[edgeB_within]
 rfl
theorem plwithin_any (n a b:Int)(w:World):
  Calls Tryz.prog 141 #[.int .i64 n,.int .i64 a,.int .i64 b] w fun e w'=>e= .returned (.bool (withinB n a b))/\w'=w:=by
 unfold withinB;by_cases h1:a<=n
 ·by_cases h2:n<=b
  ·rw[decide_eq_true h1,decide_eq_true h2]
   go_enter Tryz.func141,Tryz.ntmps141;go_wp2;go_ret
   exact⟨rfl,rfl⟩
  ·rw[decide_eq_true h1,decide_eq_false h2]
   go_enter Tryz.func141,Tryz.ntmps141;go_wp2;go_ret
   exact⟨rfl,rfl⟩
 ·rw[decide_eq_false h1,Bool.false_and]
  go_enter Tryz.func141,Tryz.ntmps141;go_wp2;go_ret
  exact⟨rfl,rfl⟩
theorem plwithin_b (n a b:Int)(w:World):Calls Tryz.prog 141 #[.int .i64 n,.int .i64 a,.int .i64 b] w fun e w'=>e= .returned (.bool (withinB n a b))/\Below w.heap.size w w':=
 (plwithin_any n a b w).mono fun _ _ ⟨h1,h2⟩=>⟨h1,by rw[h2];exact Below.refl _ _⟩
theorem plstep_any (p:Ps3)(w:World):
  Calls Tryz.prog 142 #[.agg (psA p)] w fun e w'=>e= .returned (.agg (stA13 (stepP p)))/\Below w.heap.size w w':=by
 obtain⟨wa,hwa,hbwa,HWA,HBWA,h0,h1⟩:=bx2Z w 51 (psA p) 30 #[.int .i64 0,.bool false];have c0:wa.cell? ⟨w.heap.size,0,none⟩=some (.int .i64 p.edge):=h0.cell 0;have c2:wa.cell? ⟨w.heap.size,2,none⟩=some (.bool p.rev):=h0.cell 2;have HZ:=zq h1;clear hwa hbwa h0 h1;obtain⟨n,k,r⟩:=p;unfold psA at*;unfold stepP stA13;dsimp only at*;have HR:=zq (has_row11 HZ.out #[.int .i64 n,.bool r]);have HBF:=zq (below_row (g:=w.heap.size+1) HBWA.out (by omega) #[.int .i64 n,.bool r]);go_enter Tryz.func142,Tryz.ntmps142;go_upto_region 1 with fail;rw[HWA.out];clear HWA HBWA;go_wp2_with (with_reducible refine stZ #[.int .i64 n,.bool r] HZ.out ?_);refine roZ HR.out ?_;exact⟨rfl,HBF.out⟩
theorem pldist_any (t:Tp3)(a:TpA)(p:Ps3)(w:World)(ht:TopR w t a)(hp:onB t p=true)(hok:edgesOk t=true):
  Calls Tryz.prog 143 #[.agg (tpC t a),.agg (psA p)] w fun e w'=>e= .returned (.int .i64 (distP t p))/\Below w.heap.size w w':=by
 have HP:=zq (on_iff.1 hp);have HA:=zq (dist_ok hok hp);obtain⟨wa,hwa,hbwa,HWA,HBWA,h0,h1⟩:=bx2Z w 27 (tpC t a) 51 (psA p);obtain⟨e,at_,rv⟩:=p;unfold psA at*;unfold distP at HA⊢;dsimp only at*;have c0:wa.cell? ⟨w.heap.size,0,none⟩=some (.slice a.ae t.edges.length a.ce):=h0.cell 0;have d0:wa.cell? ⟨w.heap.size+1,0,none⟩=some (.int .i64 e):=h1.cell 0;have d1:wa.cell? ⟨w.heap.size+1,1,none⟩=some (.int .i64 at_):=h1.cell 1;have d2:wa.cell? ⟨w.heap.size+1,2,none⟩=some (.bool rv):=h1.cell 2;have HE1:=zq (ht.e.under hbwa);clear hwa hbwa h0 h1 hp ht hok;have hpp:=HP.out.1;unfold edgeB at hpp;simp only[Bool.and_eq_true,decide_eq_true_eq]at hpp;obtain⟨hp1,hp2⟩:=hpp;obtain⟨k,rfl⟩: ∃k:Nat,e=k:=⟨e.toNat,by omega⟩
 obtain⟨be,oe,hae,ce⟩:=HE1.out.edge (show k<t.edges.length by omega);obtain⟨q,hq⟩:=geZ (t.edges.getD k 0);have hq2:edgeLen t k=q:=hq;rw[hq2]at HA⊢;rw[hq]at ce;rw[hae]at c0;obtain⟨n,hn⟩:=geZ (t.edges.length);rw[hn]at c0 hp2;clear hq hq2 hae hn HE1 HP
 cases rv with
 |false=>
  go_enter Tryz.func143,Tryz.ntmps143;go_upto_region 1 with fail;rw[HWA.out];clear HWA;go_wp2;go_ret
  exact⟨rfl,HBWA.out⟩
 |true=>
  have hwr1:IntKind.i64.wrap (q-at_)=q-at_:=by have h_:=HA.out;rw[if_pos rfl]at h_;rw[IntKind.wrap_i64];omega
  go_enter Tryz.func143,Tryz.ntmps143;go_upto_region 1 with fail;rw[HWA.out];clear HWA;go_wp2;go_quiet (fail);go_wp2;go_ret
  exact⟨by first|rfl|simp,by first|exact below_draws HBWA.out _|(rw[World.drewN_drewN];exact below_draws HBWA.out _)|exact HBWA.out⟩
theorem plpos_any (t:Tp3)(a:TpA)(s:St3)(n:Int)(w:World)(ht:TopR w t a)(hs:edgeB t s.edge=true)(hok:edgesOk t=true)(hn0:0<=n)(hn:n<=edgeLen t s.edge):
  Calls Tryz.prog 144 #[.agg (tpC t a),.agg (stA13 s),.int .i64 n] w fun e w'=>e= .returned (.agg (psA (posP t s n)))/\Below w.heap.size w w':=by
 have HQ:=zq (lenAt_ok hok hs);obtain⟨wa,hwa,hbwa,HWA,HBWA,h0,h1,h2⟩:=bx3Z w 27 (tpC t a) 30 (stA13 s) 51 #[.int .i64 0,.int .i64 0,.bool false];obtain⟨e,rv⟩:=s;unfold posP psA;dsimp only at*;have c0:wa.cell? ⟨w.heap.size,0,none⟩=some (.slice a.ae t.edges.length a.ce):=h0.cell 0;have d0:wa.cell? ⟨w.heap.size+1,0,none⟩=some (.int .i64 e):=h1.cell 0;have d1:wa.cell? ⟨w.heap.size+1,1,none⟩=some (.bool rv):=h1.cell 1;have HZ:=zq h2;have HE1:=zq (ht.e.under hbwa);clear hwa hbwa h0 h1 h2 ht hok;unfold edgeB at hs;simp only[Bool.and_eq_true,decide_eq_true_eq]at hs;obtain⟨hp1,hp2⟩:=hs;obtain⟨k,rfl⟩: ∃k:Nat,e=k:=⟨e.toNat,by omega⟩
 obtain⟨be,oe,hae,ce⟩:=HE1.out.edge (show k<t.edges.length by omega);obtain⟨q,hq⟩:=geZ (t.edges.getD k 0);have hq2:edgeLen t k=q:=hq;rw[lenAt_edge]at HQ;dsimp only at HQ hn;rw[hq2]at HQ hn⊢;rw[hq]at ce;rw[hae]at c0;obtain⟨m,hm⟩: ∃n,t.edges.length=n:=⟨_,rfl⟩
 rw[hm]at c0 hp2;have hwr1:IntKind.i64.wrap (q-n)=q-n:=by have h_:=HQ.out;rw[IntKind.wrap_i64];omega
 clear hq hq2 hae hm HE1 HQ hn hn0
 cases rv with
 |false=>
  have HR:=zq (has_row11 HZ.out #[.int .i64 (k:Int),.int .i64 n,.bool false]);have HBF:=zq (below_row (g:=w.heap.size+1+1) HBWA.out (by omega) #[.int .i64 (k:Int),.int .i64 n,.bool false]);go_enter Tryz.func144,Tryz.ntmps144;go_upto_region 1 with fail;rw[HWA.out];clear HWA HBWA;go_wp2_with (with_reducible refine stZ #[.int .i64 (k:Int),.int .i64 n,.bool false] HZ.out ?_);refine roZ HR.out ?_;exact⟨rfl,HBF.out⟩
 |true=>
  have HR:=zq (has_row11 HZ.out #[.int .i64 (k:Int),.int .i64 (q-n),.bool true]);have HBF:=zq (below_row (g:=w.heap.size+1+1) HBWA.out (by omega) #[.int .i64 (k:Int),.int .i64 (q-n),.bool true]);go_enter Tryz.func144,Tryz.ntmps144;go_upto_region 1 with fail;rw[HWA.out];clear HWA HBWA;go_wp2_with (with_reducible refine stZ #[.int .i64 (k:Int),.int .i64 (q-n),.bool true] HZ.out ?_);refine roZ HR.out ?_;exact⟨rfl,HBF.out⟩
theorem opl_right (t:Tp3)(a:TpA)(p:Ps3)(w:World)(ht:TopR w t a)(hlt:lightT t=true)(hcj:t.joints.length<=a.cj):
  Calls Tryz.prog 140 #[.agg (tpC t a),.agg (psA p)] w fun e w'=>e= .returned (.bool (rightP t p))/\Below w.heap.size w w':=by
 obtain⟨cE,hcE⟩: ∃e,checkE t=e:=⟨_,rfl⟩
 have HNN:=zq (light_nums13 hlt);have HCK:=zq (fun W (hW:Below w.heap.size w W)=>otp_check t a W (ht.under hW) hlt hcj);rw[hcE]at HCK;obtain⟨wa,hwa,hbwa,HWA,HBWA,h0,h1⟩:=bx2Z w 27 (tpC t a) 51 (psA p);have HT:=zq ht;have HW1:=zq (fun W=>plwithin_b p.edge 0 ((t.edges.length:Int)-1) W);have HW2:=zq (fun W=>plwithin_b p.at_ 0 (edgeLen t p.edge) W);have HR:Hid (rightP t p=(decide (cE=0) &&(withinB p.edge 0 ((t.edges.length:Int)-1) &&withinB p.at_ 0 (edgeLen t p.edge)))):=zq (by rw[right_w,hcE]);obtain⟨q,hq⟩: ∃x,edgeLen t p.edge=x:=⟨_,rfl⟩
 have HBX:=zq (show withinB p.edge 0 ((t.edges.length:Int)-1)=true->0<=p.edge/\p.edge<t.edges.length from fun h=>by rw[<-edgeB_within]at h;unfold edgeB at h;simpa using h);obtain⟨b2,hb2⟩: ∃x,withinB p.edge 0 ((t.edges.length:Int)-1)=x:=⟨_,rfl⟩
 rw[hq]at HW2 HR;obtain⟨b3,hb3⟩: ∃x,withinB p.at_ 0 q=x:=⟨_,rfl⟩
 rw[hb2]at HW1 HR HBX;rw[hb3]at HW2 HR;have HQ:=zq hq;have HH0:=zq h0;have HH1:=zq h1;clear hwa hbwa h0 h1 ht hlt hcj hcE hb2 hb3 hq;obtain⟨pe,pa,pr⟩:=p;dsimp only at*;unfold psA at*;dsimp only at*;have hml:t.edges.length<=100:=HNN.out.1;obtain⟨m,hm⟩: ∃x,t.edges.length=x:=⟨_,rfl⟩
 rw[hm]at hml HW1;have hwr1:IntKind.i64.wrap ((m:Int)-1)=(m:Int)-1:=by rw[IntKind.wrap_i64];omega
 have HCE0:Hid (∀W,Has W (w.heap.size) 27 (tpC t a)->W.cell? ⟨w.heap.size,0,none⟩=some (.slice a.ae m a.ce)):=zq fun W hW=>by
  have c_:W.cell? ⟨w.heap.size,0,none⟩=some (.slice a.ae t.edges.length a.ce):=hW.cell 0;rw[hm]at c_;exact c_
 have HM:=zq hm;clear hm hml;by_cases z0:cE=0;rotate_left
 ·have g0:decide (cE=0)=false:=decide_eq_false z0
  have g1:(cE==0)=false:=by simp[z0]
  rw[g0]at HR;go_enter Tryz.func140,Tryz.ntmps140;go_upto_region 1 with fail;rw[HWA.out];clear HWA;refine wp_region_held_drew (S:=(fun W_=>Has W_ (w.heap.size+1) 51 #[.int .i64 pe,.int .i64 pa,.bool pr]/\Has W_ (w.heap.size) 27 (tpC t a)/\Below w.heap.size w W_)) (by kernel_rfl) ?_ (fun hHeld=>?_)
  ·exact⟨HH1.out.draw,HH0.out.draw,below_dr11 HBWA.out⟩
  refine tlZ 0 5 w.heap.size (tpC t a) (fun _ ⟨_,h_,_⟩=>h_) (h:=?_);simp only[lyZ];refine rdZ [1] ?_;refine acZ (some 6) (fun K hK=>?_) ?_
  ·go_simp
   obtain⟨s0,s1,s2⟩:=hHeld;refine(HCK.out _ s2).mono ?_;rintro e_ v1 ⟨rfl,hbs⟩;go_wp2_with fail;refine hK.out _ _ ?_ (fun hHeld=>?_)
   ·exact⟨s0.u hbs,s1.u hbs,bu s2 hbs⟩
   clear hK K s0 s1 s2
   try simp only[lyZ]
   refine tkZ 2 7 (h:=?_);simp only[lyZ];refine tkZ 3 8 (h:=?_);simp only[lyZ];refine skZ 4 9 (h:=?_);simp only[lyZ];refine skZ 5 10 (h:=?_);simp only[lyZ];refine skZ 6 11 (h:=?_);simp only[lyZ];refine skZ 7 12 (h:=?_);simp only[lyZ];refine skZ 8 13 (h:=?_);simp only[lyZ];refine skZ 9 14 (h:=?_);simp only[lyZ];refine skZ 10 15 (h:=?_);simp only[lyZ];refine tkZ 11 16 (h:=?_);simp only[lyZ];refine tkZ 12 17 (h:=?_);simp only[lyZ];refine skZ 13 18 (h:=?_);simp only[lyZ];refine skZ 14 19 (h:=?_);simp only[lyZ];refine skZ 15 20 (h:=?_);simp only[lyZ];refine skZ 16 21 (h:=?_);simp only[lyZ];refine skZ 17 22 (h:=?_);simp only[lyZ];refine skZ 18 23 (h:=?_);simp only[lyZ];refine skZ 19 24 (h:=?_);simp only[lyZ];refine skZ 20 25 (h:=?_);simp only[lyZ];refine skZ 21 26 (h:=?_);simp only[lyZ];refine tkZ 22 27 (h:=?_);simp only[lyZ];refine tkZ 23 4 (h:=?_);simp only[lyZ];refine dnZ ?_;have HE:=zq hHeld.2.2;clear hHeld;go_wp2;go_ret
   rw[HR.out];exact⟨by first|rfl|simp,HE.out⟩
  exact AllReadyH.nil
 subst z0;rw[show decide ((0:Int)=0)=true from rfl]at HR
 cases b2 with
 |false=>
  go_enter Tryz.func140,Tryz.ntmps140;go_upto_region 1 with fail;rw[HWA.out];clear HWA;refine wp_region_held_drew (S:=(fun W_=>Has W_ (w.heap.size+1) 51 #[.int .i64 pe,.int .i64 pa,.bool pr]/\Has W_ (w.heap.size) 27 (tpC t a)/\Below w.heap.size w W_)) (by kernel_rfl) ?_ (fun hHeld=>?_)
  ·exact⟨HH1.out.draw,HH0.out.draw,below_dr11 HBWA.out⟩
  refine tlZ 0 5 w.heap.size (tpC t a) (fun _ ⟨_,h_,_⟩=>h_) (h:=?_);simp only[lyZ];refine rdZ [1] ?_;refine acZ (some 6) (fun K hK=>?_) ?_
  ·go_simp
   obtain⟨s0,s1,s2⟩:=hHeld;refine(HCK.out _ s2).mono ?_;rintro e_ v1 ⟨rfl,hbs⟩;go_wp2_with fail;refine hK.out _ _ ?_ (fun hHeld=>?_)
   ·exact⟨s0.u hbs,s1.u hbs,bu s2 hbs⟩
   clear hK K s0 s1 s2
   try simp only[lyZ]
   refine tkZ 2 7 (h:=?_);simp only[lyZ];refine tkZ 3 8 (h:=?_);simp only[lyZ];refine tkZ 4 9 (h:=?_);simp only[lyZ];refine tqZ 5 10 (fun w_ hSw=>(show w_.cell? ⟨w.heap.size+1,0,none⟩=some (.int .i64 pe:Value)from hSw.1.cell 0)) (h:=?_);simp only[lyZ];refine tkZ 6 11 (h:=?_);simp only[lyZ];refine tqZ 7 12 (fun w_ hSw=>(show w_.cell? ⟨w.heap.size,0,none⟩=some (.slice a.ae m a.ce:Value)from HCE0.out w_ hSw.2.1)) (h:=?_);simp only[lyZ];refine tkZ 8 13 (h:=?_);simp only[lyZ];refine tkZ 9 14 (h:=?_);simp only[lyZ];refine rdZ [10] ?_;refine acZ (some 15) (fun K hK=>?_) ?_
   ·go_simp
    obtain⟨s0,s1,s2⟩:=hHeld;refine(HW1.out _).mono ?_;rintro e_ v2 ⟨rfl,hbs⟩;go_wp2_with fail;refine hK.out _ _ ?_ (fun hHeld=>?_)
    ·exact⟨s0.u hbs,s1.u hbs,bu s2 hbs⟩
    clear hK K s0 s1 s2
    try simp only[lyZ]
    refine tkZ 11 16 (h:=?_);simp only[lyZ];refine tkZ 12 17 (h:=?_);simp only[lyZ];refine skZ 13 18 (h:=?_);simp only[lyZ];refine skZ 14 19 (h:=?_);simp only[lyZ];refine skZ 15 20 (h:=?_);simp only[lyZ];refine skZ 16 21 (h:=?_);simp only[lyZ];refine skZ 17 22 (h:=?_);simp only[lyZ];refine skZ 18 23 (h:=?_);simp only[lyZ];refine skZ 19 24 (h:=?_);simp only[lyZ];refine skZ 20 25 (h:=?_);simp only[lyZ];refine skZ 21 26 (h:=?_);simp only[lyZ];refine tkZ 22 27 (h:=?_);simp only[lyZ];refine tkZ 23 4 (h:=?_);simp only[lyZ];refine dnZ ?_;have HE:=zq hHeld.2.2;clear hHeld;go_wp2;go_ret
    rw[HR.out];exact⟨by first|rfl|simp,HE.out⟩
   exact AllReadyH.nil
  exact AllReadyH.nil
 |true=>
  have hed:=HBX.out rfl;obtain⟨en,hen⟩: ∃e:Nat,pe=e:=⟨pe.toNat,by omega⟩
  have hel:en<t.edges.length:=by omega
  obtain⟨bke,oe,hae,ce⟩:=(HT.out.under HBWA.out).e.edge hel;have hqq:t.edges.getD en 0=q:=by rw[<-HQ.out,hen];rfl
  rw[hqq]at ce;have HCE2:Hid (∀W,Has W (w.heap.size) 27 (tpC t a)->W.cell? ⟨w.heap.size,0,none⟩=some (.slice (some ⟨bke,oe,none⟩) m a.ce)):=zq fun W hW=>by rw[<-hae];exact HCE0.out W hW
  have HCQ:Hid (∀W,Below w.heap.size w W->W.cell? ⟨bke,oe+en,none⟩=some (.int .i64 q)):=zq fun W hW=>by
   obtain⟨b_,o_,e_,h_⟩:=(HT.out.under hW).e.edge hel;rw[hae]at e_;injection e_ with e_
   injection e_ with e1_ e2_ _
   subst e1_ e2_;rw[hqq]at h_;exact h_
  have y2:(0:Int)<=en:=by omega
  have y3:(en:Int)<m:=by rw[<-HM.out];omega
  subst hen;clear hed hel hae ce hqq HCE0 HBX HQ HM;go_enter Tryz.func140,Tryz.ntmps140;go_upto_region 1 with fail;rw[HWA.out];clear HWA;refine wp_region_held_drew (S:=(fun W_=>Has W_ (w.heap.size+1) 51 #[.int .i64 (en:Nat),.int .i64 pa,.bool pr]/\Has W_ (w.heap.size) 27 (tpC t a)/\Below w.heap.size w W_)) (by kernel_rfl) ?_ (fun hHeld=>?_)
  ·exact⟨HH1.out.draw,HH0.out.draw,below_dr11 HBWA.out⟩
  refine tlZ 0 5 w.heap.size (tpC t a) (fun _ ⟨_,h_,_⟩=>h_) (h:=?_);simp only[lyZ];refine rdZ [1] ?_;refine acZ (some 6) (fun K hK=>?_) ?_
  ·go_simp
   obtain⟨s0,s1,s2⟩:=hHeld;refine(HCK.out _ s2).mono ?_;rintro e_ v1 ⟨rfl,hbs⟩;go_wp2_with fail;refine hK.out _ _ ?_ (fun hHeld=>?_)
   ·exact⟨s0.u hbs,s1.u hbs,bu s2 hbs⟩
   clear hK K s0 s1 s2
   try simp only[lyZ]
   refine tkZ 2 7 (h:=?_);simp only[lyZ];refine tkZ 3 8 (h:=?_);simp only[lyZ];refine tkZ 4 9 (h:=?_);simp only[lyZ];refine tqZ 5 10 (fun w_ hSw=>(show w_.cell? ⟨w.heap.size+1,0,none⟩=some (.int .i64 (en:Nat):Value)from hSw.1.cell 0)) (h:=?_);simp only[lyZ];refine tkZ 6 11 (h:=?_);simp only[lyZ];refine tqZ 7 12 (fun w_ hSw=>(show w_.cell? ⟨w.heap.size,0,none⟩=some (.slice (some ⟨bke,oe,none⟩) m a.ce:Value)from HCE2.out w_ hSw.2.1)) (h:=?_);simp only[lyZ];refine tkZ 8 13 (h:=?_);simp only[lyZ];refine tkZ 9 14 (h:=?_);simp only[lyZ];refine rdZ [10] ?_;refine acZ (some 15) (fun K hK=>?_) ?_
   ·go_simp
    obtain⟨s0,s1,s2⟩:=hHeld;refine(HW1.out _).mono ?_;rintro e_ v2 ⟨rfl,hbs⟩;go_wp2_with fail;refine hK.out _ _ ?_ (fun hHeld=>?_)
    ·exact⟨s0.u hbs,s1.u hbs,bu s2 hbs⟩
    clear hK K s0 s1 s2
    try simp only[lyZ]
    refine tkZ 11 16 (h:=?_);simp only[lyZ];refine tkZ 12 17 (h:=?_);simp only[lyZ];refine tkZ 13 18 (h:=?_);simp only[lyZ];refine tqZ 14 19 (fun w_ hSw=>(show w_.cell? ⟨w.heap.size+1,1,none⟩=some (.int .i64 pa:Value)from hSw.1.cell 1)) (h:=?_);simp only[lyZ];refine tkZ 15 20 (h:=?_);simp only[lyZ];refine tqZ 16 21 (fun w_ hSw=>(show w_.cell? ⟨w.heap.size,0,none⟩=some (.slice (some ⟨bke,oe,none⟩) m a.ce:Value)from HCE2.out w_ hSw.2.1)) (h:=?_);simp only[lyZ];refine tkZ 17 22 (h:=?_);simp only[lyZ];refine tqZ 18 23 (fun w_ hSw=>(show w_.cell? ⟨w.heap.size+1,0,none⟩=some (.int .i64 (en:Nat):Value)from hSw.1.cell 0)) (h:=?_);simp only[lyZ];refine tkZ 19 24 (h:=?_);simp only[lyZ];refine tqZ 20 25 (fun w_ hSw=>HCQ.out w_ hSw.2.2) (h:=?_);simp only[lyZ];refine rdZ [21] ?_;refine acZ (some 26) (fun K hK=>?_) ?_
    ·go_simp
     obtain⟨s0,s1,s2⟩:=hHeld;refine(HW2.out _).mono ?_;rintro e_ v3 ⟨rfl,hbs⟩;go_wp2_with fail;refine hK.out _ _ ?_ (fun hHeld=>?_)
     ·exact⟨s0.u hbs,s1.u hbs,bu s2 hbs⟩
     clear hK K s0 s1 s2
     try simp only[lyZ]
     refine tkZ 22 27 (h:=?_);simp only[lyZ];refine tkZ 23 4 (h:=?_);simp only[lyZ];refine dnZ ?_;have HE:=zq hHeld.2.2;clear hHeld;go_wp2;go_ret
     rw[HR.out];exact⟨by first|rfl|simp,HE.out⟩
    exact AllReadyH.nil
   exact AllReadyH.nil
  exact AllReadyH.nil
theorem oixs_any (l:List St3)(v:St3)(A:Option Addr)(n c:Nat)(w:World)(hs:SlO stC 2 w A n c l)(hbig:n<=1048576):
  Calls Tryz.prog 107 #[.slice A n c,.agg (stA13 v)] w fun e w'=>e= .returned (.int .i64 (idxL (eqS v) l))/\Below w.heap.size w w':=by
 obtain⟨wa,hwa,hbwa,HWA,HBWA,h0⟩:=bx1Z w 30 (stA13 v);have HN:Hid (l.length=n):=zq hs.1;have HW:=zq (hs.under hbwa);have c0:wa.cell? ⟨w.heap.size,0,none⟩=some (.int .i64 v.edge):=h0.cell 0;have c1:wa.cell? ⟨w.heap.size,1,none⟩=some (.bool v.rev):=h0.cell 1;have HQ:=zq (fun x W=>eq_st13 v x W);clear hs hwa hbwa h0;have x0:(0:Int)<=n:=by omega
 obtain⟨R,hR⟩:=geZ (idxL (eqS v) l);have HR:=zq hR;rw[hR];clear hR;unfold stA13 at*;go_enter Tryz.func107,Tryz.ntmps107;go_upto_region 1 with fail;rw[HWA.out];clear HWA;go_wp2;go_loopg [8] n (fun kk s8 wl=> ∃j q:Nat,j<=n/\n-j<=kk/\s8= .int .i64 j/\Hid (∀i x,i<j->l[i]?=some x->eqS v x=false)/\wl=wa.drewN q)
 case atStart=>exact⟨0,0,by omega,by omega,rfl,zq fun i x h=>absurd h (by omega),rfl⟩
 obtain⟨j,q,hj,hjk,rfl,HNO,rfl⟩:=hrel;by_cases hlt:j<n
 ·obtain⟨x,hx⟩:=glZ l (j) (by rw[HN.out];omega)
  obtain⟨bk,off,rfl,d0,d1⟩:=HW.out.step hx;have HX:=zq hx;have y0:(0:Int)<=j:=by omega
  have y1:(j:Int)<n:=by omega
  have q1:=HQ.out x;clear hx;generalize hb:eqS v x=b at*;have HBE:=zq hb;clear hb;go_upto_region 4 with fail
  cases b with
  |true=>
   have HF:Hid (R=j):=zq (by rw[<-HR.out];exact idx_hit HX.out HBE.out HNO.out);go_quiet (fail);go_wp2;go_ret
   exact⟨by rw[HF.out];rfl,by first|exact below_draws HBWA.out _|(rw[World.drewN_drewN];exact below_draws HBWA.out _)⟩
  |false=>
   have HN2:Hid (∀i y,i<j+1->l[i]?=some y->eqS v y=false):=zq fun i y hi hy=>by
    by_cases h:i=j
    ·subst h;rw[HX.out]at hy;cases hy;exact HBE.out
    ·exact HNO.out i y (by omega) hy
   go_quiet (fail);go_wp2;go_roundg (gk-1)
   case measure=>omega
   case rel=>exact⟨j+1,_,by omega,by omega,by go_num,HN2,by first|rfl|rw[World.drewN_drewN]⟩
 ·have y1: ¬(j:Int)<n:=by omega
  have HF:Hid (R= -1):=zq (by rw[<-HR.out];exact idx_miss fun i y hi hy=>HNO.out i y (by have:=HN.out;omega) hy);go_wp2;go_ret
  exact⟨by rw[HF.out];rfl,below_draws HBWA.out _⟩
end
section
open Go.RowKit Go.Shelf
open Go.Maps (has)
attribute [local go_sem] Oper.semAt_some
/-! What has come, and what is still to come. -/
def Coll13 (D:DataW Unit)(left:Lit->Bool)(ss:List St3):Prop:=ss.Nodup/\ ∀x,x∈ss↔(wfS x/\has D (stK x)=true/\left (stK x)=false)
theorem Coll13.start (D:DataW Unit):Coll13 D (has D) []:=⟨List.nodup_nil,fun x=>by cases has D (stK x)<;>simp⟩
theorem Coll13.step {D:DataW Unit}{left:Lit->Bool}{ss:List St3}(h:Coll13 D left ss){x:St3}(hx:wfS x){y:DataW Unit}(hlk:left (stK x)=true)(hat: ∀zd,D.atKey (stK x) zd=y):Coll13 D (fun z=>left z &&!z.sameKey (stK x)) (ss++[x]):=by
 have hhas:has D (stK x)=true:=Go.Maps.has_true_of_atKey hat
 have hnew:x∉ss:=fun hm=>by have:=((h.2 x).1 hm).2.2;rw[hlk]at this;cases this
 refine⟨List.nodup_append.2 ⟨h.1,by simp,fun a ha b hb=>by simp at hb;subst hb;exact fun e=>hnew (e▸ha)⟩,fun y=>?_⟩;rw[List.mem_append,List.mem_singleton,h.2 y]
 constructor
 ·rintro(⟨h1,h2,h3⟩|rfl)
  ·exact⟨h1,h2,by show(left (stK y) &&!(stK y).sameKey (stK x))=false;rw[h3];rfl⟩
  ·exact⟨hx,hhas,by show(left (stK y) &&!(stK y).sameKey (stK y))=false;rw[stK_same hx hx,(eqS_iff _ _).2 rfl];simp⟩
 ·rintro⟨h1,h2,h3⟩
  by_cases e:y=x
  ·exact .inr e
  ·refine .inl ⟨h1,h2,?_⟩
   have e2:eqS y x=false:=by
    cases h4:eqS y x with
    |false=>rfl
    |true=>exact absurd ((eqS_iff _ _).1 h4) e
   have h4:(left (stK y) &&!(stK y).sameKey (stK x))=false:=h3;rw[stK_same h1 hx,e2]at h4
   simpa using h4
def encT (x:St3):Array Value:=#[.agg (stA13 x)]
theorem stA_inj {a b:St3}(h:Value.agg (stA13 a)=Value.agg (stA13 b)):a=b:=by
 obtain⟨a1,a2⟩:=a;obtain⟨b1,b2⟩:=b;unfold stA13 at h;simp at h;obtain⟨rfl,rfl⟩:=h
 rfl
theorem otkeys_stops (n:Nat)(hn1:1<=n)(Bm b nn:Nat)(D:DataW Unit)(w:World)(hm:Has w Bm 143 #[.map (some b)])(hown:w.ownsMap Tryz.prog 30 (plainElem Tryz.prog 4) b nn D):
  SeqStopsK Fence.wide n Tryz.prog 169 #[.pointer (some ⟨Bm,0,none⟩)] encT KeepsWalks (fun ss=>ss.Nodup/\ ∀x,x∈ss↔(wfS x/\has D (stK x)=true)) (fun _=>True) (Go.Maps.size D) w:=fun l J Jx W hW hJ hJx hY h0=>by
 refine callsIn_of_wp Tryz.func169 rfl trivial ?_ rfl;simp only[Tryz.ntmps169,List.size_toArray,List.length_cons,List.length_nil,Nat.reduceAdd,Nat.reduceSub,Array.replicate_succ,Array.replicate_zero,List.push_toArray,List.append_toArray,List.nil_append,List.cons_append];have hmW:=hm.u hW;have c0:W.cell? ⟨Bm,0,none⟩=some (.map (some b)):=hmW.cell 0;have hownW:W.ownsMap Tryz.prog 30 (plainElem Tryz.prog 4) b nn D:=hown.kept (only_below hW (Nat.le_refl _) none) (by simp);clear hm hown hmW
 gi_wp2_with (first
  |(gi_at_range;refine wpListIn_range_own _ rfl _ 143 rfl 30 4 keyed13 Tryz.underlying143 _ b nn _ rfl hownW ?_;intro w0 hrg0 hg0 hs0)
  |gi_in)
 go_frame
 gi_loopw [3] (fun _ wr=> ∃(left:Lit->Bool) (cnt:Nat) (ss:List St3),wr.ranges Tryz.prog 30 (plainElem Tryz.prog 4) b W.heap.size nn D left cnt/\ss.length+cnt<=Go.Maps.size D/\Coll13 D left ss/\J ss wr)
  (fun _ wr=>wr.rangeLeft b W.heap.size)
 case atStart=>
  exact⟨_,_,[],hrg0,by simp,Coll13.start D,hJ [] W w0 none h0 hg0 (fun r e=>by cases e)⟩
 obtain⟨left,cnt,ss,hrg,hcs,hC,hJs⟩:=hrel
 gi_wp2_with (first
  |(gi_at_next;refine wpListIn_next_ranges _ rfl _ rfl 30 keyed13 (plainElem Tryz.prog 4) (fun x:St3=>Value.agg (stA13 x)) id (fun key kl hk=>by obtain⟨x,hx,_⟩:=keyOf_st_inv hk;exact⟨x,hx⟩) (fun v _ _=>⟨v,rfl⟩) b W.heap.size nn _ _ _ rfl hrg ?_ ?_)
  |gi_in)
 ·intro hc0 hl0
  gi_wp2
  go_end0
  exact⟨⟨_,rfl⟩,.inl ⟨ss,⟨hC.1,fun x=>by rw[hC.2 x,hl0];simp⟩,hJs⟩⟩
 ·intro x c kl yd yp w2 cnt2 hkey hlk hv hat hrg2 hlt hg2 hs2 hen
  obtain⟨x',ex,hwf,rfl⟩:=keyOf_st_inv hkey;obtain rfl:x=x':=stA_inj ex;have hJ2:J ss w2:=hJ ss wr w2 (some W.heap.size) hJs hg2 (fun r e=>by cases e;exact⟨Nat.le_refl _,hrg.iter_walk⟩);have hJ3:J ss (w2.alloc (.cells #[.int .i64 x.edge,.bool x.rev] 30)):=hJ ss w2 _ none hJ2 (World.grownBy_alloc w2 _ none) (fun r e=>by cases e);have hrg3:(w2.alloc (.cells #[.int .i64 x.edge,.bool x.rev] 30)).ranges Tryz.prog 30 (plainElem Tryz.prog 4) b W.heap.size nn D (fun z=>left z &&!z.sameKey (stK x)) cnt2:=hrg2.alloc _;obtain⟨fn,tmps,assign,body,hy,hR⟩:=hY ss x _ hJ3 (by omega);have hC2:=hC.step hwf hlk hat
  have HC2:=zq hC2;have HRG:=zq hrg;have HRG3:=zq hrg3;have HLT:=zq hlt;have HCS:=zq hcs;unfold encT stA13 at hy;unfold stA13 at hen;have hc0:(w2.alloc (.cells #[.int .i64 x.edge,.bool x.rev] 30)).cell? ⟨w2.heap.size,0,none⟩=some (.int .i64 x.edge):=(Has.made w2 _ #[.int .i64 x.edge,.bool x.rev]).cell 0;have hc1:(w2.alloc (.cells #[.int .i64 x.edge,.bool x.rev] 30)).cell? ⟨w2.heap.size,1,none⟩=some (.bool x.rev):=(Has.made w2 _ #[.int .i64 x.edge,.bool x.rev]).cell 1;clear hs2 hC2 hrg hrg3 hrg2 hlt hcs hC hkey ex hv hat hJs hJ2 hg2
  gi_wp2
  refine hR.mono ?_;rintro e W3 (⟨rfl,hJ4,hk4⟩|⟨rfl,hJx4⟩)
  ·gi_wp2
   have hrg4:=HRG3.out.of_walks hk4;go_roundw
   case rel=>exact⟨_,cnt2,ss++[x],hrg4,by have h1:=HCS.out;have h2:=HLT.out;simp;omega,HC2.out,hJ4⟩
   case measure=>rw[hrg4.left_eq,HRG.out.left_eq];exact HLT.out
  ·gi_wp2
   refine bodyPost_ret (results_none rfl _ _ _) rfl ?_;exact⟨⟨_,rfl⟩,.inr ⟨ss++[x],trivial,hJx4⟩⟩
theorem otkeys_any (mb:Option Nat)(w:World):
  Calls Tryz.prog 95 #[.map mb] w fun e w'=>e= .returned (.func (.func 169) #[] #[.pointer (some ⟨w.heap.size,0,none⟩)])/\w'=w.alloc (.cells #[.map mb] 143):=by
 go_enter Tryz.func95,Tryz.ntmps95;go_wp2;go_ret
 exact⟨rfl,rfl⟩
end
section
open Go.RowKit Go.Shelf
attribute [local go_sem] Oper.semAt_some
theorem wpIn_range13 {F:Fence}{n:Nat}{P:Program}{α:Type}{g:Operand}{ps:Array Tmp}{assign body:Code}{Q:Exit->Act->World->Prop}{a:Act}{w:World}
  (hro:F.round=none) (h1:1<=n) {gf:Nat} {lb:Array Value} (hg:a.eval g= .func (.func gf) #[] lb) (hFg:F.fn gf) (eg: ∀args w,(callFunc gf args).run P w= .ok (.enter gf args) w)
  {encs:α->Array Value} {S:List α->Prop} {N:Nat} {w0:World} (hseq:SeqStopsK F (n-1) P gf lb encs KeepsWalks S (fun _=>True) N w0)
  (hb0:Below w0.heap.size w0 w) (hps: ∀x,(encs x).size=ps.size)
  (I:List α->World->Prop) (hI:OwnFrom w.heap.size I) (h0:I [] w) (ob:α->Obj) (a₁:α->Nat->Act)
  (hassign: ∀(l:Nat) (x:α) (W:World) (K:Act->World->Prop),K (a₁ x W.heap.size) (W.alloc (ob x))->
   assign.wpIn (F.inRound l) (n-1-1) P (Exit.then K (fun _ _ _=>False)) {tmps:=(ps.zip (encs x)).foldl (fun t (p,v)=>t.setIfInBounds p v) a.tmps,defers:=[]} W)
  (hbody: ∀(l:Nat) (pre:List α) (x:α) (v:Nat) (W:World),I pre W->W.heap[v]?=some (ob x)->w.heap.size<=v->pre.length<N->body.wpIn (F.inRound l) (n-1-1) P (ownPostK KeepsWalks I (fun _ _ _=>False) (pre++[x]) W) (a₁ x v) W)
  (hdone: ∀(D:Nat) (xs:List α) (W:World),w.heap.size<=D->S xs->I xs W->W.heap[D]?=some (.deferred (some []))->Q .normal {a with defers:= {target:= .collected D,args:=#[]} ::a.defers} W):
  (Code.rangeFunc g ps assign body).wpIn F n P Q a w:=by
 refine wpIn_rangeFunc ?_;intro fn hfn;rw[hro];obtain⟨rec,hrec⟩: ∃rec:LoopState->Option Code->Loop,rec=fun st pe=> {state:=st,pending:=pe,fn,tmps:=a.tmps,params:=ps,assign,body,defers:=w.heap.size} :=⟨_,rfl⟩
 obtain⟨W1,hW1⟩:=geZ ((w.alloc (.deferred (some []))).alloc (.loop (rec .ready none)));have hL1:W1.heap[w.heap.size+1]?=some (.loop (rec .ready none)):=by
  rw[<-hW1];have:=World.alloc_heap_new (w.alloc (.deferred (some []))) (.loop (rec .ready none));rwa [World.size_alloc]at this
 have hK1:W1.heap[w.heap.size]?=some (.deferred (some [])):=by
  rw[<-hW1];exact(Below.heap_alloc _ _ _ (by simp)).trans (World.alloc_heap_new w _)
 have hI1:I [] W1:=by rw[<-hW1];exact hI.alloc _ (hI.alloc _ h0)
 have hb1:Below w0.heap.size w0 W1:=by
  rw[<-hW1];exact hb0.trans ((((Below.refl _ w).alloc (Nat.le_refl _) _).alloc (by simp) _).mono hb0.size)
 refine⟨w.heap.size+1,[{target:= .collected w.heap.size,args:=#[]}],W1, {target:= .fn (.func gf) lb,args:=#[.func (.yield (w.heap.size+1)) #[] #[]]},W1,gf,
  #[.func (.yield (w.heap.size + 1)) #[] #[]] ++ lb, W1, ?_, ?_, ?_, ?_, fun _ => h1, ?_⟩
 ·rw[<-hW1,hrec];exact run_enterLoop_outer _ _ _ _ _
 ·simp only[resolve,hg]
  simp[go_sem]
 ·intro f' hf';simp[Target.leads]at hf';subst hf';exact hFg
 ·simp[invoke,go_sem,eg]
 ·have hnw: ∀ {A B:World} {row:Option Nat},(∀r,row=some r->W1.heap.size<=r/\ ∃o:Obj,A.heap[r]?=some o/\o.isWalk=true)->(∀r,row=some r->w.heap.size<=r/\ ∃o:Obj,A.heap[r]?=some o/\o.isCells=false):=
   fun hr r e=>by obtain⟨hB,o,ho,hw⟩:=hr r e;exact⟨by rw[<-hW1]at hB;simp at hB;omega,o,ho,Obj.not_cells_of_walk hw⟩
  refine(hseq (w.heap.size+1)
   (fun pre W=>I pre W/\W.heap[w.heap.size+1]?=some (.loop (rec .ready none))/\W.heap[w.heap.size]?=some (.deferred (some [])))
   (fun _ _=>False)
   W1 hb1
   (fun s A B row hs hg' hr=>⟨hI s A B row hs.1 hg' (hnw (B:=B) hr),(grownBy_keeps hg' (fun r e=>(hr r e).2) hs.2.1 rfl).trans hs.2.1,(grownBy_keeps hg' (fun r e=>(hr r e).2) hs.2.2 rfl).trans hs.2.2⟩)
   (fun _ _ _ _ hs _ _=>hs)
   ?_ ⟨hI1,hL1,hK1⟩).mono ?_
  ·rintro pre x W ⟨hi,hl,hk⟩ hlen
   have hlt:w.heap.size+1<W.heap.size:=(Array.getElem?_eq_some_iff.1 hl).1;have hy:=run_yield (P:=P) (args:=encs x) hl (by rw[hrec];exact hps x);rw[hrec]at hy;obtain⟨WA,hWA⟩:=geZ (W.alloc (ob x));have hlA:WA.heap[w.heap.size+1]?=some (.loop (rec .ready none)):=by rw[<-hWA];exact(Below.heap_alloc _ _ _ hlt).trans hl
   have hkA:WA.heap[w.heap.size]?=some (.deferred (some [])):=by rw[<-hWA];exact(Below.heap_alloc _ _ _ (by omega)).trans hk
   have hiA:I pre WA:=by rw[<-hWA];exact hI.alloc _ hi
   have hvA:WA.heap[W.heap.size]?=some (ob x):=by rw[<-hWA];exact World.alloc_heap_new W _
   have hwA:KeepsWalks W WA:=by rw[<-hWA];exact KeepsWalks.alloc _ _
   have hltA:w.heap.size+1<WA.heap.size:=(Array.getElem?_eq_some_iff.1 hlA).1;refine⟨fn,_,assign,body,hy,roundIn_of_wpIn hfn (hassign _ x W _ ?_)⟩;rw[hWA];refine⟨_,run_beginRound hlA (by rw[hrec]),?_⟩;have hl2:(WA.putObj (w.heap.size+1) (.loop {rec .ready none with state:= .busy})).heap[w.heap.size+1]?=some (.loop {rec .ready none with state:= .busy}):=World.putObj_heap_same hltA;have hk2:(WA.putObj (w.heap.size+1) (.loop {rec .ready none with state:= .busy})).heap[w.heap.size]?=some (.deferred (some [])):=(World.putObj_heap_other (by omega)).trans hkA;have hv2:(WA.putObj (w.heap.size+1) (.loop {rec .ready none with state:= .busy})).heap[W.heap.size]?=some (ob x):=(World.putObj_heap_other (by omega)).trans hvA;have hw2:KeepsWalks WA (WA.putObj (w.heap.size+1) (.loop {rec .ready none with state:= .busy})):=KeepsWalks.putObj _ hlA rfl;refine wpIn_mono (hbody _ pre x W.heap.size _ (hI.putObj _ hiA (by omega) hlA rfl) hv2 (by omega) hlen) ?_;rintro e a3 W3 hp
   cases e with
   |normal=>
    obtain⟨hk3,hkp3,hi3⟩:=hp;have hl3:=hk3.same _ _ hl2 rfl;have hr:=run_endRound (P:=P) none hl3;rw[hrec]at hr hl3;refine⟨_,_,hr,.inl ⟨rfl,⟨hI.putObj _ hi3 (by omega) hl3 rfl,?_,(World.putObj_heap_other (by omega)).trans (hk3.same _ _ hk2 rfl)⟩,walksK_t (walksK_t hwA (walksK_t hw2 hkp3)) (KeepsWalks.putObj _ hl3 rfl)⟩⟩;rw[hrec];exact World.putObj_heap_same (Array.getElem?_eq_some_iff.1 hl3).1
   |ret=>exact hp.2.elim
   |exit id=>exact hp.2.elim
   |goto t=>exact hp.2.elim
   |panic ch=>exact hp.elim
   |outgrown=>exact hp.elim
  ·rintro e W2 ⟨⟨v,rfl⟩,(⟨xs,hS,hi,hl,hk⟩|⟨pre,_,h⟩)⟩
   ·exact⟨none,_,by have:=run_endLoop (P:=P) hl (by rw[hrec];simp);rw[hrec]at this;exact this,hdone _ xs _ (Nat.le_refl _) hS (hI.putObj _ hi (by omega) hl rfl) ((World.putObj_heap_other (by omega)).trans hk)⟩
   ·exact h.elim
theorem otappend_any (gf:Nat)(lb:Array Value)(S:List St3->Prop)(N:Nat)(hN:N<=1048576)(w:World)(eg: ∀args w,(callFunc gf args).run Tryz.prog w= .ok (.enter gf args) w)
  (hseq:SeqStopsK Fence.wide 3 Tryz.prog gf lb encT KeepsWalks S (fun _=>True) N w):
  Calls Tryz.prog 203 #[.slice none 0 0,.func (.func gf) #[] lb] w fun e w'=> ∃(v:Value) (ss:List St3),e= .returned v/\S ss/\Hid (w'.ownsRow w.heap.size 30 2 v ss.length (ss.flatMap stC))/\Below w.heap.size w w':=by
 refine(callsIn_wide (n:=4)).1 ?_;refine callsIn_of_wp_marks Tryz.func203 rfl trivial ?_ rfl;simp only[Tryz.ntmps203,List.size_toArray,List.length_cons,List.length_nil,Nat.reduceAdd,Nat.reduceSub,Array.replicate_succ,Array.replicate_zero,List.push_toArray,List.append_toArray,List.nil_append,List.cons_append];have HSEQ:=zq hseq;have HEG:=zq eg;clear hseq eg
 gi_wp2
 obtain⟨w3,hw3⟩:=geZ (w.alloc (.cells #[.slice none 0 0] 35));rw[hw3];have hs3:w3.heap.size=w.heap.size+1:=by rw[<-hw3];simp
 have hx3:Boxed w3 w.heap.size 35 (.slice none 0 0):=by rw[<-hw3];exact Boxed.new _ _ _
 have hb3:Below w.heap.size w w3:=by rw[<-hw3];exact bA
 clear hw3;refine wpIn_range13 rfl (by omega) (gf:=gf) (lb:=lb) rfl trivial HEG.out HSEQ.out hb3 (fun _=>rfl)
  (fun pre W=>(∃v,Boxed W w.heap.size 35 v/\W.ownsRow w.heap.size 30 2 v pre.length (pre.flatMap stC)/\True)/\Below w.heap.size w W)
  (OwnFrom.and (Own.from (holdsRow_own w.heap.size w.heap.size 35 30 2 List.length (fun pre=>pre.flatMap stC) (fun _ _=>True)) _) (ownFrom_below (Nat.le_refl _) (by omega)))
  ⟨⟨_,hx3,World.ownsRow_nil _ _ _ _,trivial⟩,hb3⟩
  (fun x=> .cells (stA13 x) 30)
  (fun x v=> {tmps:=#[.slice none 0 0,.func (.func gf) #[] lb,.pointer (some ⟨w.heap.size,0,none⟩),undef,.slice none 0 0,.pointer (some ⟨v,0,none⟩),.func (.func gf) #[] lb,.agg (stA13 x),undef,undef,undef,undef,undef],defers:=[]}) ?assign ?body ?done
 case assign=>
  intro l x W K hK;unfold encT;unfold stA13 at*
  gi_wp2
  exact hK
 case body=>
  rintro l pre x v W ⟨⟨u,hu,hrow,_⟩,hB⟩ hv hvw hlen;have hst:Has W v 30 (stA13 x):=hv;have c0:W.cell? ⟨v,0,none⟩=some (.int .i64 x.edge):=hst.cell 0;have c1:W.cell? ⟨v,1,none⟩=some (.bool x.rev):=hst.cell 1;have c2:=hu.cell;have HROW:=zq hrow;have HU:=zq hu;have HB:=zq hB;have HLEN:=zq hlen;have HAL:Hid (∀e r:Value,∀j y,[e,r][j]?=some y->(W.alloc (.cells #[e,r] 30)).cell? ((⟨W.heap.size,0,none⟩:Addr).add j)=some y):=zq fun e r j y hj=>by
   have h_:=(Has.made W 30 #[e,r]).cell j;rw[show((⟨W.heap.size,0,none⟩:Addr).add j)=⟨W.heap.size,j,none⟩ by simp[Addr.add];exact fun h=>h.symm,h_]
   simpa using hj
  obtain⟨i0,hi,hz0,hz1,hz2⟩:=info_parts info_step13;have HNM:Hid (pre.length+1<=maxLen/\(pre.length+1)*16<=140737488355328/\w.heap.size<=(W.alloc (.cells #[Value.int .i64 x.edge,Value.bool x.rev] 30)).heap.size):=zq ⟨by unfold maxLen;omega,by omega,by have:=hB.size;simp;omega⟩;unfold stA13 at*;clear hst hv hrow hB hlen hu
  gi_wp2_with (first
   |(gi_at_builtin;refine wpListIn_append_own _ rfl _ _ 35 rfl w.heap.size 30 i0 (.agg #[.int .i64 0,.bool false]) 2 16 Tryz.underlying35 hi hz0 hz1 hz2 rfl (by decide) _ _ _ rfl (HROW.out.alloc _) ⟨W.heap.size,0,none⟩ 1 1 [.int .i64 x.edge,.bool x.rev] rfl rfl (HAL.out _ _) (by intro y hy;simp at hy;rcases hy with rfl|rfl<;>rfl) HNM.out.1 HNM.out.2.1 HNM.out.2.2 ?_;intro v' w4 hown' hg3 hnil3
     obtain⟨g',cap',rfl⟩:=ownsRow_succ hown';obtain⟨hb1,hb2,hb3',hb4,hb5⟩:=HU.out.appended (by decide) HROW.out HB.out.size (Nat.le_refl _) hown' hg3;have c5:=hb1.cell;have c6:=hb1.frozen;have HR:=zq (show _/\_/\_/\_ from⟨hb2,hb3',hb4,hb5⟩);clear hown' hg3 hnil3 hb1 hb2 hb3' hb4 hb5;go_frame)
   |gi_in)
  obtain⟨hb2,hb3',hb4,hb5⟩:=HR.out;exact⟨hb4,hb4.walks,⟨_,hb2,by rw[List.length_append,List.flatMap_append];exact hb3',trivial⟩,HB.out.trans hb5⟩
 case done=>
  rintro D ys W hD hys ⟨⟨u,hu,hrow,_⟩,hB⟩ hK;have c2:=hu.cell;have f2:=hu.frozen
  gi_wp2
  refine⟨by simp,.inl ⟨_,_,rfl,run_takeDeferred hK,?_⟩⟩;refine⟨_,results_tmp rfl _ _ _,u,ys,rfl,hys,zq (ownsRow_putObj hrow _ hK rfl),hB.trans (belowK_b (w:=w) (Nat.le_refl _) W D _ _ (by omega) hK rfl rfl)⟩
end
section
open Go.RowKit Go.Shelf
attribute [local go_sem] Oper.semAt_some
end
section
open Go.RowKit
open Go.Great
theorem otp_routeC (t:Tp3)(a:TpA)(id:Int)(w:World)(ht:TopR w t a)(hl:lightT t=true):
  Calls Tryz.prog 35 #[.agg (tpC t a),.int .i64 id] w fun e w'=> ∃A c,SlO stC 2 w' A (routeR t id).path.length c (routeR t id).path/\(∀ad,A=some ad->w.heap.size<=ad.block/\ad.block<w'.heap.size)/\(routeR t id).path.length<=c/\e= .returned (.tuple #[.agg (rtA (routeR t id) (.slice A (routeR t id).path.length c)),.bool (routeF t id).isSome])/\Below w.heap.size w w':=by
 have hn:t.routes.length<=1048576:=by have:=(light_nums13 hl).2.2.2.1;omega
 have hpl:=(light_nums13 hl).2.2.2.2;obtain⟨wa,hwa,hbwa,HWA,HBWA,h0,h1⟩:=bx2Z w 27 (tpC t a) 75 #[.int .i64 0,.slice none 0 0,.int .i64 0,.int .i64 0];have c3:wa.cell? ⟨w.heap.size,3,none⟩=some (.slice a.ar t.routes.length a.cr):=(h0).cell 3;have H:=zq (otfindroute_any t a id wa (ht.under hbwa) hn);have HT:=zq ht;have HP:=zq h0;have KP:=zH h0;have KZ:=zH h1;have KC:Hid (∀W,Below wa.heap.size wa W->W.cell? ⟨w.heap.size,3,none⟩=some (.slice a.ar t.routes.length a.cr)):=zq fun W hW=>(hW.cell (cell_block c3)).trans c3;have HSZ:Hid (wa.heap.size=w.heap.size+2):=zq (by rw[<-hwa];simp);have hfi:=idx_find (fun r:Rt3=>r.id==id) t.routes;generalize hR:idxL (fun r:Rt3=>r.id==id) t.routes=R at*;clear hwa hbwa h0 h1 ht hR
 rcases hfi with⟨rfl,hf⟩|⟨j,x,hx,rfl,hf⟩
 ·have HF:=zq (show routeF t id=none from hf)
  clear hf;go_enter Tryz.func35,Tryz.ntmps35;go_upto_region 1 with fail;rw[HWA.out];clear HWA c3;go_wp2_with (with_reducible refine ldZ 8 HP.out ?_);refine H.out.mono ?_;rintro e w1 ⟨rfl,hb1⟩;have HZ1:=zq (KZ.out w1 hb1);have HB1:=tB HBWA hb1;clear hb1 HBWA H HP KP KZ KC;have HR:=zq (has_row11 HZ1.out #[.int .i64 0,.slice none 0 0,.int .i64 0,.int .i64 0]);have HBF:=zq (below_row (g:=w.heap.size+1) HB1.out (by omega) #[.int .i64 0,.slice none 0 0,.int .i64 0,.int .i64 0]);go_wp2_with (with_reducible refine stZ #[.int .i64 0,.slice none 0 0,.int .i64 0,.int .i64 0] HZ1.out ?_);refine rtZ HR.out ?_;have e1_:routeR t id=⟨0,[],0,0⟩:=by unfold routeR;rw[HF.out];rfl
  have e2_:(routeF t id).isSome=false:=by rw[HF.out];rfl
  rw[e1_,e2_];exact⟨none,0,SlO.nil _ _ _,(fun ad h=>by cases h),Nat.le_refl _,rfl,HBF.out⟩
 ·have HF:=zq (show routeF t id=some x from hf)
  have hjl:=(List.getElem?_eq_some_iff.1 hx).1;have hpx:=hpl x (List.mem_of_getElem? hx);clear hf hpl;go_enter Tryz.func35,Tryz.ntmps35;go_upto_region 1 with fail;rw[HWA.out];clear HWA c3;go_wp2_with (with_reducible refine ldZ 8 HP.out ?_);refine H.out.mono ?_;rintro e w1 ⟨rfl,hb1⟩;have HZ1:=zq (KZ.out w1 hb1);have HB1:=tB HBWA hb1;have c3:=KC.out w1 hb1;have s1:w.heap.size+2<=w1.heap.size:=by have:=hb1.size;have:=HSZ.out;omega
  obtain⟨bk,off,PA,pc,hab,hpa,d0,d1,d2,d3⟩:=(HT.out.under HB1.out).r.at_ hx;have HPA:=zq hpa;clear hpa;rw[hab]at c3;have y0:(0:Int)<=j:=by omega
  have y1:(j:Int)<t.routes.length:=by omega
  have y2: ¬(j:Int)<0:=by omega
  clear hb1 HBWA H HP KP KZ KC hx hab HSZ;generalize t.routes.length=m at*;have HPL:=zq hpx;clear hpx;go_upto_region 5 with fail;obtain⟨w2,hw2⟩:=geZ (w1.alloc (.cells #[.int .i64 x.id,.slice PA x.path.length pc,.int .i64 x.gap,.int .i64 x.timer] 75));rw[hw2];have hb2:Below w1.heap.size w1 w2:=by rw[<-hw2];exact bA
  have hX:Has w2 w1.heap.size 75 #[.int .i64 x.id,.slice PA x.path.length pc,.int .i64 x.gap,.int .i64 x.timer]:=by rw[<-hw2];exact Has.made _ _ _
  have hZ2:=HZ1.out.u hb2;have HB2:=tB HB1 hb2;have e1:w2.cell? ⟨w1.heap.size,1,none⟩=some (.slice PA x.path.length pc):=hX.cell 1;have HC:=zq (oclones_any PA x.path.length pc (x.path.flatMap stC) w2 ((HPA.out.under hb2).2) (stc_one13 _) (by have:=HPL.out;omega));have HX:=zq hX;have HZ2:=zq hZ2;clear hw2 hb2 hX hZ2 d0 d1 d2 d3 c3;go_wp2_with fail;refine HC.out.mono ?_;rintro e w3 ⟨A2,c2,rfl,HO,hb3⟩;have HB3:=zq (HB2.out.trans (hb3.out.mono HB2.out.size));have hX3:=HX.out.under hb3.out HX.out.lt;have hZ3:=HZ2.out.under hb3.out HZ2.out.lt;have g1:=hX3.thaw 1;have e1':w3.cell? ⟨w1.heap.size,1,none⟩=some (.slice PA x.path.length pc):=hX3.cell 1;have HX3:=zq hX3;have HZ3:=zq hZ3;clear e1 hX3 hZ3 hb3 HX HZ2 HC;go_upto_region 6 with fail;obtain⟨w4,hw4⟩:=geZ (w3.setCell ⟨w1.heap.size,1,none⟩ (.slice A2 x.path.length c2));rw[hw4];have hb4:Below w.heap.size w w4:=by rw[<-hw4];exact HB3.out.setCell (p:=⟨w1.heap.size,1,none⟩) (by show w.heap.size<=w1.heap.size;omega) _
  have hX4:Has w4 w1.heap.size 75 #[.int .i64 x.id,.slice A2 x.path.length c2,.int .i64 x.gap,.int .i64 x.timer]:=by rw[<-hw4];exact(HX3.out.stored 1 _).is11 (by simp)
  have hZ4:Has w4 (w.heap.size+1) 75 #[.int .i64 0,.slice none 0 0,.int .i64 0,.int .i64 0]:=by rw[<-hw4];exact HZ3.out.apart (show w.heap.size+1≠w1.heap.size by omega) _
  have HO4:Hid (w4.ownsRow w2.heap.size 30 2 (.slice A2 x.path.length c2) x.path.length (x.path.flatMap stC)):=zq (by rw[<-hw4];exact own_keep HO.out (only_store (only_refl _ _) rfl _) (own_apart HO.out HX3.out (by decide)));have HX4:=zq hX4;have HZ4:=zq hZ4;have HB4:=zq hb4;clear hw4 hb4 hX4 hZ4 g1 e1' HX3 HZ3 HO;have HR:=zq (has_row11 HZ4.out #[.int .i64 x.id,.slice A2 x.path.length c2,.int .i64 x.gap,.int .i64 x.timer]);have HBF:=zq (below_row (g:=w.heap.size+1) HB4.out (by omega) #[.int .i64 x.id,.slice A2 x.path.length c2,.int .i64 x.gap,.int .i64 x.timer]);have HO5:=zq (own_keep HO4.out (only_row11 w4 (w.heap.size+1) #[.int .i64 x.id,.slice A2 x.path.length c2,.int .i64 x.gap,.int .i64 x.timer]) (own_apart HO4.out HZ4.out (by decide)));go_wp2_with (first|(with_reducible refine ldZ 23 HX4.out ?_)|(with_reducible refine stZ #[.int .i64 x.id,.slice A2 x.path.length c2,.int .i64 x.gap,.int .i64 x.timer] HZ4.out ?_));refine rtZ HR.out ?_;have e1_:routeR t id=x:=by unfold routeR;rw[HF.out];rfl
  have e2_:(routeF t id).isSome=true:=by rw[HF.out];rfl
  rw[e1_,e2_];exact⟨A2,c2,⟨rfl,Sl.of_own HO5.out⟩,(fun ad h=>by
   subst h
   rcases HO5.out.2 with⟨e,_⟩|⟨g,cap,cur,e,hg,hbk,_⟩
   ·cases e
   ·injection e with e1 _ _
    injection e1 with e2
    have:=HB2.out.size;subst e2;exact⟨Nat.le_trans this hg,(Array.getElem?_eq_some_iff.1 hbk).1⟩),(by
   rcases HO5.out.2 with⟨e,e2⟩|⟨g,cap,cur,e,_,_,h2,_⟩
   ·omega
   ·injection e with _ _ e3
    omega),rfl,HBF.out⟩
theorem otp_routeF (t:Tp3)(a:TpA)(id:Int)(w:World)(ht:TopR w t a)(hl:lightT t=true):
  Calls Tryz.prog 35 #[.agg (tpC t a),.int .i64 id] w fun e w'=> ∃A c,SlO stC 2 w' A (routeR t id).path.length c (routeR t id).path/\(∀ad,A=some ad->w.heap.size<=ad.block/\ad.block<w'.heap.size)/\e= .returned (.tuple #[.agg (rtA (routeR t id) (.slice A (routeR t id).path.length c)),.bool (routeF t id).isSome])/\Below w.heap.size w w':=(otp_routeC t a id w ht hl).mono fun _ _ ⟨A,c,h1,h2,_,h3,h4⟩=>⟨A,c,h1,h2,h3,h4⟩
end
section
open Go.RowKit
open Go.Great
theorem otp_length_e (t:Tp3)(a:TpA)(path:List St3)(A:Option Addr)(n c:Nat)(w:World)(ht:TopR w t a)(hp:SlO stC 2 w A n c path)(hn:n<=1048576)(hl:lightT t=true):Calls Tryz.prog 146 #[.agg (tpC t a),.slice A n c] w fun e w'=> ∃N:Int,e= .returned (.tuple #[.int .i64 N,.int .i64 (lenE t path)])/\Below w.heap.size w w':=by
 have hlg:=light_nums13 hl;obtain⟨wa,hwa,hbwa,HWA,HBWA,h0⟩:=bx1Z w 27 (tpC t a);have H0:=zH h0;have HT:=zq (fun W (hW:Below w.heap.size w W)=>ht.under hW);have HP:=zq (fun W (hW:Below w.heap.size w W)=>hp.under hW);have HBA:=zq (fun W (hW:Below wa.heap.size wa W)=>hbwa.trans (hW.mono hbwa.size));have HLN:=zq hp.1;have HL:=zq hlg.1;have HJ:=zq hlg.2.1;obtain⟨rE,hrE⟩: ∃r,lenE t path=r:=⟨_,rfl⟩
 have HRE:=zq hrE;rw[hrE];have HWI:=zq (fun W=>otwithin_any n 1 40 W);obtain⟨b1,hb1⟩: ∃b,withinB n 1 40=b:=⟨_,rfl⟩
 rw[hb1]at HWI;have HB1:Hid (withinB n 1 40=b1):=zq hb1;have HEE:=zq (fun W (hW:Below w.heap.size w W)=>otedges_any t a path A n c W (hp.under hW) hn hlg.1);obtain⟨b2,hb2⟩: ∃b,(path.all fun s=>edgeB t s.edge)=b:=⟨_,rfl⟩
 rw[hb2]at HEE;have HB2:=zq hb2;have HNB:=zq hn;clear hwa hbwa h0 ht hp hrE hl hlg hb1 hb2 hn
 cases b1 with
 |false=>
  go_enter Tryz.func146,Tryz.ntmps146;go_upto_region 1 with fail;rw[HWA.out];clear HWA;go_wp2_with fail;refine(HWI.out _).mono ?_;rintro e w1 ⟨rfl,hw1⟩;rw[hw1];clear hw1;go_wp2;go_ret2
  have hE:lenE t path=1:=by unfold lenE;rw[if_pos (by have h_:=HB1.out;unfold withinB at h_;simp only[Bool.and_eq_false_iff,decide_eq_false_iff_not]at h_;have:=HLN.out;omega)]
  have e2_:rE=1:=by rw[<-HRE.out];exact hE
  subst e2_
  first|exact⟨_,rfl,HBWA.out⟩|exact⟨⟨_,rfl⟩,HBWA.out⟩
 |true=>
  cases b2 with
  |false=>
   go_enter Tryz.func146,Tryz.ntmps146;go_upto_region 1 with fail;rw[HWA.out];clear HWA;go_wp2_with fail;refine(HWI.out _).mono ?_;rintro e w1 ⟨rfl,hw1⟩;rw[hw1];clear hw1;go_wp2_with ((with_reducible refine at_slot11 15 ?_);refine wpList_load_rowW11 (o:=⟨some 15,_,_,_,_,_⟩) 27 _ rfl (by kernel_rfl) (w.heap.size) rfl 27 (tpC t a) (0,0) _ ((H0.out _ (Below.refl _ _))).raw11 Tryz.underlying27 rfl (by kernel_rfl) ?_);refine(HEE.out _ HBWA.out).mono ?_;rintro e w2 ⟨rfl,hbw2⟩;have HB3:=tB HBWA hbw2;clear hbw2;go_wp2;go_ret2
   have hE:lenE t path=1:=by unfold lenE;rw[if_neg (by have h_:=HB1.out;unfold withinB at h_;simp only[Bool.and_eq_true,decide_eq_true_eq]at h_;have:=HLN.out;omega),HB2.out];rfl
   have e2_:rE=1:=by rw[<-HRE.out];exact hE
   subst e2_
   first|exact⟨_,rfl,HB3.out⟩|exact⟨⟨_,rfl⟩,HB3.out⟩
  |true=>
   go_enter Tryz.func146,Tryz.ntmps146;go_upto_region 1 with fail;rw[HWA.out];clear HWA;go_wp2_with fail;refine(HWI.out _).mono ?_;rintro e w1 ⟨rfl,hw1⟩;rw[hw1];clear hw1;go_wp2_with ((with_reducible refine at_slot11 15 ?_);refine wpList_load_rowW11 (o:=⟨some 15,_,_,_,_,_⟩) 27 _ rfl (by kernel_rfl) (w.heap.size) rfl 27 (tpC t a) (0,0) _ ((H0.out _ (Below.refl _ _))).raw11 Tryz.underlying27 rfl (by kernel_rfl) ?_);refine(HEE.out _ HBWA.out).mono ?_;rintro e w2 ⟨rfl,hbw2⟩;have HBW:=zq hbw2;have HALL:Hid (∀s∈path,edgeB t s.edge=true):=zq (List.all_eq_true.1 HB2.out);have HNZ:Hid (1<=n/\n<=40):=zq (by have h_:=HB1.out;unfold withinB at h_;simp only[Bool.and_eq_true,decide_eq_true_eq]at h_;omega);have HWY:=zq (otway_any t a path A n c w2 (HT.out _ (HBA.out _ hbw2)) (HP.out _ (HBA.out _ hbw2)) HNB.out HNZ.out.1 HL.out HJ.out HALL.out);obtain⟨b3,hb3⟩: ∃b,wayB t path=b:=⟨_,rfl⟩
   rw[hb3]at HWY;have HB3:=zq hb3;clear hbw2 hb3;go_wp2_with (with_reducible refine ldZ 21 (H0.out _ HBW.out) ?_);refine HWY.out.mono ?_;rintro e w3 ⟨rfl,hbw3⟩;have HW3:=tB HBW hbw3;clear hbw3 HWY HBW
   cases b3 with
   |false=>
    go_wp2;go_ret2
    have hE:lenE t path=141:=by unfold lenE;rw[if_neg (by have h_:=HB1.out;unfold withinB at h_;simp only[Bool.and_eq_true,decide_eq_true_eq]at h_;have:=HLN.out;omega),HB2.out,if_pos rfl,HB3.out];rfl
    have e2_:rE=141:=by rw[<-HRE.out];exact hE
    subst e2_
    first|exact⟨_,rfl,HBA.out _ HW3.out⟩|exact⟨⟨_,rfl⟩,HBA.out _ HW3.out⟩
   |true=>
    have HE0:Hid (lenE t path=0):=zq (by unfold lenE;rw[if_neg (by have h_:=HB1.out;unfold withinB at h_;simp only[Bool.and_eq_true,decide_eq_true_eq]at h_;have:=HLN.out;omega),HB2.out,if_pos rfl,HB3.out];rfl);clear HB1 HB2 HB3 HWI HEE;go_wp2;go_loopg [6,27] n (fun kk v6 v27 wl=> ∃i:Nat,i<=n/\n-i<=kk/\v27= .int .i64 i/\(∃sv:Int,v6= .int .i64 sv)/\Hid (Below wa.heap.size wa wl))
    case atStart=>exact⟨0,by omega,by omega,rfl,⟨0,rfl⟩,HW3⟩
    obtain⟨i,hi,hik,rfl,⟨sv,rfl⟩,HWR⟩:=hrel;by_cases hlt:i<n;rotate_left
    ·obtain rfl:i=n:=by omega
     have x1: ¬(i:Int)<i:=by omega
     have hti:path.take i=path:=List.take_of_length_le (by have:=HLN.out;omega);clear hti;go_wp2;go_ret2
     have e2_:rE=0:=HRE.out.symm.trans HE0.out;subst e2_
     first|exact⟨_,rfl,HBA.out _ HWR.out⟩|exact⟨⟨_,rfl⟩,HBA.out _ HWR.out⟩
    obtain⟨x,hx⟩:=glZ path (i) (by have:=HLN.out;omega);have HX:=zq hx;have hex:=HALL.out x (List.mem_of_getElem? hx);have hed:0<=x.edge/\x.edge<t.edges.length:=by have h_:=hex;unfold edgeB at h_;simpa using h_
    obtain⟨e,hee⟩: ∃e:Nat,x.edge=e:=⟨x.edge.toNat,by omega⟩
    have hel:e<t.edges.length:=by omega
    obtain⟨q,hq⟩:=geZ (t.edges.getD e 0);have HQ:=zq hq;have HHE:=zq hee;have HEL:=zq hel;obtain⟨bk,off,rfl,d0,d1⟩:=(HP.out _ (HBA.out _ HWR.out)).step hx;rw[hee]at d0;have y0:(0:Int)<=i:=by omega
    have y1:(i:Int)<n:=by omega
    have y2:(i:Int)<40:=by have:=HNZ.out;omega
    clear hx hex hed hee hel hq;go_upto_region 9 with fail;obtain⟨wb,hwb⟩:=geZ (wr.alloc (.cells #[.int .i64 (e:Nat),.bool x.rev] 30));rw[hwb];have hbb:Below wr.heap.size wr wb:=by rw[<-hwb];exact bA
    have hH:Has wb wr.heap.size 30 #[.int .i64 (e:Nat),.bool x.rev]:=by rw[<-hwb];exact Has.made _ _ _
    have HWB:=tB HWR hbb;have hc0:wb.cell? ⟨wr.heap.size,0,none⟩=some (.int .i64 (e:Nat)):=hH.cell 0;obtain⟨be,oe,hae,ce⟩:=(HT.out _ (HBA.out _ HWB.out)).e.edge HEL.out;have c0:=(H0.out _ HWB.out).cell 0;have c0':wb.cell? ⟨w.heap.size,0,none⟩=some (.slice (some ⟨be,oe,none⟩) t.edges.length a.ce):=by first|exact c0.trans (by rw[<-hae];rfl)|(rw[<-hae];exact c0)
    have z0:(0:Int)<=e:=by omega
    have z1:(e:Int)<t.edges.length:=by have:=HEL.out;omega
    rw[HQ.out]at ce;obtain⟨me,hme⟩: ∃m,t.edges.length=m:=⟨_,rfl⟩
    rw[hme]at c0' z1;clear hwb hbb hH c0 hme hae d0 d1;go_wp2;go_roundg (gk-1)
    case measure=>omega
    case rel=>
     refine⟨i+1,by omega,by omega,by go_num,⟨_,rfl⟩,HWB⟩
end
section
structure Bd4 where
 edge:Int
 at_:Int
 a:Int
 b:Int
structure Pc5 where
 s:Sn3
 inA:Bool
 inB:Bool
def befB (x y:Bd4):Bool:=decide (x.edge<y.edge)||(decide (x.edge=y.edge) &&decide (x.at_<y.at_))
theorem befB_iff {x y:Bd4}:befB x y=true↔x.edge<y.edge\/(x.edge=y.edge/\x.at_<y.at_):=by
 unfold befB;simp
def sumK (f:Bd4->Int):List Bd4->Int
 |[]=>0
 |d::r=>f d+sumK f r
theorem sumK_zero {f:Bd4->Int}{l:List Bd4}(h: ∀d∈l,f d=0):sumK f l=0:=by
 induction l with
 |nil=>rfl
 |cons d r ih=>rw[sumK,h d (List.mem_cons_self ..),ih fun e he=>h e (List.mem_cons_of_mem _ he)];rfl
def upK (e x:Int)(d:Bd4):Prop:=d.edge<e\/(d.edge=e/\d.at_<=x)
instance (e x : Int) (d : Bd4) : Decidable (upK e x d) := by unfold upK; infer_instance
def upA (e x:Int)(d:Bd4):Int:=if upK e x d then d.a else 0
def upB15 (e x:Int)(d:Bd4):Int:=if upK e x d then d.b else 0
instance (s : Sn3) : Decidable (okN s) := by unfold okN; infer_instance
structure Swp (cA cB:Int->Int->Int) (pe pa oa ob:Int) (Q:List Bd4):Prop where
 sorted:Q.Pairwise fun x y=>befB y x=false
 ge: ∀d∈Q,pe<d.edge\/(pe=d.edge/\pa<=d.at_)
 num: ∀d∈Q,0<=d.edge/\0<=d.at_/\d.at_<=1000000
 sA: ∀e x,pe<e\/(pe=e/\pa<=x)->oa+sumK (upA e x) Q=cA e x
 sB: ∀e x,pe<e\/(pe=e/\pa<=x)->ob+sumK (upB15 e x) Q=cB e x
 fin: ∀e x,pe<e\/(pe=e/\pa<=x)->0<cA e x+cB e x-> ∃d∈Q,d.edge=e/\x<d.at_
theorem Swp.tail {cA cB:Int->Int->Int}{pe pa oa ob:Int}{d:Bd4}{r:List Bd4}(h:Swp cA cB pe pa oa ob (d::r)):Swp cA cB d.edge d.at_ (oa+d.a) (ob+d.b) r where
 sorted:=(List.pairwise_cons.1 h.sorted).2
 ge:=fun y hy=>by
  have h1:=(List.pairwise_cons.1 h.sorted).1 y hy;have h2: ¬(y.edge<d.edge\/(y.edge=d.edge/\y.at_<d.at_)):=fun h2=>by rw[befB_iff.2 h2]at h1;cases h1
  omega
 num:=fun y hy=>h.num y (List.mem_cons_of_mem _ hy)
 sA:=fun e x hx=>by
  have h1:=h.ge d (List.mem_cons_self ..);have h2:=h.sA e x (by omega);rw[sumK]at h2;have h3:upA e x d=d.a:=if_pos (by unfold upK;omega);rw[h3]at h2;omega
 sB:=fun e x hx=>by
  have h1:=h.ge d (List.mem_cons_self ..);have h2:=h.sB e x (by omega);rw[sumK]at h2;have h3:upB15 e x d=d.b:=if_pos (by unfold upK;omega);rw[h3]at h2;omega
 fin:=fun e x hx hc=>by
  have h1:=h.ge d (List.mem_cons_self ..);obtain⟨y,hy,h2,h3⟩:=h.fin e x (by omega) hc
  rcases List.mem_cons.1 hy with rfl|hy
  ·omega
  ·exact⟨y,hy,h2,h3⟩
theorem Swp.still {cA cB:Int->Int->Int}{pe pa oa ob:Int}{d:Bd4}{r:List Bd4}(h:Swp cA cB pe pa oa ob (d::r)){e x:Int}(h1:pe<e\/(pe=e/\pa<=x))(h2:e<d.edge\/(e=d.edge/\x<d.at_)):oa=cA e x/\ob=cB e x:=by
 have hz: ∀y∈d::r,¬upK e x y:=fun y hy=>by
  unfold upK
  rcases List.mem_cons.1 hy with rfl|hy
  ·omega
  ·have:=h.tail.ge y hy
   omega
 have hA:=h.sA e x h1;have hB:=h.sB e x h1;rw[sumK_zero (f:=upA e x) fun y hy=>if_neg (hz y hy)]at hA;rw[sumK_zero (f:=upB15 e x) fun y hy=>if_neg (hz y hy)]at hB;omega
theorem Swp.edge {cA cB:Int->Int->Int}{pe pa oa ob:Int}{d:Bd4}{r:List Bd4}(h:Swp cA cB pe pa oa ob (d::r))(ho:0<oa+ob):pe=d.edge:=by
 have h1:=h.ge d (List.mem_cons_self ..);refine Classical.byContradiction fun hne=>?_;obtain⟨h2,h3⟩:=h.still (e:=pe) (x:=pa) (.inr ⟨rfl,Int.le_refl _⟩) (.inl (by omega));obtain⟨y,hy,h4,h5⟩:=h.fin pe pa (.inr ⟨rfl,Int.le_refl _⟩) (by omega)
 rcases List.mem_cons.1 hy with rfl|hy
 ·omega
 ·have:=h.tail.ge y hy
  omega
structure Pcs (cA cB:Int->Int->Int) (out:List Pc5):Prop where
 ok: ∀p∈out,okN p.s/\(p.inA||p.inB)=true/\ ∀x,p.s.lo<=x->x<p.s.hi->p.inA=decide (0<cA p.s.edge x)/\p.inB=decide (0<cB p.s.edge x)
 pair:out.Pairwise fun p q=>p.s.edge<q.s.edge\/(p.s.edge=q.s.edge/\p.s.hi<=q.s.lo)
end
section
open Go.RowKit
open Go.Great
def GrW (w w':World):Prop:= ∃q os,w'=Go.Sort.grow (w.drewN q) os
theorem GrW.refl (w:World):GrW w w:=⟨0,#[],by simp[Go.Sort.grow,World.drewN]⟩
theorem GrW.alloc {w w':World}(h:GrW w w')(o:Obj):GrW w (w'.alloc o):=by
 obtain⟨q,os,rfl⟩:=h;exact⟨q,os++ #[o],by rw[Go.Sort.alloc_eq_grow,Go.Sort.grow_grow]⟩
theorem GrW.drew {w w':World}(h:GrW w w'):GrW w w'.drew:=by
 obtain⟨q,os,rfl⟩:=h;exact⟨q+1,os,by rw[Go.Sort.drew_grow];rfl⟩
end
section
open Go.RowKit
open Go.Great
def splL (X:List Value)(o:Nat)(cs:List Value):List Value:=X.take o++cs++X.drop (o+cs.length)
theorem splL_len (X:List Value)(o:Nat)(cs:List Value)(h:o+cs.length<=X.length):(splL X o cs).length=X.length:=by
 unfold splL;simp;omega
theorem splL_take (X:List Value)(o:Nat)(cs:List Value)(h:o<=X.length):(splL X o cs).take o=X.take o:=by
 unfold splL;rw[List.append_assoc,List.take_append_of_le_length (by simp;omega),List.take_take,Nat.min_self]
theorem run_clear_rowL {P:Program}(w:World)(t e ty:TypeId)(z:Value)(ht:P.underlying t=some (.slice e))(hv: ∀w,(zeroValue e).run P w= .ok z w)(h1: ∀v∈z.cells.toList,v.oneCell'=true)(g o n c:Nat)(cur:Array Value)
  (hg:Has w g e cur) (hfit:o+n*z.cells.size<=cur.size) (h0:0<n):
  (Builtin.clear_ #[t] ty #[.slice (some ⟨g,o,none⟩) n c]).run P w= .ok (.tuple #[]) (w.setRow g (splL cur.toList o (Builtin.zeroCells z.cells n).toList).toArray):=by
 have hst:=run_storeCells_at P g o e (Builtin.zeroCells z.cells n).toList 0 cur w hg (by simpa[Builtin.zeroCells]using hfit) (fun v hv'=>by
  obtain⟨i,hi,rfl⟩:=List.getElem_of_mem hv';simp[Builtin.zeroCells]at hi⊢;exact h1 _ (by
   have hp:0<z.cells.size:=by
    rcases Nat.eq_zero_or_pos z.cells.size with h|h
    ·rw[h]at hi;simp at hi
    ·exact h
   rw[getElem!_pos z.cells _ (Nat.mod_lt _ hp)];simp))
 obtain⟨m,rfl⟩: ∃m,n=m+1:=⟨n-1,by omega⟩
 simp only[Nat.add_zero]at hst;simp[Builtin.clear_,run_underlying ht,hv,hst,splL]
theorem flat_parts16 {l:List Lc3}{i:Nat}(h:i<=l.length):(l.take i).flatMap lcC=(l.flatMap lcC).take (i*3)/\(l.drop i).flatMap lcC=(l.flatMap lcC).drop (i*3):=by
 have h1:l.flatMap lcC=(l.take i).flatMap lcC++(l.drop i).flatMap lcC:=by rw[<-List.flatMap_append,List.take_append_drop]
 have h2:((l.take i).flatMap lcC).length=i*3:=by rw[flat_len (f:=lcC) (k:=3) (fun _=>rfl),List.length_take,Nat.min_eq_left h]
 rw[h1];exact⟨(List.take_left' h2).symm,(List.drop_left' h2).symm⟩
theorem owl_has16 {base g n c:Nat}{w:World}{cur:Array Value}{l:List Lc3}(hb:base<=g)(hg:Has w g 73 cur)(hnc:n<=c)(hcm:c<=maxLen)(hcs:cur.size=c*3)(hl:l.length=n)(ht:cur.toList.take (n*3)=l.flatMap lcC):OwR lcC 3 73 base w (some ⟨g,0,none⟩) n c l:=by
 refine⟨⟨?_,.inr ⟨g,c,cur,rfl,hb,hg,hnc,hcm,hcs,ht⟩⟩,hl⟩;rw[flat_len (f:=lcC) (k:=3) (fun _=>rfl),hl]
theorem owl_take16 {base n c i:Nat}{w:World}{A:Option Addr}{l:List Lc3}(h:OwR lcC 3 73 base w A n c l)(hi:i<=n):OwR lcC 3 73 base w A i c (l.take i):=by
 cases A with
 |none=>
  obtain⟨e,_⟩:=h.sl.2.2.1 rfl;subst e;obtain rfl:i=0:=by omega
  rcases h.1.2 with⟨h1,_⟩|⟨g,cap,cur,h1,_⟩
  ·injection h1 with _ _ h1
   subst h1;exact OwR.nil _ _ _ _ _
  ·cases h1
 |some ad=>
  obtain⟨g,cur,rfl,hb,hg,hnc,hcm,hcs,ht⟩:=h.has;refine owl_has16 hb hg (by omega) hcm hcs (by rw[List.length_take,h.2];omega) ?_;rw[(flat_parts16 (by rw[h.2];exact hi)).1,<-ht,List.take_take,Nat.min_eq_left (by omega)]
/-! What DeleteFunc has made of a list when it has come to j and kept i. -/
structure DelP16 (p:Lc3->Bool) (l L:List Lc3) (i j:Nat):Prop where
 len:L.length=l.length
 le:i<j
 head:L.take i=(l.take j).filter fun k=>!p k
 rest:L.drop j=l.drop j
theorem del_start16 {p:Lc3->Bool}{l:List Lc3}{i:Nat}{x:Lc3}(hx:l[i]?=some x)(hp:p x=true)(hno: ∀(k:Nat) (y:Lc3),k<i->l[k]?=some y->p y=false):DelP16 p l l i (i+1):=by
 refine⟨rfl,Nat.lt_succ_self _,?_,rfl⟩;rw[List.take_add_one,hx,List.filter_append];have h1:(l.take i).filter (fun k=>!p k)=l.take i:=by
  rw[List.filter_eq_self];intro y hy;obtain⟨k,hk,rfl⟩:=List.getElem_of_mem hy;rw[List.length_take]at hk;rw[List.getElem_take,hno k _ (by omega) (List.getElem?_eq_getElem (by omega))]
  rfl
 rw[h1];show _=_++List.filter _ [x]
 rw[List.filter_cons,hp];simp
theorem del_at16 {p:Lc3->Bool}{l L:List Lc3}{i j:Nat}(h:DelP16 p l L i j){x:Lc3}(hx:l[j]?=some x):L[j]?=some x:=by
 have h1:(L.drop j)[0]?=(l.drop j)[0]?:=by rw[h.rest]
 rw[List.getElem?_drop,List.getElem?_drop]at h1;rw[<-hx]
 simpa using h1
theorem del_drop16 {p:Lc3->Bool}{l L:List Lc3}{i j:Nat}(h:DelP16 p l L i j){x:Lc3}(hx:l[j]?=some x)(hp:p x=true):DelP16 p l L i (j+1):=by
 refine⟨h.len,by have:=h.le;omega,?_,?_⟩
 ·rw[h.head,List.take_add_one,hx,List.filter_append]
  show _=_++List.filter _ [x]
  rw[List.filter_cons,hp];simp
 ·have h1:=congrArg (List.drop 1) h.rest
  rw[List.drop_drop,List.drop_drop]at h1;exact h1
theorem del_keep16 {p:Lc3->Bool}{l L:List Lc3}{i j:Nat}(h:DelP16 p l L i j){x:Lc3}(hx:l[j]?=some x)(hp:p x=false):DelP16 p l (L.set i x) (i+1) (j+1):=by
 have hj:=(List.getElem?_eq_some_iff.1 hx).1;have hi:=h.le;refine⟨by rw[List.length_set,h.len],by omega,?_,?_⟩
 ·rw[List.take_add_one,List.take_set_of_le (Nat.le_refl _),h.head,List.take_add_one,hx,List.filter_append]
  congr 1
  rw[List.getElem?_set_self (by rw[h.len];omega)];show _=List.filter _ [x]
  rw[List.filter_cons,hp]
  rfl
 ·rw[List.drop_set_of_lt (by omega)]
  have h1:=congrArg (List.drop 1) h.rest;rw[List.drop_drop,List.drop_drop]at h1;exact h1
theorem del_end16 {p:Lc3->Bool}{l L:List Lc3}{i:Nat}(h:DelP16 p l L i l.length):L.take i=l.filter fun k=>!p k:=by
 rw[h.head,List.take_of_length_le (Nat.le_refl _)]
theorem flat_set16 {l:List Lc3}{i:Nat}{x:Lc3}(hi:i<l.length):(l.set i x).flatMap lcC=splL (l.flatMap lcC) (i*3) (lcC x):=by
 unfold splL;have h1:=(flat_parts16 (l:=l) (i:=i) (by omega)).1;have h3:=(flat_parts16 (l:=l) (i:=i+1) (by omega)).2;rw[show(i+1)*3=i*3+3 by omega]at h3;rw[List.set_eq_take_append_cons_drop,if_pos hi,List.flatMap_append,List.flatMap_cons,h1,h3];simp[lcC]
theorem spl316 {X:List Value}{o:Nat}{a b c:Value}(h:o+3<=X.length):((X.set o a).set (o+1) b).set (o+2) c=splL X o [a,b,c]:=by
 apply List.ext_getElem?
 intro k;unfold splL;by_cases h1:k<o
 ·rw[List.getElem?_set_ne (by omega),List.getElem?_set_ne (by omega),List.getElem?_set_ne (by omega),List.getElem?_append_left (by simp;omega),List.getElem?_append_left (by simp;omega),List.getElem?_take,if_pos h1]
 ·by_cases h2:k<o+3
  ·rw[List.getElem?_append_left (by simp;omega),List.getElem?_append_right (by simp;omega)]
   rw[List.length_take,Nat.min_eq_left (by omega)]
   rcases(by omega:k=o\/k=o+1\/k=o+2)with rfl|rfl|rfl
   ·rw[List.getElem?_set_ne (by omega),List.getElem?_set_ne (by omega),List.getElem?_set_self (by omega)]
    simp
   ·rw[List.getElem?_set_ne (by omega),List.getElem?_set_self (by simp;omega),show o+1-o=1 by omega]
    rfl
   ·rw[List.getElem?_set_self (by simp;omega),show o+2-o=2 by omega]
    rfl
  ·rw[List.getElem?_set_ne (by omega),List.getElem?_set_ne (by omega),List.getElem?_set_ne (by omega),List.getElem?_append_right (by simp;omega)]
   rw[List.length_append,List.length_take,Nat.min_eq_left (by omega),List.getElem?_drop]
   congr 1
   simp;omega
theorem olco_any (x:Lc3)(d:Int)(g:Nat)(w:World)(hc:w.cell? ⟨g,0,none⟩=some (.int .i64 d)):
  Calls Tryz.prog 106 #[.agg (lcA x),.pointer (some ⟨g,0,none⟩)] w fun e w'=>e= .returned (.bool (!(x.train==d)))/\Below w.heap.size w w':=by
 obtain⟨wa,hwa,hbwa,HWA,HBWA,h0⟩:=bx1Z w 73 (lcA x);have c0:wa.cell? ⟨w.heap.size,1,none⟩=some (.int .i64 x.train):=h0.cell 1;have e0:wa.cell? ⟨g,0,none⟩=some (.int .i64 d):=(hbwa.cell (cell_block hc)).trans hc;clear hwa hbwa h0 hc;obtain⟨q,hq⟩:=geZ ((x.train==d));have z1:(x.train !=d)=!q:=by rw[<-hq];rfl
 rw[hq];unfold lcA at*;go_enter Tryz.func106,Tryz.ntmps106;go_upto_region 1 with fail;rw[HWA.out];clear HWA;go_wp2;go_ret
 exact⟨by first|rfl|(rw[hq];done)|simp_all,HBWA.out⟩
theorem oclonel_any (A:Option Addr)(n c:Nat)(l:List Lc3)(w:World)(hs:SlO lcC 3 w A n c l)(hn:n<=1000):
  Calls Tryz.prog 180 #[.slice A n c] w fun e w'=> ∃A' c',e= .returned (.slice A' n c')/\OwR lcC 3 73 w.heap.size w' A' n c' l/\Below w.heap.size w w':=by
 obtain⟨HLN,hs⟩:=hs;have H1:Hid (∀u∈l.flatMap lcC,u.oneCell'=true):=zq fun u hu=>by
  obtain⟨x,_,h⟩:=List.mem_flatMap.1 hu;exact one_lc16 x u h
 have HLN:=zq HLN;obtain⟨vs,hvs⟩:=geZ (l.flatMap lcC);have HVS:=zq hvs;rw[hvs]at hs H1;clear hvs;have HFIN:Hid (∀A' c' W,W.ownsRow w.heap.size 73 3 (.slice A' n c') n vs->OwR lcC 3 73 w.heap.size W A' n c' l):=zq fun A' c' W h=>⟨by rw[HVS.out];exact h,HLN.out⟩
 clear HVS HLN
 cases hA:A with
 |none=>
  subst hA;obtain⟨rfl,rfl⟩:=hs.2.1 rfl;have e0:vs=[]:=List.eq_nil_of_length_eq_zero (by simpa using hs.1);subst e0;have HO0:Hid (w.ownsRow w.heap.size 73 3 (.slice none 0 0) 0 []):=zq (World.ownsRow_nil w w.heap.size 73 3);have q1:=fun w:World=>Lib.run_eql_slice_nil (P:=Tryz.prog) w 28 73 none 0 0 0 0 Tryz.underlying28;simp only[Option.isNone]at q1;clear hs;go_enter Tryz.func180,Tryz.ntmps180;go_wp2;go_ret
  exact⟨none,0,rfl,HFIN.out _ _ _ HO0.out,Below.refl _ _⟩
 |some ad=>
  subst hA;have HSL:=zq (hs.beside (.cells #[] 73));have HO:=zq (World.ownsRow_lit (base:=w.heap.size) (e:=73) (size:=3) w #[] 0 (Nat.le_refl _) (by unfold maxLen;omega) rfl);have HB:Hid (0+n<=maxLen/\(0+n)*24<=140737488355328/\w.heap.size<=(w.alloc (.cells #[] 73)).heap.size):=zq ⟨by unfold maxLen;omega,by omega,by simp⟩;have HBL:Hid (Below w.heap.size w (w.alloc (.cells #[] 73))):=zq (bA);have q1:=fun w:World=>Lib.run_eql_slice_nil (P:=Tryz.prog) w 28 73 (some ad) n c 0 0 Tryz.underlying28;simp only[Option.isNone]at q1;clear hs;go_enter Tryz.func180,Tryz.ntmps180;go_wp2_with (with_reducible refine wpList_pour (o:=⟨some 7,_,_,_,_,_⟩) rfl (.tmp 5) (.tmp 6) 28 rfl w.heap.size 73 (.agg #[.int .i64 0,.int .i64 0,.int .i64 0]) 3 24 Tryz.underlying28 info_lock16 ?hz (by decide) (some ⟨w.heap.size,0,none⟩) 0 0 [] ?hs HO (some ad) n c vs ?hx HSL H1 HB ?next)
  all_goals try rfl
  intro A4 c4 w4 ho4 hg4;have HO4:Hid (w4.ownsRow w.heap.size 73 3 (.slice A4 n c4) n vs):=zq (by simpa using ho4.out);clear ho4;go_wp2;go_ret
  exact⟨A4,c4,rfl,HFIN.out _ _ _ HO4.out,below_own HBL.out HB.out.2.2 HO.out (Nat.le_refl _) rfl hg4.out⟩
theorem oix_lo (p:Lc3->Bool)(l:List Lc3)(A:Option Addr)(n c:Nat)(g:Nat)(w:World)(hs:SlO lcC 3 w A n c l)(hbig:n<=1048576)
  (HE:Hid (∀(x:Lc3) W,Below w.heap.size w W->Calls Tryz.prog 106 #[.agg (lcA x),.pointer (some ⟨g,0,none⟩)] W fun e w'=>e= .returned (.bool (p x))/\Below W.heap.size W w')):
  Calls Tryz.prog 43 #[.slice A n c,.func (.func 106) #[] #[.pointer (some ⟨g,0,none⟩)]] w fun e w'=>e= .returned (.int .i64 (idxL p l))/\Below w.heap.size w w':=by
 try unfold lcA at HE
 have HN:Hid (l.length=n):=zq hs.len13;have HW:=zq hs;clear hs;have x0:(0:Int)<=n:=by omega
 obtain⟨R,hR⟩:=geZ (idxL p l);have HR:=zq hR;rw[hR];clear hR;go_enter Tryz.func43,Tryz.ntmps43;go_wp2;go_loopg [8] n (fun kk v wl=> ∃j:Nat,j<=n/\n-j<=kk/\v= .int .i64 j/\Hid (∀i x,i<j->l[i]?=some x->p x=false)/\Hid (Below w.heap.size w wl))
 case atStart=>exact⟨0,by omega,by omega,rfl,zq fun i x h=>absurd h (by omega),zq (Below.refl _ _)⟩
 obtain⟨j,hj,hjk,rfl,HNO,HBL⟩:=hrel;by_cases hlt:j<n
 ·obtain⟨x,hx⟩:=glZ l (j) (by rw[HN.out];omega)
  obtain⟨bk,off,rfl,d0,d1,d2⟩:=(HW.out.under HBL.out).lock hx;have HX:=zq hx;have y0:(0:Int)<=j:=by omega
  have y1:(j:Int)<n:=by omega
  have HC:=zq (HE.out x wr HBL.out);clear hx;generalize hb:p x=b at*;have HBE:=zq hb;clear hb
  cases b with
  |true=>
   have HF:Hid (R=j):=zq (by rw[<-HR.out];exact idx_hit HX.out HBE.out HNO.out);go_upto_region 4 with fail;go_wp2_with fail;refine HC.out.mono ?_;rintro e w1 ⟨rfl,hb1⟩;have HB1:=tB HBL hb1;clear hb1 d0 d1 d2 HBE HNO;go_wp2;go_ret
   exact⟨by rw[HF.out];rfl,HB1.out⟩
  |false=>
   go_upto_region 4 with fail;go_wp2_with fail;refine HC.out.mono ?_;rintro e w1 ⟨rfl,hb1⟩;have HB1:=tB HBL hb1;have HN2:Hid (∀i y,i<j+1->l[i]?=some y->p y=false):=zq fun i y hi hy=>by
    by_cases h:i=j
    ·subst h;rw[HX.out]at hy;cases hy;exact HBE.out
    ·exact HNO.out i y (by omega) hy
   clear hb1 d0 d1 d2 HBE HNO;go_wp2;go_roundg (gk-1)
   case measure=>omega
   case rel=>exact⟨j+1,by omega,by omega,by go_num,HN2,HB1⟩
 ·have y1: ¬(j:Int)<n:=by omega
  have HF:Hid (R= -1):=zq (by rw[<-HR.out];exact idx_miss fun i y hi hy=>HNO.out i y (by have:=HN.out;omega) hy);go_wp2;go_ret
  exact⟨by rw[HF.out];rfl,HBL.out⟩
theorem zero_lock16: ∀w,(zeroValue 73).run Tryz.prog w= .ok (.agg #[.int .i64 0,.int .i64 0,.int .i64 0]) w:=fun w=>by
 obtain⟨i,hi,hz,_,_⟩:=info_parts (P:=Tryz.prog) info_lock16;simp[zeroValue,typeInfo,hi,hz]
theorem owl_store16 {base b n c i:Nat}{w:World}{L:List Lc3}(h:OwR lcC 3 73 base w (some ⟨b,0,none⟩) n c L)(hi:i<n)(x:Lc3):OwR lcC 3 73 base (w.setCells b (i*3) (lcC x)) (some ⟨b,0,none⟩) n c (L.set i x)/\Below base w (w.setCells b (i*3) (lcC x))/\w.there b (i*3) 3:=by
 obtain⟨g,cur,e,hb,hg,hnc,hcm,hcs,ht⟩:=h.has;injection e with e _ _
 subst e;have hl:=h.2;have hlen:(L.flatMap lcC).length=n*3:=by rw[flat_len (f:=lcC) (k:=3) (fun _=>rfl),hl]
 refine⟨?_,?_,fun j hj=>⟨?_,hg.thaw _⟩⟩
 ·refine owl_has16 hb (((hg.stored (i*3) (.int .i64 x.route)).stored (i*3+1) (.int .i64 x.train)).stored (i*3+2) (.int .i64 x.no)) hnc hcm (by simpa using hcs) (by rw[List.length_set,hl]) ?_
  rw[Array.toList_setIfInBounds,Array.toList_setIfInBounds,Array.toList_setIfInBounds,List.take_set,List.take_set,List.take_set,ht,spl316 (by rw[hlen];omega),flat_set16 (by rw[hl];exact hi)]
  rfl
 ·exact(((Below.refl _ _).setCell (p:=⟨b,i*3,none⟩) hb _).setCell (p:=⟨b,i*3+1,none⟩) hb _).setCell (p:=⟨b,i*3+2,none⟩) hb _
 ·rw[hg.cell,Array.getElem?_eq_getElem (by rw[hcs];omega)]
  rfl
theorem owl_clear16 {base b n c i:Nat}{w:World}{L:List Lc3}(h:OwR lcC 3 73 base w (some ⟨b,0,none⟩) n c L)(hi:i<n):
  ∃W,(∀ty dc,(Builtin.clear_ #[28] ty #[.slice (some ⟨b,i*3,none⟩) (n-i) dc]).run Tryz.prog w= .ok (.tuple #[]) W)/\OwR lcC 3 73 base W (some ⟨b,0,none⟩) i c (L.take i)/\Below base w W:=by
 obtain⟨g,cur,e,hb,hg,hnc,hcm,hcs,ht⟩:=h.has;injection e with e _ _
 subst e;have hl:=h.2;have hZ:(Builtin.zeroCells (Value.agg #[.int .i64 0,.int .i64 0,.int .i64 0]).cells (n-i)).toList.length=(n-i)*3:=by simp[Builtin.zeroCells,Value.cells]
 have hcl:cur.toList.length=c*3:=by rw[Array.length_toList,hcs]
 refine⟨w.setRow b (splL cur.toList (i*3) (Builtin.zeroCells (Value.agg #[.int .i64 0,.int .i64 0,.int .i64 0]).cells (n-i)).toList).toArray,fun ty dc=>?_,?_,below_row (Below.refl _ _) hb _⟩
 ·refine run_clear_rowL w 28 73 ty _ Tryz.underlying28 zero_lock16 (by intro v hv;simp[Value.cells]at hv;subst hv;rfl) b (i*3) (n-i) dc cur hg ?_ (by omega)
  show i*3+(n-i)*3<=cur.size
  rw[hcs];omega
 ·have h1:OwR lcC 3 73 base w (some ⟨b,0,none⟩) i c (L.take i):=owl_take16 h (by omega)
  refine owl_has16 hb (has_row11 hg _) (by omega) hcm (by rw[List.size_toArray,splL_len _ _ _ (by rw[hZ,hcl];omega),hcl]) (by rw[List.length_take,hl];omega) ?_;rw[List.toList_toArray,splL_take _ _ _ (by rw[hcl];omega)];rw[(flat_parts16 (by rw[hl];omega)).1,<-ht,List.take_take,Nat.min_eq_left (by omega)]
theorem odf_lo (p:Lc3->Bool)(l:List Lc3)(A:Option Addr)(n c base:Nat)(g:Nat)(w:World)(hs:OwR lcC 3 73 base w A n c l)(hbig:n<=1000)(hbase:base<=w.heap.size)
  (HE:Hid (∀(x:Lc3) W,Below base w W->Calls Tryz.prog 106 #[.agg (lcA x),.pointer (some ⟨g,0,none⟩)] W fun e w'=>e= .returned (.bool (p x))/\Below W.heap.size W w')):
  Calls Tryz.prog 179 #[.slice A n c,.func (.func 106) #[] #[.pointer (some ⟨g,0,none⟩)]] w fun e w'=> ∃k,e= .returned (.slice A k c)/\OwR lcC 3 73 base w' A k c (l.filter fun k=>!p k)/\Below base w w':=by
 have HIX:=zq (oix_lo p l A n c g w hs.sl (by omega) (zq fun x W hW=>HE.out x W (hW.mono hbase)));have HLN:=zq hs.2;have HS:=zq hs;have HBS:=zq hbase
 rcases idxA_spec p l 0 with⟨h1,h2⟩|⟨i,x,h1,h2,h3,h4⟩
 ·have HF:Hid (l.filter (fun k=>!p k)=l):=zq (by
   rw[List.filter_eq_self];intro y hy;obtain⟨k,hk,rfl⟩:=List.getElem_of_mem hy;rw[h2 k _ (List.getElem?_eq_getElem hk)]
   rfl)
  rw[show idxL p l= -1 from h1]at HIX;clear h1 h2 hs hbase HE;go_enter Tryz.func179,Tryz.ntmps179;go_wp2_with fail;refine HIX.out.mono ?_;rintro e w1 ⟨rfl,hb1⟩;have HO1:=zq (HS.out.under hb1);have HB1:=zq (hb1.mono HBS.out);clear hb1 HIX HS;go_wp2;go_ret
  exact⟨n,rfl,by rw[HF.out];exact HO1.out,HB1.out⟩
 ·have hin:i<n:=by have h_:=(List.getElem?_eq_some_iff.1 h1).1;have:=HLN.out;omega
  have HD0:=zq (del_start16 h1 h2 h3);have e0:idxL p l=(i:Int):=by unfold idxL;rw[h4];congr 1;omega
  rw[e0]at HIX;obtain⟨b,rfl,hbb,_⟩:=hs.some (by omega);have HCN:=zq hs.cap;have HBB:=zq hbb;have x0:(0:Int)<=i:=by omega
  have x1:(i:Int)<n:=by omega
  have x2:(n:Int)<=1000:=by omega
  have x3: ¬((i:Int)= -1):=by omega
  have HNB:=zq (show i+1<=n/\n<=1000 from⟨hin,hbig⟩);clear h1 h2 h3 h4 e0 hs hbase hin hbb hbig;go_enter Tryz.func179,Tryz.ntmps179;go_wp2_with fail;refine HIX.out.mono ?_;rintro e w1 ⟨rfl,hb1⟩;have HO1:=zq (HS.out.under hb1);have HB1:=zq (hb1.mono HBS.out);clear hb1 HIX HS;go_upto_region 5 with fail;clear x0 x1 x2 x3;go_loopg [5,6] n (fun kk v5 v6 wl=> ∃(i j:Nat) (L:List Lc3),j<=n/\n-j<=kk/\v5= .int .i64 i/\v6= .int .i64 j/\Hid (DelP16 p l L i j)/\Hid (OwR lcC 3 73 base wl (some ⟨b,0,none⟩) n c L)/\Hid (Below base w wl))
  case atStart=>exact⟨i,i+1,l,HNB.out.1,by omega,rfl,by first|rfl|(rw[IntWalk.wrap64_in _ (by have:=HNB.out;omega)];go_num)|go_num,HD0,HO1,HB1⟩
  clear HO1 HB1 HD0;obtain⟨i,j,L,hj,hjk,rfl,rfl,HD,HO,HB⟩:=hrel;obtain⟨k1,hk1⟩: ∃k1,k1=gk:=⟨_,rfl⟩
  subst hk1;obtain⟨wv,hwv⟩: ∃wv,wv=wr:=⟨_,rfl⟩
  subst hwv;by_cases hlt:j<n;rotate_left
  ·obtain rfl:j=n:=by omega
   have hdi:=HD.out.le;obtain⟨W,hcl,hoW,hbW⟩:=owl_clear16 HO.out hdi;have HF:Hid (L.take i=l.filter fun k=>!p k):=zq (by have h_:=HLN.out;have h2_:=HD.out;rw[<-h_]at h2_;exact del_end16 h2_);have HOW:=zq hoW;have HBW:=zq (HB.out.trans hbW);have y0:(0:Int)<=i:=by omega
   have y1:(i:Int)<=j:=by omega
   have y2:i<=j:=by omega
   have y3:j<=c:=HCN.out;have y4: ¬c=i:=by omega
   have y5:(j:Int)<=c:=by omega
   have y6:i<=c:=by omega
   have y7:(i:Int)<=c:=by omega
   have y8: ¬(j:Int)<j:=by omega
   clear hoW hbW hjk hlt hj hdi HD HO HB;go_wp2;go_ret
   exact⟨i,rfl,by rw[<-HF.out];exact HOW.out,HBW.out⟩
  obtain⟨x,hx⟩:=glZ l (j) (by rw[HLN.out];exact hlt);have HX:=zq hx;obtain⟨bk,off,e_,d0,d1,d2⟩:=HO.out.sl.lock (del_at16 HD.out hx);injection e_ with e_
  injection e_ with e1_ e2_ _
  subst e1_ e2_;rw[Nat.zero_add]at d0 d1 d2;have HIN:=zq (show j<n/\n-j<=k1 from⟨hlt,hjk⟩);have HDI:=zq (show i<n from by have:=HD.out.le;omega);have y0:(0:Int)<=j:=by omega
  have y1:(j:Int)<n:=by omega
  clear hx hjk hlt hj;obtain⟨kr,kt,kn⟩:=x;dsimp only at d0 d1 d2;go_upto_region 8 with fail;obtain⟨wb,hwb⟩:=geZ (wv.alloc (.cells #[.int .i64 kr,.int .i64 kt,.int .i64 kn] 73));rw[hwb];have hbb:Below base wv wb:=by rw[<-hwb];exact(Below.refl _ _).alloc (Nat.le_trans HBS.out HB.out.size) _
  have hH:Has wb wv.heap.size 73 #[.int .i64 kr,.int .i64 kt,.int .i64 kn]:=by rw[<-hwb];exact Has.made _ _ _
  have HBW:=zq (HB.out.trans hbb);have HOW:=zq (HO.out.under (show Below wv.heap.size wv wb from by rw[<-hwb];exact bA));obtain⟨gl,hgl⟩: ∃g,wv.heap.size=g:=⟨_,rfl⟩
  simp only[hgl]at hH⊢;have HH:=zq hH;clear hwb hbb hH hgl d0 d1 d2 HO HB;have HC:=zq (HE.out ⟨kr,kt,kn⟩ wb HBW.out);unfold lcA at HC;dsimp only at HC;obtain⟨q,hq⟩:=geZ (p ⟨kr,kt,kn⟩);rw[hq]at HC;have HQ:=zq hq;clear hq;go_wp2_with (with_reducible refine ldZ 27 HH.out ?_);refine HC.out.mono ?_;rintro e w2 ⟨rfl,hb2⟩;have HB2:=zq (HBW.out.trans (hb2.mono (Nat.le_trans HBS.out HBW.out.size)));have HO2:=zq (HOW.out.under hb2);have HH2:=uH HH hb2;clear hb2 HC HOW HBW HH
  cases q with
  |true=>
   have HD2:=zq (del_drop16 HD.out HX.out HQ.out);clear HD HX HQ HH2;go_wp2;go_roundg (k1-1)
   case measure=>have:=HIN.out;omega
   case rel=>exact⟨i,j+1,L,by have:=HIN.out;omega,by have:=HIN.out;omega,rfl,by rw[IntWalk.wrap64_in _ (by have h1_:=HIN.out;have h2_:=HNB.out;omega)];go_num,HD2,HO2,HB2⟩
  |false=>
   have HD2:=zq (del_keep16 HD.out HX.out HQ.out);have HST:=zq (owl_store16 HO2.out HDI.out ⟨kr,kt,kn⟩);unfold lcC at HST;dsimp only at HST;obtain⟨hs1,hs2,hs3⟩:=HST.out;have HO3:=zq hs1;have HB3:=zq (HB2.out.trans hs2);have HTH:Hid (w2.there b (i*3) (#[.int .i64 kr,.int .i64 kt,.int .i64 kn]:Array Value).size):=zq hs3;have z0:(0:Int)<=i:=by omega
   have z1:(i:Int)<n:=by have:=HDI.out;omega
   clear HD HX HQ hs1 hs2 hs3 HST HO2;go_wp2_with (first|(with_reducible refine ldZ 32 HH2.out ?_)|(with_reducible refine wpList_store_mid (op:=⟨none,_,_,_,_,_⟩) rfl 73 _ _ rfl b (i*3) #[.int .i64 kr,.int .i64 kt,.int .i64 kn] rfl rfl HTH.out (by kernel_rfl) (by kernel_rfl) ?_));go_roundg (k1-1)
   case measure=>have:=HIN.out;omega
   case rel=>exact⟨i+1,j+1,L.set i ⟨kr,kt,kn⟩,by have:=HIN.out;omega,by have:=HIN.out;omega,by rw[IntWalk.wrap64_in _ (by have h1_:=HDI.out;have h2_:=HNB.out;omega)];go_num,by rw[IntWalk.wrap64_in _ (by have h1_:=HIN.out;have h2_:=HNB.out;omega)];go_num,HD2,HO3,HB3⟩
theorem owo_lo (p:Lc3->Bool)(l:List Lc3)(A:Option Addr)(n c:Nat)(g:Nat)(w:World)(hs:SlO lcC 3 w A n c l)(hn:n<=1000)
  (HE:Hid (∀(x:Lc3) W,Below w.heap.size w W->Calls Tryz.prog 106 #[.agg (lcA x),.pointer (some ⟨g,0,none⟩)] W fun e w'=>e= .returned (.bool (p x))/\Below W.heap.size W w')):
  Calls Tryz.prog 105 #[.slice A n c,.func (.func 106) #[] #[.pointer (some ⟨g,0,none⟩)]] w fun e w'=> ∃X k x,e= .returned (.slice X k x)/\OwR lcC 3 73 w.heap.size w' X k x (l.filter fun k=>!p k)/\Below w.heap.size w w':=by
 have H:=zq (oclonel_any A n c l w hs hn);have HN:=zq hn;clear hs hn;go_enter Tryz.func105,Tryz.ntmps105;go_wp2_with fail;refine H.out.mono ?_;rintro e w1 ⟨X,x,rfl,ho1,hb1⟩;have HO1:=zq ho1;have HB1:=zq hb1;clear ho1 hb1 H;go_wp2_with fail;refine(odf_lo p l X n x w.heap.size g w1 HO1.out HN.out HB1.out.size (zq fun y W hW=>HE.out y W (HB1.out.trans hW))).mono ?_;rintro e w2 ⟨k,rfl,ho2,hb2⟩;have HO2:=zq ho2;have HB2:=zq (HB1.out.trans hb2);clear ho2 hb2 HO1 HB1;go_wp2;go_ret
 exact⟨X,k,x,rfl,HO2.out,HB2.out⟩
theorem of_eq16 (l:List Lc3)(train:Int):(l.filter fun k=>!(!(k.train==train)))=ofL l train:=by
 unfold ofL
 congr 1
 funext k
 rw[Bool.not_not]
theorem oolof_any (l:List Lc3)(train:Int)(A:Option Addr)(n c:Nat)(w:World)(hs:SlO lcC 3 w A n c l)(hn:n<=1000):
  Calls Tryz.prog 40 #[.slice A n c,.int .i64 train] w fun r w'=> ∃X k x,r= .returned (.slice X k x)/\LkT w' X k x (ofL l train)/\Below w.heap.size w w':=by
 obtain⟨wa,hwa,hbwa,HWA,HBWA,h0⟩:=bx1Z w 3 #[.int .i64 train];have n0:wa.cell? ⟨w.heap.size,0,none⟩=some (.int .i64 train):=h0.cell 0;have H:=zq (owo_lo (fun k=>!(k.train==train)) l A n c (w.heap.size) wa (hs.under hbwa) hn (zq fun x W hW=>olco_any x train (w.heap.size) W ((hW.cell (cell_block n0)).trans n0)));rw[of_eq16]at H;generalize ofL l train=R at*;clear hwa hbwa h0 hs n0 hn;go_enter Tryz.func40,Tryz.ntmps40;go_upto_region 1 with fail;rw[HWA.out];clear HWA;go_wp2_with fail;refine H.out.mono ?_;rintro e_ w1 ⟨X,k,x,rfl,ho1,hb1⟩;have HO1:=zq (LkT.of_own ho1);have HB1:=tB HBWA hb1;clear hb1 ho1 H HBWA;go_wp2;go_ret
 exact⟨X,k,x,rfl,HO1.out,HB1.out⟩
end
section
open Go.RowKit
open Go.Great
theorem find_some17 {α:Type}{p:α->Bool}{l:List α}{i:Nat}{x:α}(hx:l[i]?=some x)(hp:p x=true)(hno: ∀j y,j<i->l[j]?=some y->p y=false):l.find? p=some x:=by
 rw[List.find?_eq_some_iff_append];obtain⟨hi,e⟩:=List.getElem?_eq_some_iff.1 hx;refine⟨hp,l.take i,l.drop (i+1),?_,fun y hy=>?_⟩
 ·rw[<-e,<-List.drop_eq_getElem_cons hi,List.take_append_drop]
 ·obtain⟨j,hj,rfl⟩:=List.getElem_of_mem hy
  rw[List.length_take]at hj;rw[List.getElem_take,hno j _ (by omega) (List.getElem?_eq_getElem (by omega))]
  rfl
theorem chain_next17 {t:Tp3}{l:List Lc3}{train:Int}{s:St3}{k:Nat}{q:List Lc3}{y:Lc3}(hk:k<8)(h:l.find? (okC t train s q)=some y):chainGo t l train s (8-k) q=chainGo t l train s (8-(k+1)) (q++[y]):=by
 rw[show 8-k=(8-(k+1))+1 by omega,chainGo,h]
theorem chain_stop17 {t:Tp3}{l:List Lc3}{train:Int}{s:St3}{k:Nat}{q:List Lc3}(h: ¬k<8\/l.find? (okC t train s q)=none):chainGo t l train s (8-k) q=q:=by
 cases hq:8-k with
 |zero=>rfl
 |succ j=>
  rcases h with h|h
  ·omega
  ·rw[chainGo,h]
theorem okC_rt {t:Tp3}{train:Int}{s:St3}{q:List Lc3}{y:Lc3}(h:okC t train s q y=true):(routeF t y.route).isSome=true:=by
 unfold okC at h;simp only[Bool.and_eq_true]at h;exact h.1.2
theorem path_some17 {t:Tp3}(hc:checkE t=0){id:Int}(h:(routeF t id).isSome=true):1<=(pathR t id).length:=by
 obtain⟨r,h1,h2,h3⟩:=route_path hc h;rw[h2];have h4:=(route_ok h3).2.1;omega
theorem last_at17 {l:List St3}(h:1<=l.length):l[l.length-1]?=some (lastS l):=by
 unfold lastS;rw[List.getLastD_eq_getLast?,List.getLast?_eq_getElem?,List.getElem?_eq_getElem (by omega)]
 rfl
end
section
structure VRow where
 name:ByteArray
 width:Nat
 most:Int
 special:Int
def vrows:List VRow:=[
 ⟨⟨#[78,73,68,95,77,69,83,83,65,71,69]⟩,8,-1,-1⟩,
 ⟨⟨#[76,95,77,69,83,83,65,71,69]⟩,10,-1,-1⟩,
 ⟨⟨#[84,95,84,82,65,73,78]⟩,32,-1,-1⟩,
 ⟨⟨#[77,95,65,67,75]⟩,1,-1,-1⟩,
 ⟨⟨#[78,73,68,95,76,82,66,71]⟩,24,-1,-1⟩,
 ⟨⟨#[78,73,68,95,80,65,67,75,69,84]⟩,8,-1,-1⟩,
 ⟨⟨#[81,95,68,73,82]⟩,2,2,-1⟩,
 ⟨⟨#[76,95,80,65,67,75,69,84]⟩,13,-1,-1⟩,
 ⟨⟨#[81,95,83,67,65,76,69]⟩,2,2,-1⟩,
 ⟨⟨#[78,73,68,95,69,78,71,73,78,69]⟩,24,-1,-1⟩,
 ⟨⟨#[78,73,68,95,67]⟩,10,-1,-1⟩,
 ⟨⟨#[78,73,68,95,66,71]⟩,14,-1,-1⟩,
 ⟨⟨#[81,95,78,69,87,67,79,85,78,84,82,89]⟩,1,-1,-1⟩,
 ⟨⟨#[68,95,76,82,66,71]⟩,15,-1,-1⟩,
 ⟨⟨#[81,95,68,73,82,76,82,66,71]⟩,2,2,-1⟩,
 ⟨⟨#[81,95,68,76,82,66,71]⟩,2,2,-1⟩,
 ⟨⟨#[76,95,68,79,85,66,84,79,86,69,82]⟩,15,-1,-1⟩,
 ⟨⟨#[76,95,68,79,85,66,84,85,78,68,69,82]⟩,15,-1,-1⟩,
 ⟨⟨#[81,95,76,69,78,71,84,72]⟩,2,-1,-1⟩,
 ⟨⟨#[76,95,84,82,65,73,78,73,78,84]⟩,15,-1,-1⟩,
 ⟨⟨#[86,95,84,82,65,73,78]⟩,7,120,127⟩,
 ⟨⟨#[81,95,68,73,82,84,82,65,73,78]⟩,2,2,-1⟩,
 ⟨⟨#[77,95,77,79,68,69]⟩,4,14,-1⟩,
 ⟨⟨#[77,95,76,69,86,69,76]⟩,3,4,-1⟩,
 ⟨⟨#[78,73,68,95,78,84,67]⟩,8,-1,-1⟩,
 ⟨⟨#[86,95,69,77,65]⟩,7,120,-1⟩,
 ⟨⟨#[84,95,69,77,65]⟩,10,-1,-1⟩,
 ⟨⟨#[78,95,73,84,69,82]⟩,5,-1,-1⟩,
 ⟨⟨#[76,95,83,69,67,84,73,79,78]⟩,15,-1,-1⟩,
 ⟨⟨#[81,95,83,69,67,84,73,79,78,84,73,77,69,82]⟩,1,-1,-1⟩,
 ⟨⟨#[84,95,83,69,67,84,73,79,78,84,73,77,69,82]⟩,10,-1,-1⟩,
 ⟨⟨#[68,95,83,69,67,84,73,79,78,84,73,77,69,82,83,84,79,80,76,79,67]⟩,15,-1,-1⟩,
 ⟨⟨#[76,95,69,78,68,83,69,67,84,73,79,78]⟩,15,-1,-1⟩,
 ⟨⟨#[81,95,69,78,68,84,73,77,69,82]⟩,1,-1,-1⟩,
 ⟨⟨#[84,95,69,78,68,84,73,77,69,82]⟩,10,-1,-1⟩,
 ⟨⟨#[68,95,69,78,68,84,73,77,69,82,83,84,65,82,84,76,79,67]⟩,15,-1,-1⟩,
 ⟨⟨#[81,95,68,65,78,71,69,82,80,79,73,78,84]⟩,1,-1,-1⟩,
 ⟨⟨#[68,95,68,80]⟩,15,-1,-1⟩,
 ⟨⟨#[86,95,82,69,76,69,65,83,69,68,80]⟩,7,120,126⟩,
 ⟨⟨#[81,95,79,86,69,82,76,65,80]⟩,1,-1,-1⟩,
 ⟨⟨#[68,95,83,84,65,82,84,79,76]⟩,15,-1,-1⟩,
 ⟨⟨#[84,95,79,76]⟩,10,-1,-1⟩,
 ⟨⟨#[68,95,79,76]⟩,15,-1,-1⟩,
 ⟨⟨#[86,95,82,69,76,69,65,83,69,79,76]⟩,7,120,126⟩,
 ⟨⟨#[68,95,76,73,78,75]⟩,15,-1,-1⟩,
 ⟨⟨#[81,95,76,73,78,75,79,82,73,69,78,84,65,84,73,79,78]⟩,1,-1,-1⟩,
 ⟨⟨#[81,95,76,73,78,75,82,69,65,67,84,73,79,78]⟩,2,2,-1⟩,
 ⟨⟨#[81,95,76,79,67,65,67,67]⟩,6,-1,-1⟩,
 ⟨⟨#[68,95,71,82,65,68,73,69,78,84]⟩,15,-1,-1⟩,
 ⟨⟨#[81,95,71,68,73,82]⟩,1,-1,-1⟩,
 ⟨⟨#[71,95,65]⟩,8,-1,-1⟩,
 ⟨⟨#[68,95,83,84,65,84,73,67]⟩,15,-1,-1⟩,
 ⟨⟨#[86,95,83,84,65,84,73,67]⟩,7,120,127⟩,
 ⟨⟨#[81,95,70,82,79,78,84]⟩,1,-1,-1⟩,
 ⟨⟨#[78,67,95,68,73,70,70]⟩,4,-1,-1⟩,
 ⟨⟨#[86,95,68,73,70,70]⟩,7,120,-1⟩,
 ⟨⟨#[68,95,77,65,77,79,68,69]⟩,15,-1,-1⟩,
 ⟨⟨#[77,95,77,65,77,79,68,69]⟩,2,2,-1⟩,
 ⟨⟨#[86,95,77,65,77,79,68,69]⟩,7,120,127⟩,
 ⟨⟨#[76,95,77,65,77,79,68,69]⟩,15,-1,-1⟩,
 ⟨⟨#[76,95,65,67,75,77,65,77,79,68,69]⟩,15,-1,-1⟩,
 ⟨⟨#[81,95,77,65,77,79,68,69]⟩,1,-1,-1⟩,
 ⟨⟨#[81,95,82,66,67]⟩,1,-1,-1⟩,
 ⟨⟨#[78,73,68,95,82,66,67]⟩,14,-1,-1⟩,
 ⟨⟨#[78,73,68,95,82,65,68,73,79]⟩,32,-1,-1⟩,
 ⟨⟨#[81,95,83,76,69,69,80,83,69,83,83,73,79,78]⟩,1,-1,-1⟩,
 ⟨⟨#[84,95,77,65,82]⟩,8,-1,-1⟩,
 ⟨⟨#[84,95,84,73,77,69,79,85,84,82,81,83,84]⟩,10,-1,-1⟩,
 ⟨⟨#[84,95,67,89,67,82,81,83,84]⟩,8,-1,-1⟩,
 ⟨⟨#[84,95,67,89,67,76,79,67]⟩,8,-1,-1⟩,
 ⟨⟨#[68,95,67,89,67,76,79,67]⟩,15,-1,-1⟩,
 ⟨⟨#[77,95,76,79,67]⟩,3,2,-1⟩,
 ⟨⟨#[68,95,76,79,67]⟩,15,-1,-1⟩,
 ⟨⟨#[81,95,76,71,84,76,79,67]⟩,1,-1,-1⟩,
 ⟨⟨#[78,73,68,95,80,82,86,76,82,66,71]⟩,24,-1,-1⟩,
 ⟨⟨#[78,73,68,95,79,80,69,82,65,84,73,79,78,65,76]⟩,32,-1,-1⟩,
 ⟨⟨#[78,67,95,84,82,65,73,78]⟩,15,-1,-1⟩,
 ⟨⟨#[76,95,84,82,65,73,78]⟩,12,-1,-1⟩,
 ⟨⟨#[86,95,77,65,88,84,82,65,73,78]⟩,7,120,-1⟩,
 ⟨⟨#[77,95,76,79,65,68,73,78,71,71,65,85,71,69]⟩,8,-1,-1⟩,
 ⟨⟨#[77,95,65,88,76,69,76,79,65,68]⟩,7,-1,-1⟩,
 ⟨⟨#[77,95,65,73,82,84,73,71,72,84]⟩,2,1,-1⟩,
 ⟨⟨#[77,95,84,82,65,67,84,73,79,78]⟩,8,-1,-1⟩,
 ⟨⟨#[78,73,68,95,83,84,77]⟩,8,-1,-1⟩,
 ⟨⟨#[68,95,86,65,76,73,68,78,86]⟩,15,-1,-1⟩,
 ⟨⟨#[86,95,78,86,83,72,85,78,84]⟩,7,120,-1⟩,
 ⟨⟨#[84,95,78,86,67,79,78,84,65,67,84]⟩,8,-1,-1⟩,
 ⟨⟨#[77,95,78,86,67,79,78,84,65,67,84]⟩,2,2,-1⟩,
 ⟨⟨#[78,73,68,95,69,77]⟩,4,-1,-1⟩,
 ⟨⟨#[68,95,82,69,70]⟩,16,-1,-1⟩,
 ⟨⟨#[68,95,69,77,69,82,71,69,78,67,89,83,84,79,80]⟩,15,-1,-1⟩,
 ⟨⟨#[81,95,69,77,69,82,71,69,78,67,89,83,84,79,80]⟩,2,-1,-1⟩,
 ⟨⟨#[77,95,86,69,82,83,73,79,78]⟩,7,-1,-1⟩,
 ⟨⟨#[81,95,83,84,65,84,85,83]⟩,2,-1,-1⟩,
 ⟨⟨#[81,95,77,65,82,81,83,84,82,69,65,83,79,78]⟩,5,-1,-1⟩,
 ⟨⟨#[68,95,83,82]⟩,15,-1,-1⟩]
def vnone:VRow:=⟨ByteArray.empty,0,0,0⟩
def vrow (v:Int):VRow:=if 0<=v/\v<96 then vrows.getD v.toNat vnone else vnone
theorem vrow_in {v:Int}(h:0<=v/\v<96):vrow v=vrows.getD v.toNat vnone:=if_pos h
theorem vrow_out {v:Int}(h: ¬(0<=v/\v<96)):vrow v=vnone:=if_neg h
theorem vrows_length:vrows.length=96:=by decide
def widthOf (v:Int):Nat:=(vrow v).width
def mostOf (v:Int):Int:=if(vrow v).most<0 then 2^widthOf v-1 else(vrow v).most
def specialOf (v:Int):Int:=if(vrow v).special<0 then 0 else(vrow v).special
def greatestOf (v:Int):Int:=2^widthOf v-1
def mayOf (v n:Int):Bool:=decide (0<=v/\v<96) &&decide (0<=n) &&(decide (n<=mostOf v)||(decide (specialOf v≠0) &&decide (specialOf v<=n) &&decide (n<=greatestOf v)))
theorem vall (p:Nat->Bool)(h:(List.range 96).all p=true)(v:Int)(h0:0<=v)(h1:v<96):p v.toNat=true:=
 List.all_eq_true.1 h v.toNat (List.mem_range.2 (by omega))
end
section
open Go.RowKit
def Wd (w:World):Prop:= ∀i,i<96->w.cell? ⟨0,i,none⟩=some (.int .i64 (((vrows.getD i vnone).width:Nat):Int))
theorem Wd.under {w w':World}(h:Wd w)(hb:Below w.heap.size w w'):Wd w':=fun i hi=>by
 rw[hb.cell (cell_block (h i hi))];exact h i hi
theorem exists_yes (v:Int)(h0:0<=v)(h1:v<96)(w:World):
  Calls Tryz.prog 242 #[.int .i64 v] w fun e w'=>e= .returned (.bool true)/\w=w':=by
 go_enter Tryz.func242,Tryz.ntmps242;go_wp2;go_ret
 exact⟨rfl,rfl⟩
theorem exists_no (v:Int)(h: ¬(0<=v/\v<96))(w:World):
  Calls Tryz.prog 242 #[.int .i64 v] w fun e w'=>e= .returned (.bool false)/\w=w':=by
 by_cases h0:0<=v
 ·have h1: ¬v<96:=by omega
  clear h;go_enter Tryz.func242,Tryz.ntmps242;go_wp2;go_ret
  exact⟨rfl,rfl⟩
 ·clear h
  go_enter Tryz.func242,Tryz.ntmps242;go_wp2;go_ret
  exact⟨rfl,rfl⟩
theorem width_any (v:Int)(w:World)(hw:Wd w):
  Calls Tryz.prog 212 #[.int .i64 v] w fun e w'=>e= .returned (.int .i64 ((widthOf v:Nat):Int))/\w=w':=by
 by_cases h:0<=v/\v<96
 ·have hc:=hw v.toNat (by omega)
  rw[widthOf,vrow_in h];generalize (vrows.getD v.toNat vnone).width=W at*;obtain⟨h0,h1⟩:=h;have HW:=zq hw;clear hw;go_enter Tryz.func212,Tryz.ntmps212;go_wp2_with fail;refine(exists_yes v h0 h1 w).mono ?_;rintro e w' ⟨rfl,rfl⟩;go_wp2;go_ret
  exact⟨rfl,rfl⟩
 ·rw[widthOf,vrow_out h]
  have H:=zq h;clear h hw;go_enter Tryz.func212,Tryz.ntmps212;go_wp2_with fail;refine(exists_no v H.out w).mono ?_;rintro e w' ⟨rfl,rfl⟩;go_wp2;go_ret
  exact⟨rfl,rfl⟩
theorem width_le (v:Int):widthOf v<=32:=by
 by_cases h:0<=v/\v<96
 ·have:=vall (fun i=>decide ((vrows.getD i vnone).width<=32)) (by decide+kernel) v h.1 h.2
  rw[widthOf,vrow_in h];exact of_decide_eq_true this
 ·rw[widthOf,vrow_out h];decide
theorem greatest_any (v:Int)(w:World)(hw:Wd w):
  Calls Tryz.prog 265 #[.int .i64 v] w fun e w'=>e= .returned (.int .i64 (greatestOf v))/\w=w':=by
 have hle:=width_le v;have c:=width_any v w hw;rw[greatestOf];generalize widthOf v=W at*;obtain⟨P,hP⟩: ∃P,P=2^W:=⟨_,rfl⟩
 have hP1:1<=P:=by rw[hP];exact Nat.one_le_two_pow
 have hP2:P<=2^32:=by rw[hP];exact Nat.pow_le_pow_right (by omega) hle
 have e:((2:Int)^W)=(P:Int):=by rw[hP];simp
 rw[e];have C:=zq c;clear c;have HP:=zq hP;clear hP;have HW:=zq hw;clear hw;go_enter Tryz.func265,Tryz.ntmps265;go_wp2_with fail;refine C.out.mono ?_;rintro e w' ⟨rfl,rfl⟩;go_wp2;go_ret
 exact⟨rfl,rfl⟩
theorem special_none (v:Int)(h: ¬(v=38\/v=43\/v=20\/v=52\/v=58)):specialOf v=0:=by
 by_cases hv:0<=v/\v<96
 ·have:=vall (fun i=>decide ((vrows.getD i vnone).special<0\/i=38\/i=43\/i=20\/i=52\/i=58)) (by decide+kernel) v hv.1 hv.2
  have:=of_decide_eq_true this;rw[specialOf,vrow_in hv,if_pos (by omega)]
 ·rw[specialOf,vrow_out hv];rfl
theorem special_any (v:Int)(w:World):
  Calls Tryz.prog 263 #[.int .i64 v] w fun e w'=>e= .returned (.int .i64 (specialOf v))/\w=w':=by
 by_cases h:v=38\/v=43\/v=20\/v=52\/v=58
 ·rcases h with rfl|rfl|rfl|rfl|rfl
  all_goals
   go_enter Tryz.func263,Tryz.ntmps263;go_wp2;go_ret
   exact⟨by kernel_rfl,rfl⟩
 ·rw[special_none v h]
  have h1:v≠38:=by omega
  have h2:v≠43:=by omega
  have h3:v≠20:=by omega
  have h4:v≠52:=by omega
  have h5:v≠58:=by omega
  clear h;go_enter Tryz.func263,Tryz.ntmps263;go_wp2;go_ret
  exact⟨rfl,rfl⟩
theorem most_else (v:Int)(h: ¬(v=81\/v=6\/v=8\/v=14\/v=15\/v=21\/v=46\/v=57\/v=71\/v=87\/v=23\/v=22\/v=20\/v=25\/v=38\/v=43\/v=52\/v=55\/v=58\/v=78\/v=85)):mostOf v=greatestOf v:=by
 by_cases hv:0<=v/\v<96
 ·have:=vall (fun i=>decide ((vrows.getD i vnone).most<0\/i=81\/i=6\/i=8\/i=14\/i=15\/i=21\/i=46\/i=57\/i=71\/i=87\/i=23\/i=22\/i=20\/i=25\/i=38\/i=43\/i=52\/i=55\/i=58\/i=78\/i=85)) (by decide+kernel) v hv.1 hv.2
  have:=of_decide_eq_true this;rw[mostOf,vrow_in hv,if_pos (by omega),greatestOf]
 ·rw[mostOf,greatestOf,widthOf,vrow_out hv];rfl
theorem most_any (v:Int)(w:World)(hw:Wd w):
  Calls Tryz.prog 264 #[.int .i64 v] w fun e w'=>e= .returned (.int .i64 (mostOf v))/\w=w':=by
 by_cases h:v=81\/v=6\/v=8\/v=14\/v=15\/v=21\/v=46\/v=57\/v=71\/v=87\/v=23\/v=22\/v=20\/v=25\/v=38\/v=43\/v=52\/v=55\/v=58\/v=78\/v=85
 ·clear hw
  rcases h with rfl|rfl|rfl|rfl|rfl|rfl|rfl|rfl|rfl|rfl|rfl|rfl|rfl|rfl|rfl|rfl|rfl|rfl|rfl|rfl|rfl
  all_goals
   go_enter Tryz.func264,Tryz.ntmps264;go_wp2;go_ret
   exact⟨by kernel_rfl,rfl⟩
 ·rw[most_else v h]
  have c:=greatest_any v w hw;generalize greatestOf v=G at*;have C:=zq c;clear c hw;have h81:v≠81:=by omega
  have h6:v≠6:=by omega
  have h8:v≠8:=by omega
  have h14:v≠14:=by omega
  have h15:v≠15:=by omega
  have h21:v≠21:=by omega
  have h46:v≠46:=by omega
  have h57:v≠57:=by omega
  have h71:v≠71:=by omega
  have h87:v≠87:=by omega
  have h23:v≠23:=by omega
  have h22:v≠22:=by omega
  have h20:v≠20:=by omega
  have h25:v≠25:=by omega
  have h38:v≠38:=by omega
  have h43:v≠43:=by omega
  have h52:v≠52:=by omega
  have h55:v≠55:=by omega
  have h58:v≠58:=by omega
  have h78:v≠78:=by omega
  have h85:v≠85:=by omega
  clear h;go_enter Tryz.func264,Tryz.ntmps264;go_wp2_with fail;refine C.out.mono ?_;rintro e w' ⟨rfl,rfl⟩;go_wp2;go_ret
  exact⟨rfl,rfl⟩
end
namespace BitsM
def num (l:List Bool):Nat:=l.foldl (fun a b=>2*a+b.toNat) 0
theorem num_snoc (l:List Bool)(b:Bool):num (l++[b])=2*num l+b.toNat:=by simp[num,List.foldl_append]
theorem list_snoc_ind {p:List Bool->Prop}(h0:p [])(h1: ∀l b,p l->p (l++[b])): ∀l,p l:=by
 intro l;have: ∀n,∀l:List Bool,l.length=n->p l:=by
  intro n
  induction n with
  |zero=>intro l hl;have:l=[]:=List.eq_nil_of_length_eq_zero hl;subst this;exact h0
  |succ n ih=>
   intro l hl;have hne:l≠[]:=by intro e;subst e;simp at hl
   rw[<-List.dropLast_concat_getLast hne];exact h1 _ _ (ih _ (by simp;omega))
 exact this _ l rfl
theorem num_testBit (l:List Bool): ∀j,(num l).testBit j=(decide (j<l.length) &&l.getD (l.length-1-j) false):=by
 refine list_snoc_ind (p:=fun l=> ∀j,(num l).testBit j=(decide (j<l.length) &&l.getD (l.length-1-j) false)) (by intro j;simp[num]) (fun l b ih j=>?_) l;rw[num_snoc]
 cases j with
 |zero=>
  rw[Nat.testBit_zero]
  cases b<;>simp[Nat.add_mod]
 |succ j=>
  rw[Nat.testBit_succ];have e:(2*num l+b.toNat)/2=num l:=by cases b<;>simp<;>omega
  rw[e,ih j];simp only[List.length_append,List.length_singleton];by_cases hj:j<l.length
  ·have h1:l.length+1-1-(j+1)=l.length-1-j:=by omega
   rw[h1];have h2:l.length-1-j<l.length:=by omega
   simp[hj,List.getD_eq_getElem?_getD,List.getElem?_append_left h2]
  ·simp[hj]
theorem num_eq_of {l:List Bool}{n:Nat}(hn:n<2^l.length)(h: ∀j,j<l.length->n.testBit j=l.getD (l.length-1-j) false):num l=n:=by
 apply Nat.eq_of_testBit_eq
 intro j;rw[num_testBit];by_cases hj:j<l.length
 ·simp[hj,h j hj]
 ·have:n.testBit j=false:=Nat.testBit_lt_two_pow (Nat.lt_of_lt_of_le hn (Nat.pow_le_pow_right (by omega) (by omega)))
  simp[hj,this]
def wbits (n w j:Nat):List Bool:=(List.range j).map fun k=>n.testBit (w-1-k)
theorem wbits_length (n w j:Nat):(wbits n w j).length=j:=by simp[wbits]
theorem wbits_getD (n w j i:Nat)(h:i<j):(wbits n w j).getD i false=n.testBit (w-1-i):=by
 simp[wbits,List.getD_eq_getElem?_getD,h]
theorem num_wbits (n w:Nat)(h:n<2^w):num (wbits n w w)=n:=by
 apply num_eq_of
 ·simpa[wbits_length]using h
 ·intro j hj
  rw[wbits_length]at hj⊢;rw[wbits_getD _ _ _ _ (by omega)]
  congr 1
  omega
end BitsM
section
open Go.ChangeShapes Go.WideShapes Go.ChangeAt Go.RowKit Go.Deep
def InInts (k:IntKind)(w:World)(A:Option Addr)(n:Nat)(zs:List Int):Prop:=
 zs.length=n/\n<=maxLen/\(0<n-> ∃ad:Addr,A=some ad/\ ∀i,i<n->w.cell? (ad.add i)=some (.int k (zs.getD i 0)))/\ ∀z∈zs,(Lit.int k z).wf=true
end
section
open Go.RowKit Go.ChangeAt
def u8s (l:List Nat):List Value:=l.map fun(n:Nat)=>Value.int .u8 (n:Int)
def At8 (w:World)(A:Option Addr)(xs:List Nat):Prop:=0<xs.length-> ∃ad,A=some ad/\ ∀j v,(u8s xs)[j]?=some v->w.cell? (ad.add j)=some v
def InBytes (w:World)(A:Option Addr)(n:Nat)(xs:List Nat):Prop:=xs.length=n/\n<=maxLen/\At8 w A xs/\ ∀x∈xs,x<256
theorem InInts.bytes {w:World}{A:Option Addr}{n:Nat}{zs:List Int}(h:InInts .u8 w A n zs):InBytes w A n (zs.map Int.toNat):=by
 obtain⟨hl,hm,hc,hwz⟩:=h;have hb: ∀z∈zs,0<=z/\z<=255:=fun z hz=>by have:=hwz z hz;simpa[Lit.wf,IntKind.min,IntKind.max,IntKind.signed,IntKind.bits]using this
 refine⟨by simpa using hl,hm,fun hpos=>?_,fun x hx=>?_⟩
 ·obtain⟨ad,e,hcell⟩:=hc (by simp at hpos;omega)
  refine⟨ad,e,fun j v hv=>?_⟩;have hj:j<n:=by
   have:=(List.getElem?_eq_some_iff.1 hv).1;simp[u8s]at this;omega
  have hj':j<zs.length:=by omega
  rw[hcell j hj,<-hv];have:=hb zs[j] (List.getElem_mem _);simp[u8s,List.getD_eq_getElem?_getD,hj'];omega
 ·simp only[List.mem_map]at hx
  obtain⟨z,hz,rfl⟩:=hx;have:=hb z hz;omega
end
section
open Go.RowKit
open BitsM
def bools (l:List Bool):List Value:=l.map Value.bool
theorem bools_length (l:List Bool):(bools l).length=l.length:=by simp[bools]
def SlB (w:World)(A:Option Addr)(m c:Nat)(bs:List Bool):Prop:=bs.length=m/\Sl w 1 A m c (bools bs)
theorem SlB.under {w w':World}{A:Option Addr}{m c:Nat}{bs:List Bool}(h:SlB w A m c bs)(hb:Below w.heap.size w w'):SlB w' A m c bs:=⟨h.1,h.2.under hb⟩
theorem SlB.grow {w w':World}{A:Option Addr}{m c:Nat}{bs:List Bool}{g:Nat}{t:TypeId}{cs:Array Value}(h:SlB w A m c bs)(hg:w.grownBy w' (some g))(hh:Has w g t cs)(hn: ∀v∈cs,∀b,v≠ .bool b):SlB w' A m c bs:=by
 refine⟨h.1,h.2.1,h.2.2.1,fun ad ha j u hu=>?_⟩;have h0:=h.2.2.2 ad ha j u hu;have hblk:=cell_block h0;have hne:(ad.add j).block≠g:=by
  intro e;clear hblk;generalize ad.add j=a at h0 e;obtain⟨b,off,spot⟩:=a;have e':b=g:=e;subst e';have hs:spot=none:=World.cell?_spot h0;subst hs;rw[hh.cell]at h0;have hmem:=Array.mem_of_getElem? h0;have hu':u∈bools bs:=List.mem_of_getElem? hu;simp only[bools,List.mem_map]at hu';obtain⟨b,_,rfl⟩:=hu';exact hn _ hmem b rfl
 rw[World.cell?_of_block (hg.block (ad.add j).block hblk (fun e=>hne (by injection e)))];exact h0
end
section
open Go.RowKit
open BitsM
theorem SlB.cut {w:World}{A:Option Addr}{m c:Nat}{bs:List Bool}(h:SlB w A m c bs)(hmc:m<=c){k:Nat}(hk:k<=m)(b off:Nat)(hA:A=some ⟨b,off,none⟩):
  SlB w (if c=k then some ⟨b,off,none⟩else some ⟨b,off+k,none⟩) (m-k) (c-k) (bs.drop k):=by
 have hl:=h.1;refine⟨by rw[List.length_drop];omega,by rw[bools_length,List.length_drop];omega,fun e=>?_,fun ad ha j u hu=>?_⟩
 ·split at e<;>cases e
 ·have hu':(bools bs)[k+j]?=some u:=by
   unfold bools at hu⊢;rw[List.getElem?_map,List.getElem?_drop]at hu;rw[List.getElem?_map];exact hu
  have hj:k+j<bs.length:=by
   have:=(List.getElem?_eq_some_iff.1 hu').1
   rwa [bools_length]at this
  have hck:c≠k:=by omega
  rw[if_neg hck]at ha;injection ha with ha
  subst ha;have h0:=h.2.2.2 _ hA (k+j) u hu';rw[WideShapes.add_plain]at h0⊢;rw[Nat.add_assoc];exact h0
end
section
open Go.RowKit
theorem cut_from {P:Program}(t e:TypeId)(h:P.underlying t=some (.slice e))(_he:P.elem t=e)(hs:(P.info? e).map (·.size)=some 1)(A:Option Addr)(n c p:Nat)(hp:p<=n)(w:World):
  (Instr.sliceAt t (.slice A n c) (some (.int .i64 (p:Nat))) none none).run P w= .ok (.slice (if c=p then A else A.map (·.add (p*1))) (n-p) (c-p)) w:=by
 have e1:(sizeOf e).run P w= .ok 1 w:=by
  cases hi:P.info? e with
  |none=>rw[hi]at hs;cases hs
  |some i=>
   rw[hi]at hs;simp only[Option.map_some,Option.some.injEq]at hs;simp[sizeOf,run_typeInfo _ hi,hs]
 have h0:(0:Int)<=(p:Nat):=by omega
 have h1:((p:Nat):Int)<=(n:Nat):=by omega
 simp[Instr.sliceAt,Instr.slice,run_underlying h,Instr.sliceBounds,run_sliceBound,h0,h1,e1]
theorem Sl.from_ {w:World}{A:Option Addr}{n c:Nat}{vs:List Value}(h:Sl w 1 A n c vs)(hc:n<=c){p:Nat}(hp:p<=n):Sl w 1 (if c=p then A else A.map (·.add (p*1))) (n-p) (c-p) (vs.drop p):=by
 have hl:vs.length=n:=by have:=h.1;omega
 refine⟨by rw[List.length_drop];omega,fun e=>?_,fun ad ha j u hu=>?_⟩
 ·cases A with
  |none=>have:=h.2.1 rfl;omega
  |some a=>
   rw[Option.map_some]at e;split at e<;>cases e
 ·have hj:j<n-p:=by
   have:=(List.getElem?_eq_some_iff.1 hu).1;rw[List.length_drop]at this;omega
  rw[List.getElem?_drop]at hu;rw[if_neg (by omega)]at ha
  cases A with
  |none=>cases ha
  |some a=>
   rw[Option.map_some]at ha;injection ha with ha
   subst ha;have h0:=h.2.2 a rfl (p+j) u hu;have e:(a.add (p*1)).add j=a.add (p+j):=by
    unfold Addr.add;by_cases h1:p=0
    ·subst h1;simp
    ·by_cases h2:j=0
     ·subst h2;simp[h1]
     ·simp[h1,h2,Nat.add_assoc]
   rw[e];exact h0
theorem Sl.to_ {w:World}{A:Option Addr}{n c:Nat}{vs:List Value}(h:Sl w 1 A n c vs){p:Nat}(hp:p<=n):Sl w 1 (if c=0 then A else A.map (·.add (0*1))) p c (vs.take p):=by
 have hl:vs.length=n:=by have:=h.1;omega
 refine⟨by rw[List.length_take];omega,fun e=>?_,fun ad ha j u hu=>?_⟩
 ·cases A with
  |none=>have:=h.2.1 rfl;omega
  |some a=>
   rw[Option.map_some]at e;split at e<;>cases e
 ·have hj:j<p:=by
   have:=(List.getElem?_eq_some_iff.1 hu).1;rw[List.length_take]at this;omega
  rw[List.getElem?_take_of_lt hj]at hu
  cases A with
  |none=>split at ha<;>cases ha
  |some a=>
   rw[Option.map_some]at ha;have e:(a.add (0*1))=a:=by unfold Addr.add;simp
   rw[e]at ha;have ha':ad=a:=by split at ha<;>(injection ha with ha;exact ha.symm)
   subst ha';exact h.2.2 ad rfl j u hu
theorem from_block {A:Option Addr}{c p:Nat}: ∀a',(if c=p then A else A.map (·.add (p*1)))=some a'-> ∃a,A=some a/\a'.block=a.block:=by
 intro a' h
 cases A with
 |none=>split at h<;>cases h
 |some a=>
  refine⟨a,rfl,?_⟩;rw[Option.map_some]at h;split at h<;>(injection h with h;rw[<-h])
  unfold Addr.add;split<;>rfl
end
end Go.Proofs.YtahadmeilajdgaaGreatDoor
