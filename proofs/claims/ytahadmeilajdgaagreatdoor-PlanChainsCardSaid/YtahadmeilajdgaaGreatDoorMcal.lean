/-
  Our own text, joined.
-/
import Derived.Test.YtahadmeilajdgaaGreatDoorMcak
import Derived.Test.YtahadmeilajdgaaGreatDoorMcab
import Derived.BigQuiet
import Derived.IntWalk
import Derived.Test.YtahadmeilajdgaaGreatDoorMcaa
namespace Go.Proofs.YtahadmeilajdgaaGreatDoor
set_option maxRecDepth 100000
set_option maxHeartbeats 80000000
section
open Go.RowKit
open Go.Great
theorem has17_any (l:List St3)(s:St3)(A:Option Addr)(n c:Nat)(w:World)(hs:SlO stC 2 w A n c l)(hn:n<=1048576):
  Calls Tryz.prog 36 #[.slice A n c,.agg (stA13 s)] w fun r w'=>r= .returned (.bool (amongB l s))/\Below w.heap.size w w':=by
 obtain⟨wa,hwa,hbwa,HWA,HBWA,h0⟩:=bx1Z w 30 (stA13 s);have HX:=zq h0;have HS:=zq (hs.under hbwa);have HL:=zq hs.1;obtain⟨R,hR⟩:=geZ (amongB l s);have HR:=zq hR;rw[hR];clear hwa hbwa h0 hs hR;go_enter Tryz.func36,Tryz.ntmps36;go_upto_region 1 with fail;rw[HWA.out];clear HWA;go_wp2;go_loopg [5] n (fun kk v5 wl=> ∃i nq:Nat,i<=n/\n-i<=kk/\v5= .int .i64 i/\Hid (∀j x,j<i->l[j]?=some x->eqS x s=false)/\wl=wa.drewN nq)
 case atStart=>exact⟨0,0,by omega,by omega,rfl,zq fun j x h=>absurd h (by omega),rfl⟩
 obtain⟨i,nq,hi,hik,rfl,HNO,rfl⟩:=hrel;by_cases hlt:i<n;rotate_left
 ·have x1: ¬(i:Int)<n:=by omega
  have HF:Hid (R=false):=zq (by
   rw[<-HR.out];unfold amongB;rw[List.any_eq_false];intro x hx;obtain⟨j,hj,rfl⟩:=List.getElem_of_mem hx;rw[HNO.out j _ (by have:=HL.out;omega) (List.getElem?_eq_getElem hj)]
   decide)
  go_wp2;go_ret
  exact⟨by rw[HF.out];rfl,below_draws HBWA.out _⟩
 obtain⟨x,hx⟩:=glZ l (i) (by rw[HL.out];exact hlt);obtain⟨bk,off,rfl,d0,d1⟩:=HS.out.step hx;have HXX:=zq hx;clear hx;have x1:(i:Int)<n:=by omega
 have x2:(0:Int)<=i:=by omega
 have q1:=eql_st13 x s;have c0:wa.cell? ⟨w.heap.size,0,none⟩=some (.int .i64 s.edge):=HX.out.cell 0;have c1:wa.cell? ⟨w.heap.size,1,none⟩=some (.bool s.rev):=HX.out.cell 1;generalize hb:eqS x s=b at*;have HBE:=zq hb;clear hb;unfold stA13 at q1;go_upto_region 4 with fail
 cases b with
 |true=>
  have HF:Hid (R=true):=zq (by rw[<-HR.out];unfold amongB;rw[List.any_eq_true];exact⟨x,List.mem_of_getElem? HXX.out,HBE.out⟩);go_quiet (fail);go_wp2;go_ret
  exact⟨by rw[HF.out];rfl,by first|exact below_draws HBWA.out _|(rw[World.drewN_drewN];exact below_draws HBWA.out _)⟩
 |false=>
  go_quiet (fail);go_wp2;go_roundg (gk-1)
  case measure=>omega
  case rel=>
   refine⟨i+1,_,by omega,by omega,by go_num,zq fun j x' hj hx=>?_,by first|rfl|rw[World.drewN_drewN]⟩;by_cases hji:j=i
   ·subst hji;rw[HXX.out]at hx;injection hx with hx;rw[<-hx];exact HBE.out
   ·exact HNO.out j x' (by omega) hx
theorem any_take17c {q:List Lc3}{j:Nat}{z k:Lc3}(h:q[j]?=some z):((q.take (j+1)).any fun x=>eqK x k)=(((q.take j).any fun x=>eqK x k)||eqK z k):=by
 rw[List.take_add_one,h,List.any_append];simp
theorem way_snoc17c {t:Tp3}{l:List Lc3}{i:Nat}{s:Lc3}(hs:l[i]?=some s):wayC t (l.take (i+1))=wayC t (l.take i)++pathR t s.route:=by
 rw[List.take_add_one,hs];unfold wayC;rw[List.flatMap_append];simp
theorem last_at17c {l:List St3}(h:1<=l.length):l[l.length-1]?=some (lastS l):=by
 unfold lastS;rw[List.getLastD_eq_getLast?,List.getLast?_eq_getElem?,List.getElem?_eq_getElem (by omega)]
 rfl
theorem head_at17c {l:List St3}(h:1<=l.length):l[0]?=some (headS l):=by
 unfold headS
 cases l with
 |nil=>cases h
 |cons x r=>rfl
theorem way_few17c {t:Tp3}(hl:lightT t=true)(l:List Lc3):(wayC t l).length<=100*l.length:=by
 induction l with
 |nil=>simp[wayC]
 |cons x r ih=>
  have h1:=path_few17 hl x.route;unfold wayC at ih⊢;rw[List.flatMap_cons,List.length_append,List.length_cons];omega
theorem cells_last17c {W:World}{base gx k c:Nat}{l:List St3}{s:St3}(h:OwR stC 2 30 base W (some ⟨gx,0,none⟩) k c l)(hs:l[k-1]?=some s):W.cell? ⟨gx,(k-1)*2,none⟩=some (.int .i64 s.edge)/\W.cell? ⟨gx,(k-1)*2+1,none⟩=some (.bool s.rev):=by
 have h0:=h.sl.at_cell (fun _=>rfl) (by decide) hs (i:=0) rfl;have h1:=h.sl.at_cell (fun _=>rfl) (by decide) hs (i:=1) rfl;simp only[Nat.zero_add,Nat.add_zero]at h0 h1;exact⟨h0,h1⟩
theorem planChains_walk (t:Tp3)(a:TpA)(A:Option Addr)(n c:Nat)(l:List Lc3)(train:Int)(s:St3)(w:World)(ht:TopR w t a)(hcj:t.joints.length<=a.cj)(hs:SlO lcC 3 w A n c l)(hnc:n<=c)(_:(Lit.int .i64 train).wf=true)(hwd:Wd w):
  Calls Tryz.prog 8 #[.agg (tpC t a),.slice A n c,.int .i64 train,.agg (stA13 s)] w fun e w'=>e= .returned (.bool true)/\Below w.heap.size w w':=by
 obtain⟨wa,hwa,hbwa,HWA,HBWA,h0,h1⟩:=bx2Z w 27 (tpC t a) 30 (stA13 s);have HT:=zq (ht.under hbwa);have HS:=zq (hs.under hbwa);have HNC:=zq hnc;have HCJ:=zq hcj;have HWD:=zq (fun W (hW:Below w.heap.size w W)=>hwd.under hW);clear hwd;have H0:=zq h0;have H1:=zq h1;have HB:=HBWA;obtain⟨lt,hlt⟩: ∃q,lightT t=q:=⟨_,rfl⟩
 have HLT:=zq hlt;clear hwa hbwa h0 h1 ht hcj hlt HBWA hs hnc;go_enter Tryz.func8,Tryz.ntmps8;go_upto_region 1 with fail;rw[HWA.out];clear HWA;go_wp2_with fail;refine(awake17_any wa (HWD.out wa HB.out)).mono ?_;rintro e_ v1 ⟨rfl,hb⟩;have HB:=tB HB hb;have H0:=uH H0 hb;have H1:=uH H1 hb;have HT:=zq (HT.out.under hb);have HS:=zq (HS.out.under hb);clear hb;go_wp2_with (with_reducible refine ldZ 23 H0.out ?_);refine(rlight_any13 t a v1 HT.out).mono ?_;rw[HLT.out];rintro e_ v2 ⟨rfl,hb⟩;have HB:=tB HB hb;have H0:=uH H0 hb;have H1:=uH H1 hb;have HT:=zq (HT.out.under hb);have HS:=zq (HS.out.under hb);clear hb
 cases lt with
 |false=>
  go_wp2;go_ret
  exact⟨by first|rfl|simp,HB.out⟩
 |true=>
 by_cases z1:100<n
 ·have z2:(100:Int)<n:=by omega
  clear z1;go_wp2;go_ret
  exact⟨by first|rfl|simp,HB.out⟩
 have z2: ¬(100:Int)<n:=by omega
 have HN:=zq (show n<=100 by omega);clear z1;have HPC:=zq (fun i x (h:(chainL t l train s)[i]?=some x)=>plan_chains h);have HCP:=zq (chain_p t l train s).2;obtain⟨CL,hCL⟩: ∃L,chainL t l train s=L:=⟨_,rfl⟩
 have HCL:=zq hCL;rw[hCL]at HPC HCP;clear hCL;go_upto_region 5 with fail;clear z2;go_wp2_with (first|(with_reducible refine ldZ 37 H0.out ?_)|(with_reducible refine ldZ 40 H1.out ?_));refine(opn_chain t a l train s A n c v2 HT.out HLT.out HCJ.out HS.out HNC.out HN.out).mono ?_;rw[HCL.out];rintro e_ v3 ⟨X,x,rfl,hk,hb⟩;have HK:=zq hk;clear hk;have HB:=tB HB hb;have H0:=uH H0 hb;have H1:=uH H1 hb;have HT:=zq (HT.out.under hb);have HS:=zq (HS.out.under hb);clear hb;obtain⟨cn,hcn⟩: ∃m,CL.length=m:=⟨_,rfl⟩
 rw[hcn]at HK HCP⊢;have HCN:=zq hcn;clear hcn HCL HNC HCJ HWD;have H0:=zq (fun W (hW:Below v3.heap.size v3 W)=>H0.out.u hW);have H1:=zq (fun W (hW:Below v3.heap.size v3 W)=>H1.out.u hW);have HT:=zq (fun W (hW:Below v3.heap.size v3 W)=>HT.out.under hW);have HS:=zq (fun W (hW:Below v3.heap.size v3 W)=>HS.out.under hW);have HK:=zq (fun W (hW:Below v3.heap.size v3 W)=>HK.out.under hW);go_upto_region 7 with fail;go_wp2;go_loopg [12,13] cn (fun kk v12 v13 wl=> ∃(i yn y:Nat) (Y:Option Addr),i<=cn/\cn-i<=kk/\v13= .int .i64 i/\v12= .slice Y yn y/\Hid (OwR stC 2 30 v3.heap.size wl Y yn y (wayC t (CL.take i)))/\Hid (Below v3.heap.size v3 wl))
 case atStart=>exact⟨0,0,0,none,by omega,by omega,rfl,rfl,zq (by rw[List.take_zero];exact OwR.nil _ _ _ _ _),zq (Below.refl _ _)⟩
 obtain⟨i,yn,y,Y,hi,hik,rfl,rfl,HO,HL⟩:=hrel;obtain⟨k1,hk1⟩: ∃k1,k1=gk:=⟨_,rfl⟩
 subst hk1;obtain⟨wv,hwv⟩: ∃wv,wv=wr:=⟨_,rfl⟩
 subst hwv;by_cases hlt:i<cn;rotate_left
 ·have x1: ¬(i:Int)<cn:=by omega
  have q1:(cn:Int)<=8:=by have:=HCP.out;omega
  have q2:decide ((cn:Int)<=8)=true:=decide_eq_true q1;have HBF:=zq (HB.out.trans (HL.out.mono HB.out.size));clear hi hik hlt;go_wp2;go_ret
  exact⟨by first|rfl|simp|(simp;omega),HBF.out⟩
 obtain⟨z,hz⟩:=glZ CL (i) (by rw[HCN.out];exact hlt);obtain⟨hst,r_,hr1,hr2,hr3,hr4,hr5⟩:=HPC.out i z hz;have HXY:=zq hz;have HWS:=zq (way_snoc17c (t:=t) hz);have HTL:=zq (show(CL.take i).length=i from by rw[List.length_take,HCN.out];omega);obtain⟨bX,oX,hX_,hc⟩:=(HK.out v3 (Below.refl _ _)).1.locks17 hz;subst hX_;have HC:=zq hc;clear hc;obtain⟨kr,kt,kn⟩:=z;obtain rfl:kt=train:=hst.train;have HMEM:=zq hst.mem;have HNEW:=zq hst.new;have HFI:=zq hst.first;have HAP:=zq hst.apart;have HNX:=zq hr5;have HSOM:=zq hst.rt
 dsimp only at hr1 hr2 HWS HC HFI HAP HSOM;have HRP:=zq hr2;have HR3:=zq hr3;have HIN:=zq (show i<cn/\cn-i<=k1 from⟨hlt,hik⟩);clear hz hst hr1 hr2 hr3 hr4 hr5 hlt hik hi;have x1:(i:Int)<cn:=by have:=HIN.out;omega
 go_upto_region 11 with fail;clear x1;go_wp2;go_loopg [14,15] n (fun kk v14 v15 wl=> ∃(j:Nat),j<=n/\n-j<=kk/\v15= .int .i64 j/\v14= .bool ((l.take j).any fun x=>eqK x ⟨kr,kt,kn⟩)/\Hid (Below wv.heap.size wv wl))
 case atStart=>exact⟨0,by omega,by omega,rfl,rfl,zq (Below.refl _ _)⟩
 obtain⟨j,hj,hjk,rfl,rfl,HB3⟩:=hrel;obtain⟨k3,hk3⟩: ∃k3,k3=gk:=⟨_,rfl⟩
 subst hk3;obtain⟨wj,hwj⟩: ∃wj,wj=wr:=⟨_,rfl⟩
 subst hwj;have HLJ:=zq (HL.out.trans (HB3.out.mono HL.out.size));by_cases hjl:j<n
 ·obtain⟨z,hz⟩:=glZ l (j) (by rw[(HS.out _ HLJ.out).1];exact hjl)
  have HTK:=zq (any_take17c (k:=⟨kr,kt,kn⟩) hz);obtain⟨bh,th_⟩: ∃b,((l.take j).any fun x=>eqK x ⟨kr,kt,kn⟩)=b:=⟨_,rfl⟩
  rw[th_]at HTK⊢;clear th_;have y0:(0:Int)<=j:=by omega
  have y1:(j:Int)<n:=by omega
  have HJN:=zq (show j<n/\n-j<=k3 from⟨hjl,hjk⟩);clear hjl hjk hj;go_upto_region 14 with fail
  cases bh with
  |true=>
   clear hz;go_quiet (fail);obtain⟨wz,hwz⟩:=geZ (wj.drewN nq);rw[hwz];have HB4:=zq (show Below wv.heap.size wv wz from by rw[<-hwz];exact below_draws HB3.out _);clear hwz HB3 y0 y1 HLJ;go_wp2;go_roundg (k3-1)
   case measure=>have:=HJN.out;omega
   case rel=>exact⟨j+1,by have:=HJN.out;omega,by have:=HJN.out;omega,by first|go_num|(rw[IntWalk.wrap64_in _ (by have h1_:=HJN.out;have h2_:=HN.out;have h3_:=HCP.out;have h4_:=HIN.out;omega)];go_num),by rw[HTK.out,Bool.true_or],HB4⟩
  |false=>
   obtain⟨b_,o_,e_,f0,f1,f2⟩:=(HS.out _ HLJ.out).lock hz;subst e_;obtain⟨d0,d1,d2⟩:=HC.out _ HLJ.out;have q1:=eql_lc16 z ⟨kr,kt,kn⟩;unfold lcA at q1;dsimp only at q1;obtain⟨ez,hez⟩: ∃b,eqK z ⟨kr,kt,kn⟩=b:=⟨_,rfl⟩
   rw[hez]at q1 HTK;obtain⟨zr,zt,zn⟩:=z;dsimp only at f0 f1 f2 q1;have x1:(i:Int)<cn:=by have:=HIN.out;omega
   have x2:(0:Int)<=i:=by omega
   clear hez hz;go_quiet (fail);obtain⟨wz,hwz⟩:=geZ (wj.drewN nq);rw[hwz];have HB4:=zq (show Below wv.heap.size wv wz from by rw[<-hwz];exact below_draws HB3.out _);clear hwz HB3 y0 y1 f0 f1 f2 d0 d1 d2 q1 x1 x2 HLJ;go_wp2;go_roundg (k3-1)
   case measure=>have:=HJN.out;omega
   case rel=>exact⟨j+1,by have:=HJN.out;omega,by have:=HJN.out;omega,by first|go_num|(rw[IntWalk.wrap64_in _ (by have h1_:=HJN.out;have h2_:=HN.out;have h3_:=HCP.out;have h4_:=HIN.out;omega)];go_num),by rw[HTK.out,Bool.false_or],HB4⟩
 obtain rfl:j=n:=by omega
 have y1: ¬(j:Int)<j:=by omega
 rw[show((l.take j).any fun x=>eqK x ⟨kr,kt,kn⟩)=true from by rw[List.take_of_length_le (by rw[(HS.out _ HLJ.out).1];exact Nat.le_refl _),List.any_eq_true];exact⟨_,HMEM.out,(eqK_iff _ _).2 rfl⟩];obtain⟨u1,hu1⟩: ∃u,u=wj:=⟨_,rfl⟩
 subst hu1;have HL1:=HLJ;have HBU:=HB3;have HOF:=zq (fun W (hW:Below wv.heap.size wv W)=>HO.out.under hW);clear HB3 HLJ hj hjk hjl;go_upto_region 15 with fail;clear y1;go_wp2;go_loopg [14,16] i (fun kk v14 v16 wl=> ∃(m:Nat),m<=i/\i-m<=kk/\v16= .int .i64 m/\v14= .bool true/\Hid (Below u1.heap.size u1 wl))
 case atStart=>exact⟨0,by omega,by omega,rfl,rfl,zq (Below.refl _ _)⟩
 obtain⟨m,hm,hmk,rfl,rfl,HB5⟩:=hrel;obtain⟨k4,hk4⟩: ∃k4,k4=gk:=⟨_,rfl⟩
 subst hk4;obtain⟨wm,hwm⟩: ∃wm,wm=wr:=⟨_,rfl⟩
 subst hwm;have HLM:=zq (HL1.out.trans (HB5.out.mono HL1.out.size));by_cases hml:m<i
 ·obtain⟨z,hz⟩:=glZ CL (m) (by rw[HCN.out];have:=HIN.out;omega)
  have HZM:=zq (show z∈CL.take i from by rw[List.mem_iff_getElem?];exact⟨m,by rw[List.getElem?_take,if_pos hml];exact hz⟩);have HNE:=zq (show eqK z ⟨kr,kt,kn⟩=false from by rw[Bool.eq_false_iff];intro h_;have h2_:=(eqK_iff _ _).1 h_;rw[h2_]at HZM;exact HNEW.out HZM.out);have y0:(0:Int)<=m:=by omega
  have y1:(m:Int)<i:=by omega
  have y2:(m:Int)<cn:=by have:=HIN.out;omega
  have HMN:=zq (show m<i/\i-m<=k4 from⟨hml,hmk⟩);clear hml hmk hm;obtain⟨b_,o_,e_,f0,f1,f2⟩:=(HK.out _ HLM.out).1.lock hz;injection e_ with e_
  injection e_ with e1_ e2_ _
  subst e1_ e2_;obtain⟨d0,d1,d2⟩:=HC.out _ HLM.out;have q1:=neq_lc16 z ⟨kr,kt,kn⟩;unfold lcA at q1;rw[HNE.out]at q1;dsimp only at q1;obtain⟨zr,zt,zn⟩:=z;dsimp only at f0 f1 f2 q1;have x1:(i:Int)<cn:=by have:=HIN.out;omega
  have x2:(0:Int)<=i:=by omega
  clear hz;go_upto_region 18 with fail;go_quiet (fail);obtain⟨wz,hwz⟩:=geZ (wm.drewN nq);rw[hwz];have HB6:=zq (show Below u1.heap.size u1 wz from by rw[<-hwz];exact below_draws HB5.out _);clear hwz HB5 y0 y1 y2 f0 f1 f2 d0 d1 d2 q1 x1 x2 HLM HZM HNE;go_wp2;go_roundg (k4-1)
  case measure=>have:=HMN.out;omega
  case rel=>exact⟨m+1,by have:=HMN.out;omega,by have:=HMN.out;omega,by first|go_num|(rw[IntWalk.wrap64_in _ (by have h1_:=HMN.out;have h2_:=HCP.out;have h4_:=HIN.out;omega)];go_num),rfl,HB6⟩
 obtain rfl:m=i:=by omega
 have y1: ¬(m:Int)<m:=by omega
 obtain⟨u2,hu2⟩: ∃u,u=wm:=⟨_,rfl⟩
 subst hu2;have HL2:=HLM;have HO2:=zq (HOF.out u2 (HBU.out.trans (HB5.out.mono HBU.out.size)));clear HB5 HLM hm hmk hml HOF HBU HL1;have HX:=zq (fun W (hW:Below u2.heap.size u2 W)=>HL2.out.trans (hW.mono HL2.out.size));have x1:(m:Int)<cn:=by have:=HIN.out;omega
 have x2:(0:Int)<=m:=by omega
 obtain⟨R_,hR_⟩: ∃r,routeR t kr=r:=⟨_,rfl⟩
 obtain⟨ri,rpath,rg,rt⟩:=R_;have HRR:=zq hR_;clear hR_;obtain⟨is_,his_⟩: ∃b,(routeF t kr).isSome=b:=⟨_,rfl⟩
 have HIS:=zq his_;clear his_;obtain⟨pn,hpn_⟩: ∃n,rpath.length=n:=⟨_,rfl⟩
 have HPN:=zq hpn_;clear hpn_;obtain rfl:is_=true:=HIS.out.symm.trans HSOM.out;have HPE:=zq (show pathR t kr=rpath from by rw[pathR_of,HRR.out]);have HPF:=zq (show pn<=100 from by rw[<-HPN.out,<-HPE.out];exact path_few17 HLT.out kr);have HP1:=zq (show 1<=pn from by rw[<-HPN.out,<-HPE.out,HRP.out];exact List.length_pos_iff.2 HR3.out);rw[HPE.out]at HWS HFI HAP;go_upto_region 19 with fail;clear y1;go_cut [17,18] (fun s17 s18 wx=>s18= .bool true/\ ∃g7 PA pc,s17= .pointer (some ⟨g7,0,none⟩)/\Has wx g7 75 #[.int .i64 ri,.slice PA pn pc,.int .i64 rg,.int .i64 rt]/\SlO stC 2 wx PA pn pc rpath/\Below u2.heap.size u2 wx)
 case first=>
  refine wp_region_held_drew (S:=(fun W_=>(Has W_ (w.heap.size) 27 (tpC t a))/\(Below u2.heap.size u2 W_))) (by kernel_rfl) ?_ (fun hHeld=>?_)
  ·exact⟨(H0.out _ HL2.out).draw,below_dr11 (Below.refl _ _)⟩
  refine tlZ 0 84 w.heap.size (tpC t a) (fun _ ⟨h_,_⟩=>h_) (h:=?_);simp only[lyZ];refine tkZ 1 85 (h:=?_);simp only[lyZ];refine tkZ 2 86 (h:=?_);simp only[lyZ];refine tkZ 3 87 (h:=?_);simp only[lyZ];refine tkZ 4 88 (h:=?_);simp only[lyZ];refine tqZ 5 89 (fun w_ ⟨s0,s1⟩=>(HC.out w_ (HX.out _ s1)).1) (h:=?_);simp only[lyZ];refine rdZ [6,10] (acZ (some 90) (fun K hK=>?za8) (acZ (some 17) (fun K hK=>?zb8) AllReadyH.nil))
  case' za8=>
   go_simp;obtain⟨s0,s1⟩:=hHeld;refine(otp_routeC t a kr _ (HT.out _ (HX.out _ s1)) HLT.out).mono ?_;rw[HRR.out,HIS.out];dsimp only;rw[HPN.out];rintro e_ q1 ⟨PA,pc,hsp_,-,-,rfl,hb_⟩;unfold rtA;dsimp only;have HSP:=zq (hsp_);go_wp2_with fail;refine hK.out _ _ ?_ (fun hHeld=>?_)
   ·exact⟨s0.u hb_,bu s1 hb_⟩
   clear hK K s0 s1
   try simp only[lyZ]
   refine tkZ 7 83 (h:=?_);simp only[lyZ];refine tkZ 8 91 (h:=?_);simp only[lyZ];refine tkZ 9 92 (h:=?_);simp only[lyZ];refine aoZ 10 (some 17) (fun K hK=>?_);go_simp;obtain⟨s0,s1⟩:=hHeld;obtain⟨g7,hg7⟩:=geZ (q1.heap.size);have p0_g7:w.heap.size<g7:=by rw[<-hg7];exact s0.lt
   have p1_g7:u2.heap.size<=g7:=by rw[<-hg7];exact s1.size
   rw[hg7];refine hK.out _ _ ?_ (fun hHeld=>?_)
   ·exact⟨s0.beside _,below_al11 s1 _⟩
   have HSP:=zq (HSP.out.under ((Below.refl _ _).alloc (Nat.le_refl _) (.cells #[.int .i64 0,.slice none 0 0,.int .i64 0,.int .i64 0] 75)));refine mr2 (fun W_=>(∃o_:Array Value,Has W_ (g7) 75 o_/\o_.size=4/\noB17 o_=true)) ⟨s0.beside _,below_al11 s1 _,⟨#[.int .i64 0,.slice none 0 0,.int .i64 0,.int .i64 0],(by rw[<-hg7];exact Has.made _ _ _),rfl,rfl⟩⟩ (fun h_=>?_);clear hHeld;have hHeld:=h_;clear h_;clear hK K hg7 s0 s1
   try simp only[lyZ]
  case' zb8=>
   go_simp;obtain⟨s0,s1⟩:=hHeld;obtain⟨g7,hg7⟩:=geZ (u2.heap.size);have p0_g7:w.heap.size<g7:=by rw[<-hg7];exact s0.lt
   have p1_g7:u2.heap.size<=g7:=by rw[<-hg7];exact s1.size
   rw[hg7];refine hK.out _ _ ?_ (fun hHeld=>?_)
   ·exact⟨s0.beside _,below_al11 s1 _⟩
   refine mr2 (fun W_=>(∃o_:Array Value,Has W_ (g7) 75 o_/\o_.size=4/\noB17 o_=true)) ⟨s0.beside _,below_al11 s1 _,⟨#[.int .i64 0,.slice none 0 0,.int .i64 0,.int .i64 0],(by rw[<-hg7];exact Has.made _ _ _),rfl,rfl⟩⟩ (fun h_=>?_);clear hHeld;have hHeld:=h_;clear h_;clear hK K hg7 s0 s1
   try simp only[lyZ]
   refine aoZ 6 (some 90) (fun K hK=>?_);go_simp;obtain⟨s0,s1,s2⟩:=hHeld;refine(otp_routeC t a kr _ (HT.out _ (HX.out _ s1)) HLT.out).mono ?_;rw[HRR.out,HIS.out];dsimp only;rw[HPN.out];rintro e_ q1 ⟨PA,pc,hsp_,-,-,rfl,hb_⟩;unfold rtA;dsimp only;have HSP:=zq (hsp_);go_wp2_with fail;refine hK.out _ _ ?_ (fun hHeld=>?_)
   ·exact⟨s0.u hb_,bu s1 hb_,(let ⟨o_,h_,e_⟩:=s2;⟨o_,h_.u hb_,e_⟩)⟩
   clear hK K s0 s1 s2
   try simp only[lyZ]
   refine tkZ 7 83 (h:=?_);simp only[lyZ];refine tkZ 8 91 (h:=?_);simp only[lyZ];refine tkZ 9 92 (h:=?_);simp only[lyZ]
  all_goals
   refine aoZ 11 none (fun K hK=>?_);rw[if_pos (by rfl)];obtain⟨s0,s1,s2⟩:=hHeld;obtain⟨o_,h_,e_⟩:=s2;refine wp_store_row 75 _ _ rfl (g7) #[.int .i64 ri,.slice PA pn pc,.int .i64 rg,.int .i64 rt] (by rfl) (by rfl) 75 o_ h_.raw11 (by kernel_rfl) e_.1 (by kernel_rfl) ?_;have HSP:=zq (HSP.out.rowB17 h_ e_.2 #[.int .i64 ri,.slice PA pn pc,.int .i64 rg,.int .i64 rt]);refine hK.out _ _ ?_ (fun hHeld=>?_)
   ·exact⟨has_rowo11 s0 (by omega) _,below_row s1 (by omega) _,⟨_,has_row11 h_ _,rfl,rfl⟩⟩
   refine mr3 (fun W_=>(Has W_ (g7) 75 #[.int .i64 ri,.slice PA pn pc,.int .i64 rg,.int .i64 rt])) ⟨has_rowo11 s0 (by omega) _,below_row s1 (by omega) _,⟨_,has_row11 h_ _,rfl,rfl⟩,has_row11 h_ _⟩ (fun h_=>?_);clear hHeld;have hHeld:=h_;clear h_;clear hK K h_ e_ s0 s1
   try simp only[Act.put]
   refine tkZ 12 18 (h:=?_);simp only[lyZ];refine dnZ ?_;go_wp2_with fail;go_meet
   exact⟨rfl,_,_,_,rfl,hHeld.2.2.2,HSP.out,hHeld.2.1⟩
 obtain⟨rfl,g7,PA,pc,rfl,h7_,hsp_,hb_⟩:=hcut;obtain⟨u3,hu3⟩: ∃u,u=wc:=⟨_,rfl⟩
 subst hu3;have H7:=zH h7_;have HSP:=zq (fun W (hW:Below u3.heap.size u3 W)=>hsp_.under hW);have HOW:=zq (fun W (hW:Below u3.heap.size u3 W)=>(HO2.out.under hb_).under hW);have HBF:=zq (fun W (hW:Below u3.heap.size u3 W)=>HX.out W (bu hb_ hW));clear h7_ hsp_ hb_ HO2 HX HL2;obtain⟨d0,d1,d2⟩:=HC.out u3 (HBF.out _ (Below.refl _ _));have c1:u3.cell? ⟨g7,1,none⟩=some (.slice PA pn pc):=(H7.out u3 (Below.refl _ _)).cell 1;have q2:(kt !=kt)=false:=by simp
 have q3:((pn:Int)==0)=false:=by have:=HP1.out;simp;omega
 have q4: ¬(pn:Int)=0:=by have:=HP1.out;omega
 obtain⟨am,ham⟩: ∃b,amongB rpath s=b:=⟨_,rfl⟩
 have HAM:=zq ham;clear ham;go_upto_region 22 with fail;clear q2 q3 q4 d0 d1 d2;go_wp2_with (with_reducible refine ldZ 116 (H1.out u3 (HBF.out _ (Below.refl _ _))) ?_);refine(has17_any rpath s PA pn pc u3 (HSP.out u3 (Below.refl _ _)) (by have:=HPF.out;omega)).mono ?_;rw[HAM.out];rintro e_ w5 ⟨rfl,hb5⟩;have HB5:=zq hb5;clear hb5 c1;go_upto_if 119 with fail;go_cut [19] (fun s19 wx=>s19= .bool true/\Below u3.heap.size u3 wx)
 case first=>
  by_cases z0:m=0
  ·have z3: ¬(0:Int)<m:=by omega
   obtain rfl:am=true:=by rw[<-HAM.out];unfold amongB;rw[List.any_eq_true];exact⟨s,HFI.out (by subst z0;rfl),(eqS_iff _ _).2 rfl⟩
   clear z0;go_wp2;go_meet
   exact⟨rfl,HB5.out⟩
  have z3:(0:Int)<m:=by omega
  have HNE0:=zq (show CL.take m≠[]from by intro h_;have h2_:=HTL.out;rw[h_]at h2_;simp at h2_;omega);have HNB:=zq (HNX.out HNE0.out);clear z0;obtain⟨wy,hwy⟩: ∃W,wayC t (CL.take m)=W:=⟨_,rfl⟩
  rw[hwy]at HOW HNB;have HWY:=zq hwy;have HYN:=zq (HOW.out _ (Below.refl _ _)).2;have HY1:=zq (show 1<=yn from by
    have h1_:=HYN.out
    cases hq_:CL.take m with
    |nil=>exact absurd hq_ HNE0.out
    |cons q_ r_=>
     have h2_:CL[0]?=some q_:=by
      have h3_:(CL.take m)[0]?=some q_:=by rw[hq_];rfl
      rw[List.getElem?_take]at h3_;split at h3_
      ·exact h3_
      ·cases h3_
     obtain⟨_,p_,_,h5_,h6_,_⟩:=HPC.out 0 q_ h2_;rw[<-h1_,<-hwy,hq_];unfold wayC;rw[List.flatMap_cons,List.length_append,h5_];have:=List.length_pos_iff.2 h6_;omega)
  have HYF:=zq (show yn<=800 from by rw[<-HYN.out,<-hwy];have h_:=way_few17c HLT.out (CL.take m);have h2_:=HTL.out;have h3_:=HIN.out;have h4_:=HCP.out;rw[h2_]at h_;omega);obtain⟨lw,hlw⟩: ∃s,lastS wy=s:=⟨_,rfl⟩
  obtain⟨hp_,hhp⟩: ∃s,headS rpath=s:=⟨_,rfl⟩
  have HLW:=zq (show wy[yn-1]?=some lw from by rw[<-hlw,<-HYN.out];exact last_at17c (by rw[HYN.out];exact HY1.out));have HHP:=zq (show rpath[0]?=some hp_ from by rw[<-hhp];exact head_at17c (by rw[HPN.out];exact HP1.out));rw[hlw,show headS r_.path=hp_ from by rw[<-HRP.out,HPE.out];exact hhp]at HNB;clear hlw hhp hwy;obtain⟨gy,hgy,_,_⟩:=(HOW.out _ (Below.refl _ _)).some HY1.out;subst hgy;have HYC:=zq (fun W (hW:Below u3.heap.size u3 W)=>cells_last17c (HOW.out W hW) HLW.out);obtain⟨bp,op_,rfl,g0_,g1_⟩:=(HSP.out w5 HB5.out).step HHP.out;rw[Nat.zero_mul,Nat.add_zero]at g0_ g1_;have HPC2:=zq (fun W (hW:Below w5.heap.size w5 W)=>And.intro ((hW.cell (cell_block g0_)).trans g0_) ((hW.cell (cell_block g1_)).trans g1_));clear g0_ g1_;have HAL:=zq (show(afterL t lw).length<=1048576 from by have h_:=after_few17 (t:=t) lw;have h2_:=(light_nums13 HLT.out).1;omega);obtain⟨le,lr⟩:=lw;obtain⟨he,hr⟩:=hp_;dsimp only at HYC HPC2;go_upto_region 24 with fail;clear z3;have hw1:IntKind.i64.wrap ((yn:Int)-1)=(yn:Int)-1:=by rw[IntKind.wrap_i64];have h1_:=HY1.out;have h2_:=HYF.out;omega
  have hw2:((yn:Int)-1).toNat=yn-1:=by omega
  have u1_:(0:Int)<=(yn:Int)-1:=by have:=HY1.out;omega
  have u2_:(yn:Int)-1<yn:=by omega
  have u3_:(1:Int)<=(yn:Int):=by have:=HY1.out;omega
  have u4:(0:Int)<pn:=by have:=HP1.out;omega
  have u5:0<pn:=by have:=HP1.out;omega
  obtain⟨af,haf⟩: ∃l,afterL t ⟨le,lr⟩=l:=⟨_,rfl⟩
  have HAF:=zq haf;rw[haf]at HNB HAL;clear haf;obtain⟨an,han⟩: ∃m,af.length=m:=⟨_,rfl⟩
  have HAN:=zq han;rw[han]at HAL;clear han;refine wp_region_held_drew (S:=(fun W_=>(Has W_ (w.heap.size) 27 (tpC t a))/\(Has W_ (g7) 75 #[.int .i64 ri,.slice (some ⟨bp,op_,none⟩) pn pc,.int .i64 rg,.int .i64 rt])/\(Below w5.heap.size w5 W_))) (by kernel_rfl) ?_ (fun hHeld=>?_)
  ·exact⟨(H0.out _ (HBF.out _ HB5.out)).draw,(H7.out _ HB5.out).draw,below_dr11 (Below.refl _ _)⟩
  refine tlZ 0 120 w.heap.size (tpC t a) (fun _ ⟨h_,_,_⟩=>h_) (h:=?_);simp only[lyZ];refine tkZ 1 121 (h:=?_);simp only[lyZ];refine tkZ 2 122 (h:=?_);simp only[lyZ];refine tkZ 3 123 (h:=?_);simp only[lyZ];refine tkZ 4 124 (h:=?_);simp only[lyZ];refine tkZ 5 125 (h:=?_);simp only[lyZ];refine tqZ 6 126 (fun w_ ⟨s0,s1,s2⟩=>And.intro ((HYC.out w_ (bu HB5.out s2)).1) ((HYC.out w_ (bu HB5.out s2)).2)) (h:=?_);simp only[lyZ];refine tkZ 8 128 (h:=?_);simp only[lyZ];refine tqZ 9 129 (fun w_ ⟨s0,s1,s2⟩=>(show w_.cell? ⟨g7,1,none⟩=some (.slice (some ⟨bp,op_,none⟩) pn pc:Value)from s1.cell 1)) (h:=?_);simp only[lyZ];refine tkZ 10 130 (h:=?_);simp only[lyZ];refine tqZ 11 131 (fun w_ ⟨s0,s1,s2⟩=>And.intro ((HPC2.out w_ s2).1) ((HPC2.out w_ s2).2)) (h:=?_);simp only[lyZ];refine aoZ 7 (some 127) (fun K hK=>?_);go_simp;obtain⟨s0,s1,s2⟩:=hHeld;refine(otp_after t a ⟨le,lr⟩ _ (HT.out _ (HBF.out _ (bu HB5.out s2))) HLT.out).mono ?_;rw[HAF.out,HAN.out];rintro e_ q1 ⟨B,d,rfl,hsl_,hb_⟩;have HSL:=zq (hsl_);go_wp2_with fail;refine hK.out _ _ ?_ (fun hHeld=>?_)
  ·exact⟨s0.u hb_,s1.u hb_,bu s2 hb_⟩
  clear hK K s0 s1 s2
  try simp only[lyZ]
  refine aoZ 12 (some 132) (fun K hK=>?_);go_simp;obtain⟨s0,s1,s2⟩:=hHeld;refine(has17_any af ⟨he,hr⟩ B an d _ HSL.out HAL.out).mono ?_;rw[HNB.out];rintro e_ q2 ⟨rfl,hb2_⟩;have HSL:=zq (HSL.out.under hb2_);go_wp2_with fail;refine hK.out _ _ ?_ (fun hHeld=>?_)
  ·exact⟨s0.u hb2_,s1.u hb2_,bu s2 hb2_⟩
  clear hK K s0 s1 s2
  try simp only[lyZ]
  refine tkZ 13 19 (h:=?_);simp only[lyZ];refine dnZ ?_;go_wp2_with fail;go_meet
  exact⟨rfl,HB5.out.trans (hHeld.2.2.mono HB5.out.size)⟩
 obtain⟨rfl,hb_⟩:=hcut;obtain⟨w6,hw6⟩: ∃u,u=wc:=⟨_,rfl⟩
 subst hw6;have HB6:=zq hb_;clear hb_ HB5;obtain⟨wy,hwy⟩: ∃W,wayC t (CL.take m)=W:=⟨_,rfl⟩
 rw[hwy]at HOW HAP HWS;have HWY:=zq hwy;have HYN:=zq (HOW.out _ (Below.refl _ _)).2;have HYF:=zq (show yn<=800 from by rw[<-HYN.out,<-hwy];have h_:=way_few17c HLT.out (CL.take m);have h2_:=HTL.out;have h3_:=HIN.out;have h4_:=HCP.out;rw[h2_]at h_;omega);clear hwy;go_upto_region 27 with fail;go_wp2;go_loopg [20] pn (fun kk v20 wl=> ∃(p:Nat),p<=pn/\pn-p<=kk/\v20= .int .i64 p/\Hid (Below w6.heap.size w6 wl))
 case atStart=>exact⟨0,by omega,by omega,rfl,zq (Below.refl _ _)⟩
 obtain⟨p,hp,hpk,rfl,HB7⟩:=hrel;obtain⟨k5,hk5⟩: ∃k5,k5=gk:=⟨_,rfl⟩
 subst hk5;obtain⟨wp,hwp⟩: ∃wp,wp=wr:=⟨_,rfl⟩
 subst hwp;have HLP:=zq (HB6.out.trans (HB7.out.mono HB6.out.size));have c1:wp.cell? ⟨g7,1,none⟩=some (.slice PA pn pc):=(H7.out wp HLP.out).cell 1;by_cases hpl:p<pn
 ·obtain⟨sp,hsp⟩: ∃z,rpath[p]?=some z:=⟨_,List.getElem?_eq_getElem (by rw[HPN.out];exact hpl)⟩
  have HSPM:=zq (List.mem_of_getElem? hsp);have y1:(p:Int)<pn:=by omega
  have y2:(0:Int)<=p:=by omega
  have HPIN:=zq (show p<pn/\pn-p<=k5 from⟨hpl,hpk⟩);have HSPX:=zq (fun W (hW:Below u3.heap.size u3 W)=>(HSP.out W hW).step hsp);clear hpl hpk hp hsp;go_upto_region 30 with fail;go_wp2;go_loopg [21] yn (fun kk v21 wl=> ∃(q:Nat),q<=yn/\yn-q<=kk/\v21= .int .i64 q/\Hid (Below wp.heap.size wp wl))
  case atStart=>exact⟨0,by omega,by omega,rfl,zq (Below.refl _ _)⟩
  obtain⟨q,hq,hqk,rfl,HB8⟩:=hrel;obtain⟨k6,hk6⟩: ∃k6,k6=gk:=⟨_,rfl⟩
  subst hk6;obtain⟨wq,hwq⟩: ∃wq,wq=wr:=⟨_,rfl⟩
  subst hwq;have HLQ:=zq (HLP.out.trans (HB8.out.mono HLP.out.size));by_cases hql:q<yn
  ·obtain⟨sq,hsq⟩: ∃z,wy[q]?=some z:=⟨_,List.getElem?_eq_getElem (by rw[HYN.out];exact hql)⟩
   have HNE:=zq (HAP.out sq (List.mem_of_getElem? hsq) sp HSPM.out);obtain⟨bq,oq,e_,f0,-⟩:=(HOW.out wq HLQ.out).sl.step hsq;subst e_;obtain⟨bp,op_,e_,d0,-⟩:=HSPX.out wq HLQ.out;subst e_;have c1:wq.cell? ⟨g7,1,none⟩=some (.slice (some ⟨bp,op_,none⟩) pn pc):=(H7.out wq HLQ.out).cell 1;have q1:(sq.edge==sp.edge)=false:=by simp[HNE.out]
   have q2: ¬sq.edge=sp.edge:=HNE.out;have x1:(q:Int)<yn:=by omega
   have x2:(0:Int)<=q:=by omega
   have HQN:=zq (show q<yn/\yn-q<=k6 from⟨hql,hqk⟩);clear hsq hql hqk hq;go_upto_region 33 with fail;go_quiet (fail);obtain⟨wz,hwz⟩:=geZ (wq.drewN nq);rw[hwz];have HB9:=zq (show Below wp.heap.size wp wz from by rw[<-hwz];exact below_draws HB8.out _);clear hwz HB8 f0 d0 c1 q1 q2 x1 x2 HLQ HNE;go_wp2;go_roundg (k6-1)
   case measure=>have:=HQN.out;omega
   case rel=>exact⟨q+1,by have:=HQN.out;omega,by have:=HQN.out;omega,by first|go_num|(rw[IntWalk.wrap64_in _ (by have h1_:=HQN.out;have h2_:=HYF.out;omega)];go_num),HB9⟩
  have x1: ¬(q:Int)<yn:=by omega
  have HB9:=zq (HB7.out.trans (HB8.out.mono HB7.out.size));clear hq hqk hql HB8 HLQ;go_wp2;go_roundg (k5-1)
  case measure=>have:=HPIN.out;omega
  case rel=>exact⟨p+1,by have:=HPIN.out;omega,by have:=HPIN.out;omega,by first|go_num|(rw[IntWalk.wrap64_in _ (by have h1_:=HPIN.out;have h2_:=HPF.out;omega)];go_num),HB9⟩
 have y1: ¬(p:Int)<pn:=by omega
 obtain⟨w7,hw7⟩: ∃u,u=wp:=⟨_,rfl⟩
 subst hw7;have HO7:=zq (HOW.out _ HLP.out);have HS7:=zq (HSP.out _ HLP.out);have HL7:=zq (HBF.out _ HLP.out);clear hp hpk hpl HB7 HB6;obtain⟨hO,hSL,h1,hBD⟩:=pourR 16 HO7.out HS7.out one_st17 HL7.out.size (by have h1_:=HYF.out;have h2_:=HPF.out;omega) (by omega);go_upto_region 35 with fail;clear y1;go_wp2_with (with_reducible refine wpList_pour (o:=⟨some 163,_,_,_,_,_⟩) rfl (.tmp 160) (.tmp 162) 35 rfl v3.heap.size 30 (.agg #[.int .i64 0,.bool false]) 2 16 Tryz.underlying35 info_step14 ?hz (by decide) Y (yn) y ((wy).flatMap stC) ?hs hO PA pn pc ((rpath).flatMap stC) ?hx hSL h1 hBD ?next)
 all_goals try rfl
 intro X3 x3 u9 ho hg;have HO9:=zq (OwR.poured HO7.out.2 HPN.out ho.out);have HB9:=zq (below_own HL7.out HL7.out.size hO.out (Nat.le_refl _) rfl hg.out);rw[<-HWS.out]at HO9;clear ho hg hO hSL h1 hBD HO7 HS7 c1;go_wp2;go_roundg (k1-1)
 case measure=>have:=HIN.out;omega
 case rel=>exact⟨m+1,yn+pn,x3,X3,by have:=HIN.out;omega,by have:=HIN.out;omega,by first|go_num|(rw[IntWalk.wrap64_in _ (by have h1_:=HIN.out;have h2_:=HCP.out;omega)];go_num),rfl,HO9,HB9⟩
end
end Go.Proofs.YtahadmeilajdgaaGreatDoor
