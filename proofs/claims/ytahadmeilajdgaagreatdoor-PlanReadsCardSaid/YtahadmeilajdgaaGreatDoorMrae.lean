/-
  Our own text, joined.
-/
import Derived.Test.YtahadmeilajdgaaGreatDoorMrad
import Derived.BigQuiet
import Derived.IntWalk
import Derived.Test.YtahadmeilajdgaaGreatDoorMraa
import Derived.Test.YtahadmeilajdgaaGreatDoorMrac
import Derived.Test.YtahadmeilajdgaaGreatDoorMrab
namespace Go.Proofs.YtahadmeilajdgaaGreatDoor
set_option maxRecDepth 100000
set_option maxHeartbeats 8000000
section
open Go.RowKit
open Go.Great
theorem sl_low13 {w:World}{s:Nat}{A:Option Addr}{n c:Nat}{vs:List Value}(h:Sl w s A n c vs){q:Nat}(hq:q<=n):A≠none->Sl w s A q c (vs.take (q*s)):=by
 intro hA;have hl:vs.length=n*s:=h.1;have hm:q*s<=n*s:=Nat.mul_le_mul_right s hq;refine⟨by rw[List.length_take];omega,fun e=>absurd e hA,fun ad ha j u hu=>?_⟩;have hj:j<q*s:=by
  have:=(List.getElem?_eq_some_iff.1 hu).1;rw[List.length_take]at this;omega
 rw[List.getElem?_take_of_lt hj]at hu;exact h.2.2 ad ha j u hu
theorem flat_take13 {α:Type}{f:α->List Value}{k:Nat}(hf: ∀x,(f x).length=k)(l:List α)(q:Nat):(l.take q).flatMap f=(l.flatMap f).take (q*k):=by
 induction l generalizing q with
 |nil=>simp
 |cons x r ih=>
  cases q with
  |zero=>simp
  |succ m=>
   have e:(m+1)*k=k+m*k:=by rw[Nat.succ_mul,Nat.add_comm]
   rw[List.take_succ_cons,List.flatMap_cons,List.flatMap_cons,ih,e]
   conv=>rhs;rw[<-hf x]
   rw[List.take_length_add_append];rw[hf x]
theorem SlO.take {α:Type}{f:α->List Value}{k:Nat}{w:World}{A:Option Addr}{n c:Nat}{l:List α}(h:SlO f k w A n c l)(hf: ∀x,(f x).length=k)(hA:A≠none){q:Nat}(hq:q<=n):SlO f k w A q c (l.take q):=
 ⟨by rw[List.length_take,h.1];omega,by rw[flat_take13 hf];exact sl_low13 h.2 hq hA⟩
theorem jointE_at {t:Tp3}{i:Nat}{j:Jt3}(h:t.joints[i]?=some j):qbi t i=if(endB t j.a &&endB t j.b &&!eqE j.a j.b)=true then(if joinB (t.joints.take i) j.a j.b=true then 5 else 0)else 1:=by
 unfold qbi;rw[h]
theorem balE_at {t:Tp3}{i:Nat}{b:Bl3}(h:t.bals[i]?=some b):balE t i=if(decide (0<=b.id) &&decide (b.id<=16777214) &&edgeB t b.edge &&decide (0<=b.at_) &&decide (b.at_<=t.edges.getD b.edge.toNat 0))=true then(if((t.bals.take i).any fun x=>x.id==b.id)=true then 5 else 0)else 1:=by
 unfold balE;rw[h]
theorem qgp {t:Tp3}{i:Nat}{r:Rt3}(h:t.routes[i]?=some r):qaY t i=if qbv t r=0 then(if((t.routes.take i).any fun x=>x.id==r.id)=true then 5 else 0)else qbv t r:=by
 unfold qaY;rw[h]
theorem qdt {t:Tp3}(h:longB t=true):qax t=2:=by
 unfold qax;rw[if_pos h]
theorem qfX {t:Tp3}(h:longB t=false){m:Nat}{e:Int}(hm:t.edges[m]?=some e)(he:e<1\/1000000<e):qax t=1:=by
 unfold qax;rw[if_neg (by rw[h];decide),if_neg];intro hc;unfold qaF at hc;rw[List.all_eq_true]at hc;have:=hc e (List.mem_of_getElem? hm);simp at this;omega
theorem edges_ok13 {t:Tp3}(h: ∀(m:Nat) (e:Int),t.edges[m]?=some e->1<=e/\e<=1000000):qaF t=true:=by
 unfold qaF;rw[List.all_eq_true];intro e he;obtain⟨m,hm,rfl⟩:=List.getElem_of_mem he;have:=h m _ (List.getElem?_eq_getElem hm);simp;omega
theorem check_rest {t:Tp3}(h:longB t=false)(he:qaF t=true):qax t=(if qaE (qbi t) t.joints.length=0 then
   (if qaE (balE t) t.bals.length=0 then qaE (qaY t) t.routes.length else qaE (balE t) t.bals.length)
   else qaE (qbi t) t.joints.length):=by
 unfold qax;rw[if_neg (by rw[h];decide),if_pos he]
theorem any_no13 {α:Type}{f:α->Bool}{l:List α}{k:Nat}(h: ∀(m:Nat) (y:α),m<k->l[m]?=some y->f y=false):(l.take k).any f=false:=by
 rw[List.any_eq_false];intro y hy;obtain⟨m,hm,rfl⟩:=List.getElem_of_mem hy;rw[List.length_take]at hm;rw[List.getElem_take,h m _ (by omega) (List.getElem?_eq_getElem (by omega))]
 decide
theorem any_yes13 {α:Type}{f:α->Bool}{l:List α}{k m:Nat}{y:α}(hm:m<k)(hy:l[m]?=some y)(hf:f y=true):(l.take k).any f=true:=by
 rw[List.any_eq_true];exact⟨y,List.mem_of_getElem? (i:=m) (by rw[List.getElem?_take_of_lt hm];exact hy),hf⟩
theorem qeE (t:Tp3)(a:TpA)(w:World)(ht:TopR w t a)(hlt:qaJ t=true)(hcj:t.joints.length<=a.cj):
  Calls Tryz.prog 49 #[.agg (tpC t a)] w fun e w'=>e= .returned (.int .i64 (qax t))/\Below w.heap.size w w':=by
 obtain⟨cE,hcE⟩: ∃e,qax t=e:=⟨_,rfl⟩
 have HCE:=zq hcE;rw[hcE];clear hcE;have HLT:=zq (qav hlt);have HCJ:=zq hcj;clear hlt hcj;obtain⟨wa,hwa,hbwa,HWA,HBWA,h0⟩:=bx1Z w 27 (tpC t a);have H0:=zH h0;have HT:=zq (fun W (hW:Below w.heap.size w W)=>ht.under hW);have HBA:=zq (fun W (hW:Below wa.heap.size wa W)=>hbwa.trans (hW.mono hbwa.size));have HT0:=zq (ht.under hbwa);have c0:wa.cell? ⟨w.heap.size,0,none⟩=some (.slice a.ae t.edges.length a.ce):=h0.cell 0;have c1:wa.cell? ⟨w.heap.size,1,none⟩=some (.slice a.aj t.joints.length a.cj):=h0.cell 1;have c2:wa.cell? ⟨w.heap.size,2,none⟩=some (.slice a.ab t.bals.length a.cb):=h0.cell 2;have c3:wa.cell? ⟨w.heap.size,3,none⟩=some (.slice a.ar t.routes.length a.cr):=h0.cell 3;clear hwa hbwa h0 ht;obtain⟨n0,hn0⟩: ∃n,t.edges.length=n:=⟨_,rfl⟩
 rw[hn0]at c0;have HN0:=zq hn0;obtain⟨n1,hn1⟩: ∃n,t.joints.length=n:=⟨_,rfl⟩
 rw[hn1]at c1;have HN1:=zq hn1;obtain⟨n2,hn2⟩: ∃n,t.bals.length=n:=⟨_,rfl⟩
 rw[hn2]at c2;have HN2:=zq hn2;obtain⟨n3,hn3⟩: ∃n,t.routes.length=n:=⟨_,rfl⟩
 rw[hn3]at c3;have HN3:=zq hn3;have HNN:=zq (show n0<=100/\n1<=100/\n2<=100/\n3<=100 from by have h_:=HLT.out;omega);have hnn:=HNN.out;clear hn0 hn1 hn2 hn3;obtain⟨hm0,hm1,hm2,hm3⟩:=hnn;by_cases k0:40<n0
 ·have x0:(40:Int)<n0:=by omega
  go_enter Tryz.func49,Tryz.ntmps49;go_upto_region 1 with fail;rw[HWA.out];clear HWA;go_wp2;go_ret
  have hE:cE=2:=by rw[<-HCE.out];exact qdt (by unfold longB;rw[HN0.out,HN1.out,HN2.out,HN3.out];simp;omega)
  subst hE;exact⟨by first|rfl|simp,HBWA.out⟩
 have x0: ¬(40:Int)<n0:=by omega
 by_cases k1:80<n1
 ·have x1:(80:Int)<n1:=by omega
  go_enter Tryz.func49,Tryz.ntmps49;go_upto_region 1 with fail;rw[HWA.out];clear HWA;go_wp2;go_ret
  have hE:cE=2:=by rw[<-HCE.out];exact qdt (by unfold longB;rw[HN0.out,HN1.out,HN2.out,HN3.out];simp;omega)
  subst hE;exact⟨by first|rfl|simp,HBWA.out⟩
 have x1: ¬(80:Int)<n1:=by omega
 by_cases k2:80<n2
 ·have x2:(80:Int)<n2:=by omega
  go_enter Tryz.func49,Tryz.ntmps49;go_upto_region 1 with fail;rw[HWA.out];clear HWA;go_wp2;go_ret
  have hE:cE=2:=by rw[<-HCE.out];exact qdt (by unfold longB;rw[HN0.out,HN1.out,HN2.out,HN3.out];simp;omega)
  subst hE;exact⟨by first|rfl|simp,HBWA.out⟩
 have x2: ¬(80:Int)<n2:=by omega
 by_cases k3:30<n3
 ·have x3:(30:Int)<n3:=by omega
  go_enter Tryz.func49,Tryz.ntmps49;go_upto_region 1 with fail;rw[HWA.out];clear HWA;go_wp2;go_ret
  have hE:cE=2:=by rw[<-HCE.out];exact qdt (by unfold longB;rw[HN0.out,HN1.out,HN2.out,HN3.out];simp;omega)
  subst hE;exact⟨by first|rfl|simp,HBWA.out⟩
 have x3: ¬(30:Int)<n3:=by omega
 have HLB:=zq (show longB t=false from by unfold longB;rw[HN0.out,HN1.out,HN2.out,HN3.out];simp;omega);go_enter Tryz.func49,Tryz.ntmps49;go_upto_region 1 with fail;rw[HWA.out];clear HWA;go_upto_region 3 with fail;clear x0 x1 x2 x3 k0 k1 k2 k3 c1 c2 c3;go_wp2;go_loopg [3] n0 (fun kk v wl=> ∃i:Nat,i<=n0/\n0-i<=kk/\v= .int .i64 i/\Hid (∀(m:Nat) (e:Int),m<i->t.edges[m]?=some e->1<=e/\e<=1000000)/\wl=wa)
 case atStart=>exact⟨0,by omega,by omega,rfl,zq (fun m e h=>absurd h (by omega)),rfl⟩
 obtain⟨i,hi,hik,rfl,HED,rfl⟩:=hrel;by_cases hlt:i<n0
 ·obtain⟨be,oe,hae,ce⟩:=HT0.out.e.edge (show i<t.edges.length by rw[HN0.out];exact hlt)
  obtain⟨q,hq⟩:=geZ (t.edges.getD i 0);have HQ:=zq (show t.edges[i]?=some q from by rw[<-hq,List.getD_eq_getElem?_getD,List.getElem?_eq_getElem (by rw[HN0.out];exact hlt)];rfl);rw[hq]at ce;rw[hae]at c0;have y0:(0:Int)<=i:=by omega
  have y1:(i:Int)<n0:=by omega
  clear hq hae;by_cases q0:q<1
  ·go_wp2
   go_ret
   have hE:cE=1:=by rw[<-HCE.out];exact qfX HLB.out HQ.out (by omega)
   subst hE;exact⟨by first|rfl|simp,HBWA.out⟩
  by_cases q1:1000000<q
  ·go_wp2
   go_ret
   have hE:cE=1:=by rw[<-HCE.out];exact qfX HLB.out HQ.out (by omega)
   subst hE;exact⟨by first|rfl|simp,HBWA.out⟩
  have HQ2:=zq (show 1<=q/\q<=1000000 by omega);go_wp2;go_roundg (gk-1)
  case measure=>omega
  case rel=>
   refine⟨i+1,by omega,by omega,by go_num,zq (fun m e hm he=>?_),rfl⟩;by_cases hmi:m=i
   ·rw[hmi,HQ.out]at he
    injection he with he
    rw[<-he];exact HQ2.out
   ·exact HED.out m e (by omega) he
 have x1: ¬(i:Int)<n0:=by omega
 have HOK:=zq (edges_ok13 (t:=t) fun m e he=>HED.out m e (by have h1_:m<t.edges.length:=(List.getElem?_eq_some_iff.1 he).1;have:=HN0.out;omega) he);have HR1:=zq ((HCE.out.symm.trans (check_rest HLB.out HOK.out)));rw[HN1.out,HN2.out,HN3.out]at HR1;clear HED HCE hi hik hlt;obtain⟨w0,hw0⟩: ∃w0,w0=wr:=⟨_,rfl⟩
 subst hw0;go_upto_region 8 with fail;clear x1 c0;go_wp2;go_loopg [4] n1 (fun kk v wl=> ∃i:Nat,i<=n1/\n1-i<=kk/\v= .int .i64 i/\Hid (qaE (qbi t) i=0)/\Below w0.heap.size w0 wl)
 case atStart=>exact⟨0,by omega,by omega,rfl,zq rfl,Below.refl _ _⟩
 obtain⟨i,hi,hik,rfl,HF,hwr⟩:=hrel;have HW:=zq hwr;have c1:wr.cell? ⟨w.heap.size,1,none⟩=some (.slice a.aj n1 a.cj):=by have h_:=(H0.out wr hwr).cell 1;rw[<-HN1.out];exact h_
 clear hwr;by_cases hlt:i<n1;rotate_left
 ·have x1: ¬(i:Int)<n1:=by omega
  obtain rfl:i=n1:=by omega
  have HR2:=zq HR1.out;rw[if_pos HF.out]at HR2;clear HR1 hi hik hlt;go_upto_region 18 with fail;clear x1 c1;go_wp2;go_loopg [8] n2 (fun kk v wl=> ∃i:Nat,i<=n2/\n2-i<=kk/\v= .int .i64 i/\Hid (qaE (balE t) i=0)/\Below w0.heap.size w0 wl)
  case atStart=>exact⟨0,by omega,by omega,rfl,zq rfl,HW.out⟩
  obtain⟨k,hk,hkk,rfl,HF2,hwr⟩:=hrel;have HW3:=zq hwr;have c2:wr.cell? ⟨w.heap.size,2,none⟩=some (.slice a.ab n2 a.cb):=by have h_:=(H0.out wr hwr).cell 2;rw[<-HN2.out];exact h_
  clear hwr;by_cases hlt:k<n2;rotate_left
  ·have x1: ¬(k:Int)<n2:=by omega
   obtain rfl:k=n2:=by omega
   have HR3:=zq HR2.out;rw[if_pos HF2.out]at HR3;clear HR2 hk hkk hlt;go_upto_region 30 with fail;clear x1 c2;go_wp2;go_loopg [12] n3 (fun kk v wl=> ∃m:Nat,m<=n3/\n3-m<=kk/\v= .int .i64 m/\Hid (qaE (qaY t) m=0)/\Below w0.heap.size w0 wl)
   case atStart=>exact⟨0,by omega,by omega,rfl,zq rfl,HW3.out⟩
   obtain⟨m,hm,hmk,rfl,HF3,hwr⟩:=hrel;have HW4:=zq hwr;have c3:wr.cell? ⟨w.heap.size,3,none⟩=some (.slice a.ar n3 a.cr):=by have h_:=(H0.out wr hwr).cell 3;rw[<-HN3.out];exact h_
   clear hwr;by_cases hlt:m<n3;rotate_left
   ·have x1: ¬(m:Int)<n3:=by omega
    obtain rfl:m=n3:=by omega
    go_wp2;go_ret
    have hE:cE=0:=by rw[HR3.out];exact HF3.out
    subst hE;exact⟨by first|rfl|simp,HBA.out _ HW4.out⟩
   obtain⟨r,hr⟩: ∃r,t.routes[m]?=some r:=⟨_,List.getElem?_eq_getElem (by rw[HN3.out];exact hlt)⟩
   have HRX:=zq hr;have HRA:=zq (qgp hr);obtain⟨bk,off,PA,pc,hab,hpa,d0,d1,d2,d3⟩:=(HT.out wr (HBA.out wr HW4.out)).r.at_ hr;have hpl:r.path.length<=100:=HLT.out.2.2.2.2 r (List.mem_of_getElem? hr);obtain⟨ri,rp,rg,rt⟩:=r;dsimp only at*;have HPA:=zq hpa;have HAR:=zq hab;obtain⟨rl,hrl⟩: ∃l,rp.length=l:=⟨_,rfl⟩
   have HRL:=zq hrl;rw[hrl]at d1 hpl;clear hrl hpa hr;have HCX:=zq (fun W (hW:Below wr.heap.size wr W)=>(show W.cell? ⟨bk,off+m*4,none⟩=some (.int .i64 ri)/\W.cell? ⟨bk,off+m*4+1,none⟩=some (.slice PA rl pc)/\W.cell? ⟨bk,off+m*4+2,none⟩=some (.int .i64 rg)/\W.cell? ⟨bk,off+m*4+3,none⟩=some (.int .i64 rt)from⟨(hW.cell (qag d0)).trans d0,(hW.cell (qag d1)).trans d1,(hW.cell (qag d2)).trans d2,(hW.cell (qag d3)).trans d3⟩));obtain⟨e,he⟩:=geZ (qbv t ⟨ri,rp,rg,rt⟩);have HEE:=zq he;rw[he]at HRA;rw[hab]at c3;have y0:(0:Int)<=m:=by omega
   have y1:(m:Int)<n3:=by omega
   clear he hab d0 d1 d2 d3;go_upto_region 33 with fail;clear c3;refine wp_region_held_drew (S:=(fun W_=>Has W_ (w.heap.size) 27 (tpC t a)/\Below wr.heap.size wr W_)) (by kernel_rfl) ?_ (fun hHeld=>?_)
   ·exact⟨(H0.out _ HW4.out).draw,qah (Below.refl _ _)⟩
   refine tlZ 0 185 w.heap.size (tpC t a) (fun _ ⟨h_,_⟩=>h_) (h:=?_);simp only[lyZ];refine tkZ 1 186 (h:=?_);simp only[lyZ];refine tqZ 2 187 (fun w_ hSw=>(show w_.cell? ⟨w.heap.size,3,none⟩=some (.slice (some ⟨bk,off,none⟩) n3 a.cr:Value)from by have h_:=hSw.1.cell 3;rw[<-HAR.out,<-HN3.out];exact h_)) (h:=?_);simp only[lyZ];refine tkZ 3 188 (h:=?_);simp only[lyZ];refine tkZ 4 189 (h:=?_);simp only[lyZ];refine tqZ 5 190 (fun w_ hSw=>HCX.out w_ hSw.2) (h:=?_);simp only[lyZ];refine rdZ [6] ?_;refine acZ (some 191) (fun K hK=>?_) ?_
   ·go_simp
    obtain⟨s0,s1⟩:=hHeld;have hlo_:=HBA.out _ (bu HW4.out s1);have hpv_:PathV _ (.slice PA rl pc) rp:=⟨PA,pc,by rw[HRL.out],HPA.out.under s1⟩
    refine(rroute1_any t a ⟨ri,rp,rg,rt⟩ (.slice PA rl pc) _ (HT.out _ hlo_) hpv_ HOK.out (by rw[HN1.out];omega) (by rw[HN2.out];omega) (by simp only;rw[HRL.out];omega)).mono ?_;rw[HEE.out];rintro e_ vs ⟨rfl,hbs⟩;go_wp2_with fail;refine hK.out _ _ ?_ (fun hHeld=>?_)
    ·exact⟨s0.u hbs,bu s1 hbs⟩
    clear hK K s0 s1
    try simp only[lyZ]
    refine tkZ 7 13 (h:=?_);simp only[lyZ];refine dnZ ?_;have HB5:=zq (HW4.out.trans (hHeld.2.mono HW4.out.size));have HB5W:=zq hHeld.2;clear hHeld;by_cases hz:e=0;rotate_left
    ·have e1:(e==0)=false:=by simp[hz]
     have e2:(e !=0)=true:=by simp[hz]
     have hJ:qaY t m=e:=by rw[HRA.out,if_neg hz]
     go_wp2;go_ret
     have hE:cE=e:=by rw[HR3.out,qaO hlt HF3.out (by rw[hJ];exact hz)];exact hJ
     subst hE;exact⟨by first|rfl|simp,HBA.out _ HB5.out⟩
    subst hz;have HRA2:=zq (show qaY t m=if((t.routes.take m).any fun x=>x.id==ri)=true then 5 else 0 from by rw[HRA.out,if_pos rfl]);clear HRA;have c3:World.cell? vs ⟨w.heap.size,3,none⟩=some (.slice (some ⟨bk,off,none⟩) n3 a.cr):=(by have h_:=(H0.out vs HB5.out).cell 3;rw[<-HAR.out,<-HN3.out];exact h_)
    obtain⟨d0,-,-,-⟩:=HCX.out vs HB5W.out;have HRS:=zq (HT.out _ (HBA.out _ HB5.out)).r;obtain⟨k1,hk1⟩: ∃k1,k1=gk:=⟨_,rfl⟩
    subst hk1;go_upto_region 36 with fail;go_wp2;go_loopg [14] m (fun kk v wl=> ∃l q:Nat,l<=m/\m-l<=kk/\v= .int .i64 l/\Hid (∀(p:Nat) (y:Rt3),p<l->t.routes[p]?=some y->(y.id==ri)=false)/\wl=vs.drewN q)
    case atStart=>exact⟨0,0,by omega,by omega,rfl,zq (fun p y h=>absurd h (by omega)),rfl⟩
    obtain⟨l,q,hl,hlk,rfl,HNO,rfl⟩:=hrel;by_cases hlm:l<m;rotate_left
    ·have x1: ¬(l:Int)<m:=by omega
     obtain rfl:l=m:=by omega
     have hJ:qaY t l=0:=by rw[HRA2.out,if_neg (by rw[any_no13 HNO.out];decide)]
     go_wp2;go_roundg (k1-1)
     case measure=>omega
     case rel=>
      refine⟨l+1,by omega,by omega,by go_num,zq ?_,qaa HB5.out q⟩;show(if qaE (qaY t) l=0 then qaY t l else qaE (qaY t) l)=0
      rw[if_pos HF3.out,hJ]
    obtain⟨y,hy⟩: ∃y,t.routes[l]?=some y:=⟨_,List.getElem?_eq_getElem (by rw[HN3.out];omega)⟩
    have HY:=zq hy;obtain⟨b2,o2,P2,p2,hb2,-,g0,-,-,-⟩:=HRS.out.at_ hy;rw[HAR.out]at hb2;injection hb2 with hb2
    injection hb2 with hb3 hb4 _
    subst hb3 hb4;obtain⟨yi,hyi⟩: ∃e,y.id=e:=⟨_,rfl⟩
    have HYI:=zq hyi;rw[hyi]at g0;clear hy hyi;have v0:(0:Int)<=l:=by omega
    have v1:(l:Int)<n3:=by omega
    by_cases hee:yi=ri
    ·subst hee
     go_upto_region 39 with fail;go_quiet (fail);go_wp2;go_ret
     have hJ:qaY t m=5:=by rw[HRA2.out,if_pos (any_yes13 hlm HY.out (by rw[HYI.out];simp))]
     have hE:cE=5:=by rw[HR3.out,qaO hlt HF3.out (by rw[hJ];decide)];exact hJ
     subst hE;exact⟨by first|rfl|simp,HBA.out _ (by first|exact qaa HB5.out _|(rw[World.drewN_drewN];exact qaa HB5.out _))⟩
    ·have e1:(yi==ri)=false:=by simp[hee]
     go_upto_region 39 with fail;go_quiet (fail);go_wp2;go_roundg (gk-1)
     case measure=>omega
     case rel=>
      refine⟨l+1,_,by omega,by omega,by go_num,zq (fun p z hp hz=>?_),by first|rfl|rw[World.drewN_drewN]⟩;by_cases hpl:p=l
      ·rw[hpl,HY.out]at hz
       injection hz with hz
       rw[<-hz,HYI.out];exact e1
      ·exact HNO.out p z (by omega) hz
   exact AllReadyH.nil
  obtain⟨b,hb⟩: ∃b,t.bals[k]?=some b:=⟨_,List.getElem?_eq_getElem (by rw[HN2.out];exact hlt)⟩
  have HBX:=zq hb;have HBE:=zq (balE_at hb);obtain⟨bk,off,hab,d0,d1,d2⟩:=(HT.out wr (HBA.out wr HW3.out)).b.bal hb;rw[hab]at c2;obtain⟨bi,be,ba⟩:=b;dsimp only at*;have HAB:=zq hab;have y0:(0:Int)<=k:=by omega
  have y1:(k:Int)<n2:=by omega
  clear hb hab;have hm5:Has (wr.alloc (.cells #[.int .i64 0,.int .i64 0,.int .i64 0] 151)) wr.heap.size 151 #[.int .i64 0,.int .i64 0,.int .i64 0]:=Has.made _ _ _;have HM5:=zq hm5;obtain⟨w6,hw6⟩:=geZ ((wr.alloc (.cells #[.int .i64 0,.int .i64 0,.int .i64 0] 151)).setRow wr.heap.size #[.int .i64 bi,.int .i64 be,.int .i64 ba]);have hb6:Below wr.heap.size wr w6:=by rw[<-hw6];exact qac (g:=wr.heap.size) (bA) (Nat.le_refl _) _
  have HX6:=zq (show Has w6 wr.heap.size 151 #[.int .i64 bi,.int .i64 be,.int .i64 ba]from by rw[<-hw6];exact qab HM5.out _);have HB6:=tB HW3 hb6;have HWW:=zq hw6;clear hw6 hm5 hb6;go_upto_region 22 with(with_reducible refine stZ #[.int .i64 bi,.int .i64 be,.int .i64 ba] HM5.out ?_)
  rw[HWW.out];clear HWW HM5 d0 d1 d2 c2;have b1:w6.cell? ⟨wr.heap.size,1,none⟩=some (.int .i64 be):=HX6.out.cell 1;obtain⟨bq,hbq⟩: ∃b,edgeB t be=b:=⟨_,rfl⟩
  have HBQ:=zq hbq;rw[hbq]at HBE;clear hbq;obtain⟨gb,hgb⟩: ∃g,wr.heap.size=g:=⟨_,rfl⟩
  rw[hgb]at b1 HX6;simp only[hgb];clear hgb;go_wp2_with (with_reducible refine ldZ 132 (H0.out w6 HB6.out) ?_);refine(qdl t a be w6).mono ?_;rw[HBQ.out];rintro e w7 ⟨rfl,hb7⟩;have HB7:=tB HB6 hb7;have HX7:=uH HX6 hb7;clear hb7 HX6 b1;have e0:w7.cell? ⟨gb,0,none⟩=some (.int .i64 bi):=HX7.out.cell 0;have e1:w7.cell? ⟨gb,1,none⟩=some (.int .i64 be):=HX7.out.cell 1;have e2:w7.cell? ⟨gb,2,none⟩=some (.int .i64 ba):=HX7.out.cell 2;by_cases z0:bi<0
  ·skip
   go_upto_region 23 with fail;go_quiet (fail);go_wp2;go_ret
   have hJ:balE t k=1:=by rw[HBE.out,if_neg (by simp;omega)]
   have hE:cE=1:=by rw[HR2.out,if_neg (by rw[qaO hlt HF2.out (by rw[hJ];decide),hJ];decide),qaO hlt HF2.out (by rw[hJ];decide)];exact hJ
   subst hE;exact⟨by first|rfl|simp,HBA.out _ (by first|exact qaa HB7.out _|(rw[World.drewN_drewN];exact qaa HB7.out _))⟩
  have g0:decide (bi<0)=false:=decide_eq_false z0;by_cases z1:16777214<bi
  ·skip
   go_upto_region 23 with fail;go_quiet (fail);go_wp2;go_ret
   have hJ:balE t k=1:=by rw[HBE.out,if_neg (by simp;omega)]
   have hE:cE=1:=by rw[HR2.out,if_neg (by rw[qaO hlt HF2.out (by rw[hJ];decide),hJ];decide),qaO hlt HF2.out (by rw[hJ];decide)];exact hJ
   subst hE;exact⟨by first|rfl|simp,HBA.out _ (by first|exact qaa HB7.out _|(rw[World.drewN_drewN];exact qaa HB7.out _))⟩
  have g1:decide (16777214<bi)=false:=decide_eq_false z1
  cases bq with
  |false=>
   go_upto_region 23 with fail;go_quiet (fail);go_wp2;go_ret
   have hJ:balE t k=1:=by rw[HBE.out,if_neg (by simp)]
   have hE:cE=1:=by rw[HR2.out,if_neg (by rw[qaO hlt HF2.out (by rw[hJ];decide),hJ];decide),qaO hlt HF2.out (by rw[hJ];decide)];exact hJ
   subst hE;exact⟨by first|rfl|simp,HBA.out _ (by first|exact qaa HB7.out _|(rw[World.drewN_drewN];exact qaa HB7.out _))⟩
  |true=>
   by_cases z2:ba<0
   ·skip
    go_upto_region 23 with fail;go_quiet (fail);go_wp2;go_ret
    have hJ:balE t k=1:=by rw[HBE.out,if_neg (by simp;omega)]
    have hE:cE=1:=by rw[HR2.out,if_neg (by rw[qaO hlt HF2.out (by rw[hJ];decide),hJ];decide),qaO hlt HF2.out (by rw[hJ];decide)];exact hJ
    subst hE;exact⟨by first|rfl|simp,HBA.out _ (by first|exact qaa HB7.out _|(rw[World.drewN_drewN];exact qaa HB7.out _))⟩
   have g2:decide (ba<0)=false:=decide_eq_false z2;have hed:0<=be/\be<t.edges.length:=by have h_:=HBQ.out;unfold edgeB at h_;simpa using h_
   obtain⟨en,hen⟩: ∃e:Nat,be=e:=⟨be.toNat,by omega⟩
   have hel:en<t.edges.length:=by omega
   obtain⟨bke,oe,hae,ce⟩:=(HT.out _ (HBA.out _ HB7.out)).e.edge hel;have c0:w7.cell? ⟨w.heap.size,0,none⟩=some (.slice (some ⟨bke,oe,none⟩) n0 a.ce):=(by have h_:=(H0.out w7 HB7.out).cell 0;rw[<-hae,<-HN0.out];exact h_)
   obtain⟨q,hq⟩:=geZ (t.edges.getD en 0);rw[hq]at ce;have hbq2:t.edges.getD be.toNat 0=q:=by rw[hen];exact hq
   rw[hbq2]at HBE;subst hen;have v0:(0:Int)<=en:=by omega
   have v1:(en:Int)<n0:=by have:=HN0.out;omega
   clear hed hel hae hq hbq2;by_cases z3:q<ba
   ·skip
    go_upto_region 23 with fail;go_quiet (fail);go_wp2;go_ret
    have hJ:balE t k=1:=by rw[HBE.out,if_neg (by simp;omega)]
    have hE:cE=1:=by rw[HR2.out,if_neg (by rw[qaO hlt HF2.out (by rw[hJ];decide),hJ];decide),qaO hlt HF2.out (by rw[hJ];decide)];exact hJ
    subst hE;exact⟨by first|rfl|simp,HBA.out _ (by first|exact qaa HB7.out _|(rw[World.drewN_drewN];exact qaa HB7.out _))⟩
   have g3:decide (q<ba)=false:=decide_eq_false z3;have HZ:=zq (show 0<=bi/\bi<=16777214/\0<=ba/\ba<=q by omega);go_upto_region 23 with fail;go_quiet (fail);clear z0 z1 z2 z3 v0 v1 c0 ce e1 e2 g0 g1 g2 g3;have HBE2:=zq (show balE t k=if((t.bals.take k).any fun x=>x.id==bi)=true then 5 else 0 from by rw[HBE.out,if_pos (by have h_:=HZ.out;simp;omega)]);clear HBE HZ;have c2:w7.cell? ⟨w.heap.size,2,none⟩=some (.slice (some ⟨bk,off,none⟩) n2 a.cb):=(by have h_:=(H0.out w7 HB7.out).cell 2;rw[<-HAB.out,<-HN2.out];exact h_)
   have HBS:=zq (HT.out _ (HBA.out _ HB7.out)).b;obtain⟨k1,hk1⟩: ∃k1,k1=gk:=⟨_,rfl⟩
   subst hk1;go_upto_region 25 with fail;go_wp2;go_loopg [11] k (fun kk v wl=> ∃m q:Nat,m<=k/\k-m<=kk/\v= .int .i64 m/\Hid (∀(l:Nat) (y:Bl3),l<m->t.bals[l]?=some y->(y.id==bi)=false)/\wl=w7.drewN q)
   case atStart=>exact⟨0,_,by omega,by omega,rfl,zq (fun l y h=>absurd h (by omega)),rfl⟩
   obtain⟨m,q,hm,hmk,rfl,HNO,rfl⟩:=hrel;by_cases hml:m<k;rotate_left
   ·have x1: ¬(m:Int)<k:=by omega
    obtain rfl:m=k:=by omega
    have hJ:balE t m=0:=by rw[HBE2.out,if_neg (by rw[any_no13 HNO.out];decide)]
    go_wp2;go_roundg (k1-1)
    case measure=>omega
    case rel=>
     refine⟨m+1,by omega,by omega,by go_num,zq ?_,qaa HB7.out q⟩;show(if qaE (balE t) m=0 then balE t m else qaE (balE t) m)=0
     rw[if_pos HF2.out,hJ]
   obtain⟨y,hy⟩: ∃y,t.bals[m]?=some y:=⟨_,List.getElem?_eq_getElem (by rw[HN2.out];omega)⟩
   have HY:=zq hy;obtain⟨b2,o2,hb2,g0,-,-⟩:=HBS.out.bal hy;rw[HAB.out]at hb2;injection hb2 with hb2
   injection hb2 with hb3 hb4 _
   subst hb3 hb4;obtain⟨yi,hyi⟩: ∃e,y.id=e:=⟨_,rfl⟩
   have HYI:=zq hyi;rw[hyi]at g0;clear hy hyi;have v0:(0:Int)<=m:=by omega
   have v1:(m:Int)<n2:=by omega
   by_cases hee:yi=bi
   ·subst hee
    go_upto_region 28 with fail;go_quiet (fail);go_wp2;go_ret
    have hJ:balE t k=5:=by rw[HBE2.out,if_pos (any_yes13 hml HY.out (by rw[HYI.out];simp))]
    have hE:cE=5:=by rw[HR2.out,if_neg (by rw[qaO hlt HF2.out (by rw[hJ];decide),hJ];decide),qaO hlt HF2.out (by rw[hJ];decide)];exact hJ
    subst hE;exact⟨by first|rfl|simp,HBA.out _ (by first|exact qaa HB7.out _|(rw[World.drewN_drewN];exact qaa HB7.out _))⟩
   ·have e1:(yi==bi)=false:=by simp[hee]
    go_upto_region 28 with fail;go_quiet (fail);go_wp2;go_roundg (gk-1)
    case measure=>omega
    case rel=>
     refine⟨m+1,_,by omega,by omega,by go_num,zq (fun l z hl hz=>?_),by first|rfl|rw[World.drewN_drewN]⟩;by_cases hlm:l=m
     ·rw[hlm,HY.out]at hz
      injection hz with hz
      rw[<-hz,HYI.out];exact e1
     ·exact HNO.out l z (by omega) hz
 obtain⟨j,hj⟩: ∃j,t.joints[i]?=some j:=⟨_,List.getElem?_eq_getElem (by rw[HN1.out];exact hlt)⟩
 have HJX:=zq hj;have HJA:=zq (jointE_at hj);obtain⟨bk,off,haj,-,-,-,-⟩:=HT0.out.j.joint hj;have HCX:=zq (fun W (hW:Below w.heap.size w W)=>(show W.cell? ⟨bk,off+i*4,none⟩=some (.int .i64 j.a.1)/\W.cell? ⟨bk,off+i*4+1,none⟩=some (.int .i64 j.a.2)/\W.cell? ⟨bk,off+i*4+2,none⟩=some (.int .i64 j.b.1)/\W.cell? ⟨bk,off+i*4+3,none⟩=some (.int .i64 j.b.2)from by obtain⟨b_,o_,e_,h_⟩:=(HT.out W hW).j.joint hj;rw[haj]at e_;injection e_ with e_;injection e_ with e1_ e2_ _;subst e1_ e2_;exact h_));have HAJ:=zq haj;rw[haj]at c1;have q1:=qdv j.a j.b;obtain⟨ja,jb⟩:=j;dsimp only at*;obtain⟨ea,hea⟩: ∃b,endB t ja=b:=⟨_,rfl⟩
 obtain⟨eb,heb⟩: ∃b,endB t jb=b:=⟨_,rfl⟩
 obtain⟨eq,heq⟩: ∃b,eqE ja jb=b:=⟨_,rfl⟩
 obtain⟨tw,htw⟩: ∃b,joinB (t.joints.take i) ja jb=b:=⟨_,rfl⟩
 rw[heq]at q1;rw[hea,heb,heq,htw]at HJA;have HEA:=zq hea;have HEB:=zq heb;have HTW:=zq htw;have y0:(0:Int)<=i:=by omega
 have y1:(i:Int)<n1:=by omega
 unfold endA at q1;clear hj haj hea heb heq htw;go_upto_region 11 with fail;clear c1;refine wp_region_held_drew (S:=(fun W_=>Has W_ (w.heap.size) 27 (tpC t a)/\Below wr.heap.size wr W_)) (by kernel_rfl) ?_ (fun hHeld=>?_)
 ·exact⟨(H0.out _ HW.out).draw,qah (Below.refl _ _)⟩
 refine tlZ 0 65 w.heap.size (tpC t a) (fun _ ⟨h_,_⟩=>h_) (h:=?_);simp only[lyZ];refine tkZ 1 66 (h:=?_);simp only[lyZ];refine tqZ 2 67 (fun w_ hSw=>(show w_.cell? ⟨w.heap.size,1,none⟩=some (.slice (some ⟨bk,off,none⟩) n1 a.cj:Value)from by have h_:=hSw.1.cell 1;rw[<-HAJ.out,<-HN1.out];exact h_)) (h:=?_);simp only[lyZ];refine tkZ 3 68 (h:=?_);simp only[lyZ];refine tkZ 4 69 (h:=?_);simp only[lyZ];refine tkZ 5 70 (h:=?_);simp only[lyZ];refine tqZ 6 71 (fun w_ hSw=>HCX.out w_ (HBA.out w_ (HW.out.trans (hSw.2.mono HW.out.size)))) (h:=?_);simp only[lyZ];refine rdZ [7] ?_;refine acZ (some 72) (fun K hK=>?_) ?_
 ·go_simp
  obtain⟨s0,s1⟩:=hHeld;refine(rend_any t a ja _).mono ?_;rw[HEA.out];rintro e_ vs ⟨rfl,hbs⟩;go_wp2_with fail;refine hK.out _ _ ?_ (fun hHeld=>?_)
  ·exact⟨s0.u hbs,bu s1 hbs⟩
  clear hK K s0 s1
  try simp only[lyZ]
  refine tkZ 8 5 (h:=?_);simp only[lyZ];refine dnZ ?_;have HA1:=zq hHeld;clear hHeld;go_upto_region 12 with fail;refine wp_region_held_drew (S:=(fun W_=>Has W_ (w.heap.size) 27 (tpC t a)/\Below wr.heap.size wr W_)) (by kernel_rfl) ?_ (fun hHeld=>?_)
  ·exact⟨HA1.out.1.draw,qah HA1.out.2⟩
  refine tlZ 0 73 w.heap.size (tpC t a) (fun _ ⟨h_,_⟩=>h_) (h:=?_);simp only[lyZ];refine tkZ 1 74 (h:=?_);simp only[lyZ];refine tqZ 2 75 (fun w_ hSw=>(show w_.cell? ⟨w.heap.size,1,none⟩=some (.slice (some ⟨bk,off,none⟩) n1 a.cj:Value)from by have h_:=hSw.1.cell 1;rw[<-HAJ.out,<-HN1.out];exact h_)) (h:=?_);simp only[lyZ];refine tkZ 3 76 (h:=?_);simp only[lyZ];refine tkZ 4 77 (h:=?_);simp only[lyZ];refine tkZ 5 78 (h:=?_);simp only[lyZ];refine tqZ 6 79 (fun w_ hSw=>HCX.out w_ (HBA.out w_ (HW.out.trans (hSw.2.mono HW.out.size)))) (h:=?_);simp only[lyZ];refine rdZ [7] ?_;refine acZ (some 80) (fun K hK=>?_) ?_
  ·go_simp
   obtain⟨s0,s1⟩:=hHeld;refine(rend_any t a jb _).mono ?_;rw[HEB.out];rintro e_ vs ⟨rfl,hbs⟩;go_wp2_with fail;refine hK.out _ _ ?_ (fun hHeld=>?_)
   ·exact⟨s0.u hbs,bu s1 hbs⟩
   clear hK K s0 s1
   try simp only[lyZ]
   refine tkZ 8 6 (h:=?_);simp only[lyZ];refine dnZ ?_;have HB1:=zq hHeld;clear hHeld HA1;have HWV:=zq (HW.out.trans (HB1.out.2.mono HW.out.size));obtain⟨d0,d1,d2,d3⟩:=HCX.out _ (HBA.out _ HWV.out);have c1:World.cell? vs ⟨w.heap.size,1,none⟩=some (.slice (some ⟨bk,off,none⟩) n1 a.cj):=(by have h_:=HB1.out.1.cell 1;rw[<-HAJ.out,<-HN1.out];exact h_)
   cases ea with
   |false=>
    go_upto_region 13 with fail;go_quiet (fail);go_wp2;go_ret
    have hJ:qbi t i=1:=by rw[HJA.out];simp
    have hE:cE=1:=by rw[HR1.out,if_neg (by rw[qaO hlt HF.out (by rw[hJ];decide),hJ];decide),qaO hlt HF.out (by rw[hJ];decide)];exact hJ
    subst hE;exact⟨by first|rfl|simp,HBA.out _ (by first|exact qaa HWV.out _|(rw[World.drewN_drewN];exact qaa HWV.out _))⟩
   |true=>
    cases eb with
    |false=>
     go_upto_region 13 with fail;go_quiet (fail);go_wp2;go_ret
     have hJ:qbi t i=1:=by rw[HJA.out];simp
     have hE:cE=1:=by rw[HR1.out,if_neg (by rw[qaO hlt HF.out (by rw[hJ];decide),hJ];decide),qaO hlt HF.out (by rw[hJ];decide)];exact hJ
     subst hE;exact⟨by first|rfl|simp,HBA.out _ (by first|exact qaa HWV.out _|(rw[World.drewN_drewN];exact qaa HWV.out _))⟩
    |true=>
     cases eq with
     |true=>
      go_upto_region 13 with fail;go_quiet (fail);go_wp2;go_ret
      have hJ:qbi t i=1:=by rw[HJA.out];simp
      have hE:cE=1:=by rw[HR1.out,if_neg (by rw[qaO hlt HF.out (by rw[hJ];decide),hJ];decide),qaO hlt HF.out (by rw[hJ];decide)];exact hJ
      subst hE;exact⟨by first|rfl|simp,HBA.out _ (by first|exact qaa HWV.out _|(rw[World.drewN_drewN];exact qaa HWV.out _))⟩
     |false=>
      go_upto_region 13 with fail;go_quiet (fail);go_upto_region 15 with fail;clear c1 d0 d1 d2 d3 q1;have HB2:=zq (show Has (vs.drewN nq) (w.heap.size) 27 (tpC t a)/\Below wr.heap.size wr (vs.drewN nq)from⟨HB1.out.1,qaa HB1.out.2 nq⟩);clear HB1 HWV;have hic:(i:Int)<=a.cj:=by have h1_:=HCJ.out;have h2_:=HN1.out;omega
      refine wp_region_held_drew (S:=(fun W_=>Has W_ (w.heap.size) 27 (tpC t a)/\Below wr.heap.size wr W_)) (by kernel_rfl) ?_ (fun hHeld=>?_)
      ·exact⟨HB2.out.1.draw,qah HB2.out.2⟩
      refine tkZ 0 102 (h:=?_);simp only[lyZ];refine tqZ 1 103 (fun w_ hSw=>(show w_.cell? ⟨w.heap.size,1,none⟩=some (.slice (some ⟨bk,off,none⟩) n1 a.cj:Value)from by have h_:=hSw.1.cell 1;rw[<-HAJ.out,<-HN1.out];exact h_)) (h:=?_);simp only[lyZ];refine tkZ 2 104 (h:=?_);simp only[lyZ];refine tkZ 3 105 (h:=?_);simp only[lyZ];refine tkZ 4 106 (h:=?_);simp only[lyZ];refine tqZ 5 107 (fun w_ hSw=>(show w_.cell? ⟨w.heap.size,1,none⟩=some (.slice (some ⟨bk,off,none⟩) n1 a.cj:Value)from by have h_:=hSw.1.cell 1;rw[<-HAJ.out,<-HN1.out];exact h_)) (h:=?_);simp only[lyZ];refine tkZ 6 108 (h:=?_);simp only[lyZ];refine tkZ 7 109 (h:=?_);simp only[lyZ];refine tkZ 8 110 (h:=?_);simp only[lyZ];refine tqZ 9 111 (fun w_ hSw=>HCX.out w_ (HBA.out w_ (HW.out.trans (hSw.2.mono HW.out.size)))) (h:=?_);simp only[lyZ];refine tkZ 10 112 (h:=?_);simp only[lyZ];refine tqZ 11 113 (fun w_ hSw=>(show w_.cell? ⟨w.heap.size,1,none⟩=some (.slice (some ⟨bk,off,none⟩) n1 a.cj:Value)from by have h_:=hSw.1.cell 1;rw[<-HAJ.out,<-HN1.out];exact h_)) (h:=?_);simp only[lyZ];refine tkZ 12 114 (h:=?_);simp only[lyZ];refine tkZ 13 115 (h:=?_);simp only[lyZ];refine tkZ 14 116 (h:=?_);simp only[lyZ];refine tqZ 15 117 (fun w_ hSw=>HCX.out w_ (HBA.out w_ (HW.out.trans (hSw.2.mono HW.out.size)))) (h:=?_);simp only[lyZ];refine rdZ [16] ?_;refine acZ (some 118) (fun K hK=>?_) ?_
      ·go_simp
       obtain⟨s0,s1⟩:=hHeld;have hlo_:=HBA.out _ (bu HW.out s1);have hj_:=(HT.out _ hlo_).j;rw[HAJ.out]at hj_;refine(qfA _ i a.cj _ ja jb _ (hj_.take (fun _=>rfl) (by simp) (by have:=HN1.out;omega)) (by omega)).mono ?_;rw[HTW.out];rintro e_ vs ⟨rfl,hbs⟩;go_wp2_with fail;refine hK.out _ _ ?_ (fun hHeld=>?_)
       ·exact⟨s0.u hbs,bu s1 hbs⟩
       clear hK K s0 s1
       try simp only[lyZ]
       refine tkZ 17 7 (h:=?_);simp only[lyZ];refine dnZ ?_;have HB3:=zq (HW.out.trans (hHeld.2.mono HW.out.size));clear hHeld hic
       cases tw with
       |true=>
        go_wp2;go_ret
        have hJ:qbi t i=5:=by rw[HJA.out];simp
        have hE:cE=5:=by rw[HR1.out,if_neg (by rw[qaO hlt HF.out (by rw[hJ];decide),hJ];decide),qaO hlt HF.out (by rw[hJ];decide)];exact hJ
        subst hE;exact⟨by first|rfl|simp,HBA.out _ HB3.out⟩
       |false=>
        go_wp2;go_roundg (gk-1)
        case measure=>omega
        case rel=>
         refine⟨i+1,by omega,by omega,by go_num,zq ?_,HB3.out⟩;show(if qaE (qbi t) i=0 then qbi t i else qaE (qbi t) i)=0
         rw[if_pos HF.out,HJA.out];simp
      exact AllReadyH.nil
  exact AllReadyH.nil
 exact AllReadyH.nil
end
section
open Go.RowKit
open Go.Great
def psA (p:Ps3):Array Value:=#[.int .i64 p.edge,.int .i64 p.at_,.bool p.rev]
end
section
open Go.RowKit
open Go.Great
theorem rright_any (t:Tp3)(a:TpA)(p:Ps3)(w:World)(ht:TopR w t a)(hlt:qaJ t=true)(hcj:t.joints.length<=a.cj):
  Calls Tryz.prog 150 #[.agg (tpC t a),.agg (psA p)] w fun e w'=>e= .returned (.bool (qa4 t p))/\Below w.heap.size w w':=by
 obtain⟨cE,hcE⟩: ∃e,qax t=e:=⟨_,rfl⟩
 have HR:Hid (qa4 t p=(decide (cE=0) &&(edgeB t p.edge &&(decide (0<=p.at_) &&decide (p.at_<=qau t p.edge))))):=zq (by unfold qa4 onB;rw[hcE]);have HLT:=zq hlt;have HCJ:=zq hcj;have HCE:=zq hcE;clear hlt hcj hcE;obtain⟨wa,hwa,hbwa,HWA,HBWA,h0,h1⟩:=bx2Z w 27 (tpC t a) 51 (psA p);have HT:=zq (ht.under hbwa);have H0:=zq h0;have HC:=zq (fun W (hW:Below wa.heap.size wa W)=>And.intro (h0.u hW) (h1.u hW));clear hwa hbwa h0 h1;go_enter Tryz.func150,Tryz.ntmps150;go_upto_region 1 with fail;rw[HWA.out];clear HWA;go_wp2_with (with_reducible refine ldZ 6 H0.out ?_);refine(qeE t a wa HT.out HLT.out HCJ.out).mono ?_;rw[HCE.out];rintro e w1 ⟨rfl,hb1⟩;have HB1:=tB HBWA hb1;have HE1:=zq (ht.e.under HB1.out);obtain⟨k0,k1⟩:=HC.out w1 hb1;clear hb1 HC H0 HT HCE HBWA ht;obtain⟨e,at_,rv⟩:=p;dsimp only at*;have c0:w1.cell? ⟨w.heap.size,0,none⟩=some (.slice a.ae t.edges.length a.ce):=k0.cell 0;have d0:w1.cell? ⟨w.heap.size+1,0,none⟩=some (.int .i64 e):=k1.cell 0;have d1:w1.cell? ⟨w.heap.size+1,1,none⟩=some (.int .i64 at_):=k1.cell 1;clear k0 k1;obtain⟨n,hn⟩:=geZ (t.edges.length);have HN:=zq hn;rw[hn]at c0;clear hn;by_cases z0:cE=0;rotate_left
 ·have g0:decide (cE=0)=false:=decide_eq_false z0
  have g1:(cE==0)=false:=by simp[z0]
  go_upto_region 2 with fail;go_quiet (fail);go_wp2;go_ret
  have hE:qa4 t ⟨e,at_,rv⟩=false:=by rw[HR.out];rw[g0];rfl
  rw[hE];exact⟨rfl,by first|exact qaa HB1.out _|(rw[World.drewN_drewN];exact qaa HB1.out _)⟩
 subst z0;by_cases z1:0<=e;rotate_left
 ·have g0:decide (0<=e)=false:=decide_eq_false z1
  go_upto_region 2 with fail;go_quiet (fail);go_wp2;go_ret
  have hE:qa4 t ⟨e,at_,rv⟩=false:=by rw[HR.out];unfold edgeB;rw[g0];rfl
  rw[hE];exact⟨rfl,by first|exact qaa HB1.out _|(rw[World.drewN_drewN];exact qaa HB1.out _)⟩
 by_cases z2:e<n;rotate_left
 ·have g0:decide (e<(n:Int))=false:=decide_eq_false z2
  go_upto_region 2 with fail;go_quiet (fail);go_wp2;go_ret
  have hE:qa4 t ⟨e,at_,rv⟩=false:=by rw[HR.out];unfold edgeB;rw[HN.out,g0];simp
  rw[hE];exact⟨rfl,by first|exact qaa HB1.out _|(rw[World.drewN_drewN];exact qaa HB1.out _)⟩
 have HEB:=zq (show edgeB t e=true from by unfold edgeB;rw[HN.out];simp;omega);by_cases z3:0<=at_;rotate_left
 ·have g0:decide (0<=at_)=false:=decide_eq_false z3
  go_upto_region 2 with fail;go_quiet (fail);go_wp2;go_ret
  have hE:qa4 t ⟨e,at_,rv⟩=false:=by rw[HR.out];rw[g0,HEB.out];rfl
  rw[hE];exact⟨rfl,by first|exact qaa HB1.out _|(rw[World.drewN_drewN];exact qaa HB1.out _)⟩
 obtain⟨k,rfl⟩: ∃k:Nat,e=k:=⟨e.toNat,by omega⟩
 obtain⟨be,oe,hae,ce⟩:=HE1.out.edge (show k<t.edges.length by rw[HN.out];omega);obtain⟨q,hq⟩:=geZ (t.edges.getD k 0);have HQ:=zq (show qau t k=q from hq);rw[hq]at ce;rw[hae]at c0;clear hq hae;by_cases z4:at_<=q
 ·have g0:decide (at_<=q)=true:=decide_eq_true z4
  go_upto_region 2 with fail;go_quiet (fail);go_wp2;go_ret
  have hE:qa4 t ⟨(k:Int),at_,rv⟩=true:=by rw[HR.out];rw[HQ.out,HEB.out,g0,decide_eq_true z3];rfl
  rw[hE];exact⟨rfl,by first|exact qaa HB1.out _|(rw[World.drewN_drewN];exact qaa HB1.out _)⟩
 have g0:decide (at_<=q)=false:=decide_eq_false z4;go_upto_region 2 with fail;go_quiet (fail);go_wp2;go_ret
 have hE:qa4 t ⟨(k:Int),at_,rv⟩=false:=by rw[HR.out];rw[HQ.out,HEB.out,g0,decide_eq_true z3];rfl
 rw[hE];exact⟨rfl,by first|exact qaa HB1.out _|(rw[World.drewN_drewN];exact qaa HB1.out _)⟩
theorem rahead_any (t:Tp3)(a:TpA)(p:Ps3)(w:World)(ht:TopR w t a)(hp:onB t p=true)(hok:qaF t=true):
  Calls Tryz.prog 151 #[.agg (tpC t a),.agg (psA p)] w fun e w'=>e= .returned (.int .i64 (qaA t p))/\Below w.heap.size w w':=by
 have HP:=zq (qbu.1 hp);have HA:=zq (qdr hok hp);obtain⟨wa,hwa,hbwa,HWA,HBWA,h0,h1⟩:=bx2Z w 27 (tpC t a) 51 (psA p);obtain⟨e,at_,rv⟩:=p;unfold psA at*;unfold qaA at HA⊢;dsimp only at*;have c0:wa.cell? ⟨w.heap.size,0,none⟩=some (.slice a.ae t.edges.length a.ce):=h0.cell 0;have d0:wa.cell? ⟨w.heap.size+1,0,none⟩=some (.int .i64 e):=h1.cell 0;have d1:wa.cell? ⟨w.heap.size+1,1,none⟩=some (.int .i64 at_):=h1.cell 1;have d2:wa.cell? ⟨w.heap.size+1,2,none⟩=some (.bool rv):=h1.cell 2;have HE1:=zq (ht.e.under hbwa);clear hwa hbwa h0 h1 hp ht hok;have hpp:=HP.out.1;unfold edgeB at hpp;simp only[Bool.and_eq_true,decide_eq_true_eq]at hpp;obtain⟨hp1,hp2⟩:=hpp;obtain⟨k,rfl⟩: ∃k:Nat,e=k:=⟨e.toNat,by omega⟩
 obtain⟨be,oe,hae,ce⟩:=HE1.out.edge (show k<t.edges.length by omega);obtain⟨q,hq⟩:=geZ (t.edges.getD k 0);have hq2:qau t k=q:=hq;rw[hq2]at HA⊢;rw[hq]at ce;rw[hae]at c0;obtain⟨n,hn⟩:=geZ (t.edges.length);rw[hn]at c0 hp2;clear hq hq2 hae hn HE1 HP
 cases rv with
 |true=>
  go_enter Tryz.func151,Tryz.ntmps151;go_upto_region 1 with fail;rw[HWA.out];clear HWA;go_wp2;go_ret
  exact⟨rfl,HBWA.out⟩
 |false=>
  have hwr1:IntKind.i64.wrap (q-at_)=q-at_:=by have h_:=HA.out;rw[if_neg (by decide)]at h_;rw[IntKind.wrap_i64];omega
  go_enter Tryz.func151,Tryz.ntmps151;go_upto_region 1 with fail;rw[HWA.out];clear HWA;go_wp2;go_quiet (fail);go_wp2;go_ret
  exact⟨by first|rfl|simp,by first|exact qaa HBWA.out _|(rw[World.drewN_drewN];exact qaa HBWA.out _)|exact HBWA.out⟩
end
section
open Go.RowKit
open Go.Great
theorem qce:(Tryz.prog.info? 30).map (fun i=>(i.zero,i.size,i.bytes))=some (some (.agg #[.int .i64 0,.bool false]),2,16):=by kernel_rfl
def OwS14 (base:Nat)(w:World)(A:Option Addr)(n c:Nat)(l:List St3):Prop:=w.ownsRow base 30 2 (.slice A n c) n (l.flatMap stC)/\l.length=n
theorem OwS14.snoc {base n c:Nat}{W:World}{A:Option Addr}{l:List St3}{x:St3}(hl:l.length=n)(ho:W.ownsRow base 30 2 (.slice A (n+1) c) (n+1) (l.flatMap stC++stC x)):OwS14 base W A (n+1) c (l++[x]):=
 ⟨by rw[List.flatMap_append];simpa using ho,by simp[hl]⟩
theorem OwS14.under {base n c:Nat}{W W':World}{A:Option Addr}{l:List St3}(h:OwS14 base W A n c l)(hb:Below W.heap.size W W'):OwS14 base W' A n c l:=⟨qdj h.1 hb (Nat.le_refl _),h.2⟩
theorem OwS14.ne {base n c:Nat}{W:World}{A:Option Addr}{l:List St3}(h:OwS14 base W A n c l){g:Nat}(hg:W.heap.size<=g):(Value.slice A n c).ownBlock≠some g:=fun e=>by
 have:=(h.1.lt g e).2;omega
theorem OwS14.low {base n c:Nat}{W:World}{A:Option Addr}{l:List St3}(h:OwS14 base W A n c l){ad:Addr}(ha:A=some ad):base<=ad.block:=by
 rcases h.1.2 with⟨e1,_⟩|⟨g,cap,cur,e1,hb,_⟩
 ·injection e1 with e1
  rw[ha]at e1
  cases e1
 ·injection e1 with e1
  rw[ha]at e1;injection e1 with e1
  rw[e1];exact hb
end
section
open Go.RowKit
open Go.Great
theorem walkE_bad {t:Tp3}{p:Ps3}{n:Int}(h: ¬(qa4 t p=true/\0<=n/\n<=1099511627776)):walkE t p n=(zeroP,1):=if_neg h
theorem walkE_ok {t:Tp3}{p:Ps3}{n:Int}(h:qa4 t p=true/\0<=n/\n<=1099511627776):walkE t p n=walkF t 40 p n:=if_pos h
theorem walk_next14 {t:Tp3}{k:Nat}{p:Ps3}{n:Int}{s:St3}(h: ¬n<=qaA t p)(h1:qaC t (stepP p)=[s])(hk:1<=k):walkF t k p n=walkF t (k-1) (qb1 t s) (n-qaA t p):=by
 obtain⟨j,rfl⟩: ∃j,k=j+1:=⟨k-1,by omega⟩
 exact walk_on h h1
end
section
open Go.RowKit
open Go.Great
theorem qec {t:Tp3}{p:Ps3}{path:List St3}{i:Nat}{x:St3}{c:Int}(hx:path[i]?=some x):onGo t p (path.drop i) c=if eqS x (stepP p)=true then some (c+lenAt t x-qaA t p)else onGo t p (path.drop (i+1)) (c+lenAt t x):=by
 obtain⟨h1,e⟩:=List.getElem?_eq_some_iff.1 hx;rw[List.drop_eq_getElem_cons h1,e,onGo]
theorem loc_bad14 {t:Tp3}{id:Int}{rev:Bool}{n:Int}(h:qax t≠0):locE t id rev n=(zeroP,1):=if_neg h
theorem loc_none14 {t:Tp3}{id:Int}{rev:Bool}{n:Int}(h:qax t=0)(hb:(balF t id).isSome=false):locE t id rev n=(zeroP,4):=by
 unfold locE;rw[if_pos h]
 cases hq:balF t id with
 |none=>rfl
 |some y=>rw[hq]at hb;cases hb
theorem loc_some14 {t:Tp3}{id:Int}{rev:Bool}{n:Int}(h:qax t=0)(hb:(balF t id).isSome=true):locE t id rev n=walkE t ⟨(balR t id).edge,(balR t id).at_,rev⟩ n:=by
 unfold locE balR;rw[if_pos h]
 cases hq:balF t id with
 |none=>rw[hq]at hb;cases hb
 |some y=>rfl
theorem on_bad14 {t:Tp3}{path:List St3}{p:Ps3}(h:qa4 t p=false):onE t path p=(0,1):=if_neg (by rw[h];decide)
theorem on_len14 {t:Tp3}{path:List St3}{p:Ps3}(h:qa4 t p=true)(hl:lenE t path≠0):onE t path p=(0,lenE t path):=by
 unfold onE;rw[if_pos h,if_neg hl]
theorem on_none14 {t:Tp3}{path:List St3}{p:Ps3}(h:qa4 t p=true)(hl:lenE t path=0)(hg:onGo t p path 0=none):onE t path p=(0,4):=by
 unfold onE;rw[if_pos h,if_pos hl,hg]
theorem on_some14 {t:Tp3}{path:List St3}{p:Ps3}{n:Int}(h:qa4 t p=true)(hl:lenE t path=0)(hg:onGo t p path 0=some n):onE t path p=(n,0):=by
 unfold onE;rw[if_pos h,if_pos hl,hg]
theorem qeG {t:Tp3}{path:List St3}{i:Nat}{x:St3}(hx:path[i]?=some x):sumT t (path.take (i+1))=sumT t (path.take i)+lenAt t x:=by
 rw[List.take_add_one,hx,qfI];show _+(lenAt t x+0)=_
 rw[Int.add_zero]
theorem ron_any (t:Tp3)(a:TpA)(path:List St3)(A:Option Addr)(n c:Nat)(p:Ps3)(w:World)(ht:TopR w t a)(hlt:qaJ t=true)(hcj:t.joints.length<=a.cj)(hp:SlO stC 2 w A n c path)(hn:n<=1048576):
  Calls Tryz.prog 192 #[.agg (tpC t a),.slice A n c,.agg (psA p)] w fun e w'=>e= .returned (.tuple #[.int .i64 (onE t path p).1,.int .i64 (onE t path p).2])/\Below w.heap.size w w':=by
 obtain⟨rN,hrN⟩: ∃r,(onE t path p).1=r:=⟨_,rfl⟩
 obtain⟨rE,hrE⟩: ∃r,(onE t path p).2=r:=⟨_,rfl⟩
 have HOE:=zq (show onE t path p=(rN,rE)from Prod.ext hrN hrE);rw[hrN,hrE];clear hrN hrE;have HLT:=zq hlt;have HNN:=zq (qav hlt);have HCJ:=zq hcj;have HNL:=zq hn;have HL:=zq hp.1;clear hlt hcj hn;obtain⟨wa,hwa,hbwa,HWA,HBWA,h0,h1⟩:=bx2Z w 27 (tpC t a) 51 (psA p);have HT:=zq (fun W (hW:Below w.heap.size w W)=>ht.under hW);have HP:=zq (fun W (hW:Below w.heap.size w W)=>hp.under hW);have HG0:=zq h0;have HG1:=zq h1;obtain⟨b,hb⟩:=geZ (qa4 t p);have HRB:=zq hb;clear hwa hbwa h0 h1 hb ht hp;go_enter Tryz.func192,Tryz.ntmps192;go_upto_region 1 with fail;rw[HWA.out];clear HWA;go_wp2_with (first|(with_reducible refine ldZ 13 HG0.out ?_)|(with_reducible refine ldZ 14 HG1.out ?_));refine(rright_any t a p wa (HT.out wa HBWA.out) HLT.out HCJ.out).mono ?_;rw[HRB.out];rintro e w1 ⟨rfl,hb⟩;have HB:=HBWA;clear HBWA;have HB:=tB HB hb;have HG0:=uH HG0 hb;have HG1:=uH HG1 hb;clear hb
 cases b with
 |false=>
  go_wp2;go_ret2
  obtain⟨rfl,rfl⟩:=Prod.mk.inj (show(rN,rE)=(0,1)from HOE.out.symm.trans (on_bad14 HRB.out));exact⟨rfl,HB.out⟩
 |true=>
  have HRR:=zq (qaQ.1 HRB.out);have HED:=zq (qaD HRR.out.1).1;have HON:=zq HRR.out.2;clear HRR;go_upto_region 4 with fail;go_wp2_with (with_reducible refine ldZ 19 HG0.out ?_);refine(qdT t a path A n c w1 (HT.out w1 HB.out) (HP.out w1 HB.out) HNL.out HNN.out.2.1 HED.out).mono ?_;rintro e w2 ⟨rfl,hb⟩;have HB:=tB HB hb;have HG0:=uH HG0 hb;have HG1:=uH HG1 hb;clear hb;obtain⟨lN,hlN⟩: ∃x,lenN t path=x:=⟨_,rfl⟩
  obtain⟨lE,hlE⟩: ∃x,lenE t path=x:=⟨_,rfl⟩
  have HLE:=zq hlE;simp only[hlN,hlE];clear hlN hlE;by_cases z0:lE=0;rotate_left
  ·have x1:(lE !=0)=true:=by simp[z0]
   have x2:(lE==0)=false:=by simp[z0]
   have HZ0:=zq z0;go_wp2;go_ret2
   obtain⟨rfl,rfl⟩:=Prod.mk.inj (show(rN,rE)=(0,lE)from HOE.out.symm.trans (by rw[on_len14 HRB.out (by rw[HLE.out];exact HZ0.out),HLE.out]));exact⟨rfl,HB.out⟩
  subst z0;have HLO:=zq (qd8 HLE.out);have hn40:n<=40:=by have h1_:=HLO.out.2.1;have h2_:=HL.out;omega
  have HN4:=zq (show n<=40 from by have h1_:=HLO.out.2.1;have h2_:=HL.out;omega);go_upto_region 8 with fail;go_wp2;go_loopg [11,12] n (fun kk v11 v12 wl=> ∃(i k:Nat) (sv:Int),i<=n/\n-i<=kk/\v12= .int .i64 i/\v11= .int .i64 sv/\Hid (sumT t (path.take i)=sv)/\Hid (onGo t p path 0=onGo t p (path.drop i) sv)/\wl=w2.drewN k)
  case atStart=>exact⟨0,0,0,by omega,by omega,rfl,rfl,zq (by simp[sumT]),zq (by simp),rfl⟩
  obtain⟨i,k,sv,hi,hik,rfl,rfl,HSV,HGO,hwr⟩:=hrel;skip;have HBR:=zq (show Below w.heap.size w wr from by rw[hwr];exact qaa HB.out k);have HBR2:=zq (show Below w2.heap.size w2 wr from by rw[hwr];exact qaa (Below.refl _ _) k);have HWR:=zq hwr;clear hwr;by_cases hlt:i<n;rotate_left
  ·obtain rfl:i=n:=by omega
   have x1: ¬(i:Int)<i:=by omega
   clear hi hik hlt;go_wp2;go_ret2
   obtain⟨rfl,rfl⟩:=Prod.mk.inj (show(rN,rE)=(0,4)from HOE.out.symm.trans (on_none14 HRB.out HLE.out (by rw[HGO.out,List.drop_of_length_le (by rw[HL.out];exact Nat.le_refl _)];rfl)));exact⟨rfl,HBR.out⟩
  obtain⟨x,hx⟩:=glZ path (i) (by rw[HL.out];omega);have HX:=zq hx;obtain⟨bk,off,rfl,e0,e1⟩:=(HP.out wr HBR.out).step hx;have hxe:=HLO.out.2.2.1 x (List.mem_of_getElem? hx);have HXE:=zq hxe;have hxe2:=hxe;unfold edgeB at hxe2;simp only[Bool.and_eq_true,decide_eq_true_eq]at hxe2;obtain⟨ke,hke⟩: ∃k:Nat,x.edge=k:=⟨x.edge.toNat,by omega⟩
  have hkl:ke<t.edges.length:=by omega
  obtain⟨be,oe,hae,ce⟩:=(HT.out wr HBR.out).e.edge hkl;have HLA:=zq (show lenAt t x=t.edges.getD ke 0 from by unfold lenAt;rw[hke];rfl);obtain⟨q,hq⟩:=geZ (t.edges.getD ke 0);rw[hq]at HLA ce;have HQ:=zq (show 1<=q/\q<=1000000 from by rw[<-HLA.out];exact qa2 HED.out hxe);have HSB:=zq (show 0<=sv/\sv<=40000000 from by have h1_:=qcw HED.out (path:=path.take i) (fun s hs=>HLO.out.2.2.1 s (List.mem_of_mem_take hs));have h2_:=HSV.out;have h3_:(path.take i).length<=40:=(by rw[List.length_take];have:=HN4.out;omega);omega);have c0:wr.cell? ⟨w.heap.size,0,none⟩=some (.slice (some ⟨be,oe,none⟩) t.edges.length a.ce):=by have h_:=(HG0.out.under HBR2.out HG0.out.lt).cell 0;rw[<-hae];exact h_
  have d0:wr.cell? ⟨w.heap.size+1,0,none⟩=some (.int .i64 p.edge):=(HG1.out.under HBR2.out HG1.out.lt).cell 0;have d2:wr.cell? ⟨w.heap.size+1,2,none⟩=some (.bool p.rev):=(HG1.out.under HBR2.out HG1.out.lt).cell 2;obtain⟨ne,hne⟩: ∃m,t.edges.length=m:=⟨_,rfl⟩
  rw[hne]at c0 hkl;have HKE:=zq hke;rw[hke]at e0;have y0:(0:Int)<=i:=by omega
  have y1:(i:Int)<n:=by omega
  have z0:(0:Int)<=ke:=by omega
  have z1:(ke:Int)<ne:=by omega
  have hwr1:IntKind.i64.wrap (sv+q)=sv+q:=by have h1_:=HQ.out;have h2_:=HSB.out;rw[IntKind.wrap_i64];omega
  clear hx hxe hxe2 hke hkl hae hq hne;go_upto_region 11 with fail;go_quiet (fail);clear c0 ce z0 z1 hwr1;obtain⟨xe,xr⟩:=x;dsimp only at*;skip;by_cases ze:(ke:Int)=p.edge;rotate_left
  ·have g1:((ke:Int)==p.edge)=false:=by simp[ze]
   have g2:decide ((ke:Int)=p.edge)=false:=decide_eq_false ze;have HZE:=zq (show¬xe=p.edge from by rw[HKE.out];exact ze);go_upto_region 12 with fail;go_quiet (fail);go_wp2;go_roundg (gk-1)
   case measure=>omega
   case rel=>
    refine⟨i+1,_,sv+q,by omega,by omega,by go_num,rfl,zq (by rw[qeG HX.out,HSV.out,HLA.out]),zq (by rw[HGO.out,qec HX.out,if_neg (by rw[qaI];intro e_;exact HZE.out (congrArg St3.edge e_)),HLA.out]),by first|(rw[HWR.out];rfl)|(rw[HWR.out,World.drewN_drewN])|(rw[HWR.out];simp only[World.drewN_drewN];rfl)⟩
  by_cases zr:xr=p.rev;rotate_left
  ·have g1:(xr==p.rev)=false:=by simp[zr]
   have g2:decide (xr=p.rev)=false:=decide_eq_false zr;have HZR:=zq zr;go_upto_region 12 with fail;go_quiet (fail);go_wp2;go_roundg (gk-1)
   case measure=>omega
   case rel=>
    refine⟨i+1,_,sv+q,by omega,by omega,by go_num,rfl,zq (by rw[qeG HX.out,HSV.out,HLA.out]),zq (by rw[HGO.out,qec HX.out,if_neg (by rw[qaI];intro e_;exact HZR.out (congrArg St3.rev e_)),HLA.out]),by first|(rw[HWR.out];rfl)|(rw[HWR.out,World.drewN_drewN])|(rw[HWR.out];simp only[World.drewN_drewN];rfl)⟩
  have HEQ:=zq (show eqS ⟨xe,xr⟩ (stepP p)=true from(qaI _ _).2 (by rw[HKE.out,ze,zr];rfl));go_upto_region 12 with fail;go_quiet (fail);go_upto_region 13 with fail;clear e0 e1 d0 d2 y0 y1 ze zr;have HG0r:=zq (HG0.out.under HBR2.out HG0.out.lt);have HG1r:=zq (HG1.out.under HBR2.out HG1.out.lt);obtain⟨ah,hah⟩: ∃x,qaA t p=x:=⟨_,rfl⟩
  have HAH:=zq hah;have HAB:=zq (show 0<=ah/\ah<=1000000 from by rw[<-hah];exact qdr HED.out HON.out);clear hah;rw[World.drewN_drewN];go_wp2_with (first|(with_reducible refine ldZ 63 (HG0r.out.under (qaa (Below.refl wr.heap.size wr) _) HG0r.out.lt) ?_)|(with_reducible refine ldZ 64 (HG1r.out.under (qaa (Below.refl wr.heap.size wr) _) HG1r.out.lt) ?_));refine(rahead_any t a p _ (HT.out _ (qaa HBR.out _)) HON.out HED.out).mono ?_;rw[HAH.out];rintro e w5 ⟨rfl,hb⟩;have HB5:=zq ((qaa HBR.out _).trans (hb.mono (qaa HBR.out _).size));clear hb;have hwr2:IntKind.i64.wrap (sv+q-ah)=sv+q-ah:=by have h1_:=HQ.out;have h2_:=HSB.out;have h3_:=HAB.out;rw[IntKind.wrap_i64];omega
  go_wp2;go_ret2
  obtain⟨rfl,rfl⟩:=Prod.mk.inj (show(rN,rE)=(sv+q-ah,0)from HOE.out.symm.trans (on_some14 HRB.out HLE.out (by rw[HGO.out,qec HX.out,if_pos HEQ.out,HLA.out,HAH.out])));exact⟨rfl,HB5.out⟩
end
section
open Go.RowKit
/-! One more, one less: the walk's two spellings. -/
theorem succ_w {j j1:Nat}(h:j+1=j1)(hb:j<=1000000000):wrap64 ((j:Int)+1)=(j1:Int):=by
 rw[IntWalk.wrap64_in _ (by omega)];omega
def OwR {α:Type}(f:α->List Value)(k:Nat)(e:TypeId)(base:Nat)(w:World)(A:Option Addr)(n c:Nat)(l:List α):Prop:=w.ownsRow base e k (.slice A n c) n (l.flatMap f)/\l.length=n
section
variable {α:Type} {f:α->List Value} {k:Nat} {e:TypeId} {base:Nat} {w w':World} {A:Option Addr} {n c:Nat} {l:List α}
theorem OwR.nil (f:α->List Value)(k:Nat)(e:TypeId)(base:Nat)(w:World):OwR f k e base w none 0 0 []:=⟨World.ownsRow_nil _ _ _ _,rfl⟩
theorem OwR.under (h:OwR f k e base w A n c l)(hb:Below w.heap.size w w'):OwR f k e base w' A n c l:=⟨qdj h.1 hb (Nat.le_refl _),h.2⟩
theorem OwR.ne (h:OwR f k e base w A n c l){g:Nat}(hg:w.heap.size<=g):(Value.slice A n c).ownBlock≠some g:=fun e=>by
 have:=(h.1.lt g e).2;omega
theorem OwR.low (h:OwR f k e base w A n c l){ad:Addr}(ha:A=some ad):base<=ad.block:=by
 subst ha;exact(h.1.lt ad.block rfl).1
theorem OwR.lt (h:OwR f k e base w A n c l){ad:Addr}(ha:A=some ad):ad.block<w.heap.size:=by
 subst ha;exact(h.1.lt ad.block rfl).2
theorem OwR.sl (h:OwR f k e base w A n c l):SlO f k w A n c l:=⟨h.2,Sl.of_own h.1⟩
theorem OwR.cap (h:OwR f k e base w A n c l):n<=c:=by
 rcases h.1.2 with⟨h1,h2⟩|⟨g,cap,cur,h1,_,_,h2,_⟩
 ·omega
 ·injection h1 with _ _ h1
  omega
theorem OwR.kept {row:Option Nat}(h:OwR f k e base w A n c l)(hg:w.grownBy w' row)(hne:(Value.slice A n c).ownBlock=none\/(Value.slice A n c).ownBlock≠row):OwR f k e base w' A n c l:=⟨h.1.kept hg hne,h.2⟩
theorem OwR.apart {g:Nat}{t:TypeId}{cs:Array Value}(h:OwR f k e base w A n c l)(hg:Has w g t cs)(hne:e≠t):(Value.slice A n c).ownBlock≠some g:=qa0 h.1 hg hne
theorem OwR.draws (h:OwR f k e base w A n c l)(m:Nat):OwR f k e base (w.drewN m) A n c l:=h
theorem OwR.to_base {base':Nat}(h:OwR f k e base w A n c l)(hb:base'<=base):OwR f k e base' w A n c l:=by
 refine⟨⟨h.1.1,?_⟩,h.2⟩
 rcases h.1.2 with h1|⟨g,cap,cur,h1,h2,h3⟩
 ·exact .inl h1
 ·exact .inr ⟨g,cap,cur,h1,Nat.le_trans hb h2,h3⟩
theorem OwR.two {β:Type}{f':β->List Value}{k':Nat}{e':TypeId}{base':Nat}{A':Option Addr}{n' c':Nat}{l':List β}(h:OwR f k e base w A n c l)(h':OwR f' k' e' base' w A' n' c' l')(hne:e≠e'):(Value.slice A n c).ownBlock=none\/(Value.slice A n c).ownBlock≠(Value.slice A' n' c').ownBlock:=by
 cases A with
 |none=>exact .inl rfl
 |some ad=>
  refine .inr fun he=>?_
  cases A' with
  |none=>cases he
  |some ad'=>
   rcases h.1.2 with⟨h1,_⟩|⟨g,cap,cur,h1,_,h3,_⟩
   ·cases h1
   ·rcases h'.1.2 with⟨h4,_⟩|⟨g',cap',cur',h4,_,h6,_⟩
    ·cases h4
    ·injection h1 with h1
     injection h1 with h1
     injection h4 with h4
     injection h4 with h4
     subst h1 h4;have he:g=g':=by simpa[Value.ownBlock]using he
     subst he;rw[h3]at h6;simp only[Option.some.injEq,Obj.cells.injEq]at h6;exact hne h6.2.1
def PushR (f:α->List Value)(k:Nat)(e:TypeId)(bytes base:Nat)(w:World)(g:Nat)(A:Option Addr)(n c:Nat)(l:List α)(x:α):Prop:=
 Hid ((f x).length=1*k)/\Hid (w.ownsRow base e k (.slice A n c) n (l.flatMap f))/\Hid (∀j u,(f x)[j]?=some u->w.cell? ((⟨g,0,none⟩:Addr).add j)=some u)/\Hid (∀u∈f x,u.oneCell'=true)/\Hid (n+1<=maxLen/\(n+1)*bytes<=140737488355328/\base<=w.heap.size)
theorem pushR (bytes:Nat)(x:α)(cs:Array Value)(hcs:cs.toList=f x)(hk:(f x).length=k)(h1: ∀u∈f x,u.oneCell'=true)(ho:OwR f k e base w A n c l)(hb:base<=w.heap.size)(hn:n<=1048576)(hby:bytes<=65536):PushR f k e bytes base (w.alloc (.cells cs e)) w.heap.size A n c l x:=by
 refine⟨zq (by rw[hk];omega),zq (ho.1.alloc _),zq fun j u hu=>?_,zq h1,zq ⟨by unfold maxLen;omega,?_,by simp;omega⟩⟩
 ·rw[WideShapes.add_plain,(Has.made w e _).cell,Nat.zero_add,<-Array.getElem?_toList,hcs]
  exact hu
 ·have:=Nat.mul_le_mul (show n+1<=1048577 by omega) hby
  omega
theorem OwR.snoc {x:α}(hl:l.length=n)(ho:w.ownsRow base e k (.slice A (n+1) c) (n+1) (l.flatMap f++f x)):OwR f k e base w A (n+1) c (l++[x]):=
 ⟨by rw[List.flatMap_append];simpa using ho,by simp[hl]⟩
theorem OwR.poured {m:Nat}{l':List α}(hl:l.length=n)(hl':l'.length=m)(ho:w.ownsRow base e k (.slice A (n+m) c) (n+m) (l.flatMap f++l'.flatMap f)):OwR f k e base w A (n+m) c (l++l'):=
 ⟨by rw[List.flatMap_append];exact ho,by simp[hl,hl']⟩
theorem pourR (bytes:Nat){B:Option Addr}{m cc:Nat}{l':List α}(ho:OwR f k e base w A n c l)(hs:SlO f k w B m cc l')(h1: ∀x,∀u∈f x,u.oneCell'=true)(hb:base<=w.heap.size)(hn:n+m<=1048576)(hby:bytes<=65536):
  Hid (w.ownsRow base e k (.slice A n c) n (l.flatMap f))/\Hid (Sl w k B m cc (l'.flatMap f))/\Hid (∀u∈l'.flatMap f,u.oneCell'=true)/\Hid (n+m<=maxLen/\(n+m)*bytes<=140737488355328/\base<=w.heap.size):=by
 refine⟨zq ho.1,zq hs.2,zq fun u hu=>?_,zq ⟨by unfold maxLen;omega,?_,hb⟩⟩
 ·obtain⟨x,_,h⟩:=List.mem_flatMap.1 hu
  exact h1 x u h
 ·have:=Nat.mul_le_mul hn hby
  omega
theorem OwR.has {ad:Addr}(h:OwR f k e base w (some ad) n c l): ∃g cur,ad=⟨g,0,none⟩/\base<=g/\Has w g e cur/\n<=c/\c<=maxLen/\cur.size=c*k/\cur.toList.take (n*k)=l.flatMap f:=by
 rcases h.1.2 with⟨h',_⟩|⟨g,cap,cur,h',hb,hg,hnc,hcm,hcs,htake⟩
 ·cases h'
 ·injection h' with h1 h2 h3
  injection h1 with h1
  subst h1 h3;exact⟨g,cur,rfl,hb,hg,hnc,hcm,hcs,htake⟩
theorem OwR.set {ad:Addr}{l':List α}(h:OwR f k e base w (some ad) n c l){j:Nat}{u:Value}(hl:l'.length=n)(hs:l'.flatMap f=(l.flatMap f).set j u):OwR f k e base (w.setCell ⟨ad.block,j,none⟩ u) (some ad) n c l':=by
 obtain⟨g,cur,rfl,hb,hg,hnc,hcm,hcs,ht⟩:=h.has;refine⟨⟨?_,.inr ⟨g,c,cur.setIfInBounds j u,rfl,hb,hg.stored j u,hnc,hcm,by simpa using hcs,?_⟩⟩,hl⟩
 ·rw[hs,List.length_set]
  exact h.1.1
 ·rw[Array.toList_setIfInBounds,List.take_set,ht,hs]
theorem OwR.block {ad:Addr}(h:OwR f k e base w (some ad) n c l):ad=⟨ad.block,0,none⟩:=by
 obtain⟨g,cur,rfl,_⟩:=h.has
 rfl
theorem OwR.thaw {ad:Addr}(h:OwR f k e base w (some ad) n c l)(j:Nat):w.frozen? ⟨ad.block,j,none⟩=false:=by
 obtain⟨g,cur,rfl,_,hg,_⟩:=h.has;exact hg.thaw j
theorem OwR.some (h:OwR f k e base w A n c l)(hn:0<n): ∃g,A=some ⟨g,0,none⟩/\base<=g/\g<w.heap.size:=by
 rcases h.1.2 with⟨_,h2⟩|⟨g,cap,cur,h',hb,hg,_⟩
 ·omega
 ·injection h' with h1
  exact⟨g,h1,hb,(Array.getElem?_eq_some_iff.1 hg).1⟩
end
theorem qa3 {W:World}{g:Nat}{t:TypeId}{n s:Nat}{vs:List Value}(h:Has W g t vs.toArray)(hn:vs.length=n*s):Sl W s (some ⟨g,0,none⟩) n n vs:=by
 refine⟨hn,(fun e=>by cases e),fun ad ha j u hu=>?_⟩;injection ha with ha
 subst ha;rw[WideShapes.add_plain,h.cell,Nat.zero_add]
 simpa using hu
theorem SlO.at_cell {α:Type}{f:α->List Value}{k:Nat}{w:World}{b off n c:Nat}{l:List α}(h:SlO f k w (some ⟨b,off,none⟩) n c l)(hf: ∀x,(f x).length=k)(hk:0<k){j:Nat}{x:α}(hx:l[j]?=some x){i:Nat}{u:Value}(hu:(f x)[i]?=some u):w.cell? ⟨b,off+j*k+i,none⟩=some u:=by
 obtain⟨b',o',e,hc⟩:=h.at_ hf hk hx;injection e with e
 injection e with e1 e2 _
 subst e1 e2;exact hc i u hu
end
section
open Go.RowKit
open Go.Great
theorem qbG:(Tryz.prog.info? 3).map (fun i=>(i.zero,i.size,i.bytes))=some (some (.int .i64 0),1,8):=by kernel_rfl
theorem qct (x:Int): ∀u∈inC x,u.oneCell'=true:=by
 intro u hu;simp only[inC,List.mem_cons,List.not_mem_nil,or_false]at hu;subst hu
 rfl
theorem SlO.num {w:World}{A:Option Addr}{n c:Nat}{l:List Int}(h:SlO inC 1 w A n c l){j:Nat}{x:Int}(hx:l[j]?=some x):
  ∃b off,A=some ⟨b,off,none⟩/\w.cell? ⟨b,off+j,none⟩=some (.int .i64 x):=by
 obtain⟨b,off,e,hc⟩:=h.at_ (fun _=>rfl) (by decide) hx;refine⟨b,off,e,?_⟩;have h0:=hc 0 _ rfl
 simpa using h0
end
section
open Go.RowKit
open Go.Great
theorem qcc {α:Type}{l:List α}{i:Nat}{x:α}(hx:l[i]?=some x):l.drop i=x::l.drop (i+1):=by
 obtain⟨h1,e⟩:=List.getElem?_eq_some_iff.1 hx;rw[List.drop_eq_getElem_cons h1,e]
end
end Go.Proofs.YtahadmeilajdgaaGreatDoor
