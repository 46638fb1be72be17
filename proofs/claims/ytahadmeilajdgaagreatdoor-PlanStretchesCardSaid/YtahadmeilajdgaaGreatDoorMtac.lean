/-
  Our own text, joined.
-/
import Derived.Test.YtahadmeilajdgaaGreatDoorMtab
import Derived.BigQuiet
import Derived.IntWalk
import Derived.Test.YtahadmeilajdgaaGreatDoorMtaa
namespace Go.Proofs.YtahadmeilajdgaaGreatDoor
set_option maxRecDepth 100000
set_option maxHeartbeats 8000000
section
open Go.RowKit
open Go.Great
theorem sl_low13 {w:World}{s:Nat}{A:Option Addr}{n c:Nat}{vs:List Value}(h:Sl w s A n c vs){q:Nat}(hq:q<=n):A≠none->Sl w s A q c (vs.take (q*s)):=by
 intro hA;have hl:vs.length=n*s:=h.1;have hm:q*s<=n*s:=Nat.mul_le_mul_right s hq;refine⟨by rw[List.length_take];omega,fun e=>absurd e hA,fun ad ha j u hu=>?_⟩;have hj:j<q*s:=by
  have:=(List.getElem?_eq_some_iff.1 hu).1;rw[List.length_take]at this;omega
 rw[List.getElem?_take_of_lt hj]at hu;exact h.2.2 ad ha j u hu
theorem flat_take13 {α:Type}{f:α->List Value}{k:Nat}(hf: ∀x,(f x).length=k)(l:List α)(q:Nat):(l.take q).flatMap f=(l.flatMap f).take (q*k):=by
 induction l generalizing q with
 |nil=>simp
 |cons x r ih=>
  cases q with
  |zero=>simp
  |succ m=>
   have e:(m+1)*k=k+m*k:=by rw[Nat.succ_mul,Nat.add_comm]
   rw[List.take_succ_cons,List.flatMap_cons,List.flatMap_cons,ih,e]
   conv=>rhs;rw[<-hf x]
   rw[List.take_length_add_append];rw[hf x]
theorem SlO.take {α:Type}{f:α->List Value}{k:Nat}{w:World}{A:Option Addr}{n c:Nat}{l:List α}(h:SlO f k w A n c l)(hf: ∀x,(f x).length=k)(hA:A≠none){q:Nat}(hq:q<=n):SlO f k w A q c (l.take q):=
 ⟨by rw[List.length_take,h.1];omega,by rw[flat_take13 hf];exact sl_low13 h.2 hq hA⟩
theorem jointE_at {t:Tp3}{i:Nat}{j:Jt3}(h:t.joints[i]?=some j):qbl t i=if(endB t j.a &&endB t j.b &&!eqE j.a j.b)=true then(if joinB (t.joints.take i) j.a j.b=true then 5 else 0)else 1:=by
 unfold qbl;rw[h]
theorem balE_at {t:Tp3}{i:Nat}{b:Bl3}(h:t.bals[i]?=some b):balE t i=if(decide (0<=b.id) &&decide (b.id<=16777214) &&edgeB t b.edge &&decide (0<=b.at_) &&decide (b.at_<=t.edges.getD b.edge.toNat 0))=true then(if((t.bals.take i).any fun x=>x.id==b.id)=true then 5 else 0)else 1:=by
 unfold balE;rw[h]
theorem routeAt_at {t:Tp3}{i:Nat}{r:Rt3}(h:t.routes[i]?=some r):qa1 t i=if qbD t r=0 then(if((t.routes.take i).any fun x=>x.id==r.id)=true then 5 else 0)else qbD t r:=by
 unfold qa1;rw[h]
theorem qdo {t:Tp3}(h:longB t=true):qaE t=2:=by
 unfold qaE;rw[if_pos h]
theorem qf9 {t:Tp3}(h:longB t=false){m:Nat}{e:Int}(hm:t.edges[m]?=some e)(he:e<1\/1000000<e):qaE t=1:=by
 unfold qaE;rw[if_neg (by rw[h];decide),if_neg];intro hc;unfold qav at hc;rw[List.all_eq_true]at hc;have:=hc e (List.mem_of_getElem? hm);simp at this;omega
theorem edges_ok13 {t:Tp3}(h: ∀(m:Nat) (e:Int),t.edges[m]?=some e->1<=e/\e<=1000000):qav t=true:=by
 unfold qav;rw[List.all_eq_true];intro e he;obtain⟨m,hm,rfl⟩:=List.getElem_of_mem he;have:=h m _ (List.getElem?_eq_getElem hm);simp;omega
theorem check_rest {t:Tp3}(h:longB t=false)(he:qav t=true):qaE t=(if qaF (qbl t) t.joints.length=0 then
   (if qaF (balE t) t.bals.length=0 then qaF (qa1 t) t.routes.length else qaF (balE t) t.bals.length)
   else qaF (qbl t) t.joints.length):=by
 unfold qaE;rw[if_neg (by rw[h];decide),if_pos he]
theorem any_no13 {α:Type}{f:α->Bool}{l:List α}{k:Nat}(h: ∀(m:Nat) (y:α),m<k->l[m]?=some y->f y=false):(l.take k).any f=false:=by
 rw[List.any_eq_false];intro y hy;obtain⟨m,hm,rfl⟩:=List.getElem_of_mem hy;rw[List.length_take]at hm;rw[List.getElem_take,h m _ (by omega) (List.getElem?_eq_getElem (by omega))]
 decide
theorem any_yes13 {α:Type}{f:α->Bool}{l:List α}{k m:Nat}{y:α}(hm:m<k)(hy:l[m]?=some y)(hf:f y=true):(l.take k).any f=true:=by
 rw[List.any_eq_true];exact⟨y,List.mem_of_getElem? (i:=m) (by rw[List.getElem?_take_of_lt hm];exact hy),hf⟩
theorem rcheck_any (t:Tp3)(a:TpA)(w:World)(ht:TopR w t a)(hlt:qaH t=true)(hcj:t.joints.length<=a.cj):
  Calls Tryz.prog 49 #[.agg (tpC t a)] w fun e w'=>e= .returned (.int .i64 (qaE t))/\Below w.heap.size w w':=by
 obtain⟨cE,hcE⟩: ∃e,qaE t=e:=⟨_,rfl⟩
 have HCE:=zq hcE;rw[hcE];clear hcE;have HLT:=zq (qax hlt);have HCJ:=zq hcj;clear hlt hcj;obtain⟨wa,hwa,hbwa,HWA,HBWA,h0⟩:=bx1Z w 27 (tpC t a);have H0:=zH h0;have HT:=zq (fun W (hW:Below w.heap.size w W)=>ht.under hW);have HBA:=zq (fun W (hW:Below wa.heap.size wa W)=>hbwa.trans (hW.mono hbwa.size));have HT0:=zq (ht.under hbwa);have c0:wa.cell? ⟨w.heap.size,0,none⟩=some (.slice a.ae t.edges.length a.ce):=h0.cell 0;have c1:wa.cell? ⟨w.heap.size,1,none⟩=some (.slice a.aj t.joints.length a.cj):=h0.cell 1;have c2:wa.cell? ⟨w.heap.size,2,none⟩=some (.slice a.ab t.bals.length a.cb):=h0.cell 2;have c3:wa.cell? ⟨w.heap.size,3,none⟩=some (.slice a.ar t.routes.length a.cr):=h0.cell 3;clear hwa hbwa h0 ht;obtain⟨n0,hn0⟩: ∃n,t.edges.length=n:=⟨_,rfl⟩
 rw[hn0]at c0;have HN0:=zq hn0;obtain⟨n1,hn1⟩: ∃n,t.joints.length=n:=⟨_,rfl⟩
 rw[hn1]at c1;have HN1:=zq hn1;obtain⟨n2,hn2⟩: ∃n,t.bals.length=n:=⟨_,rfl⟩
 rw[hn2]at c2;have HN2:=zq hn2;obtain⟨n3,hn3⟩: ∃n,t.routes.length=n:=⟨_,rfl⟩
 rw[hn3]at c3;have HN3:=zq hn3;have HNN:=zq (show n0<=100/\n1<=100/\n2<=100/\n3<=100 from by have h_:=HLT.out;omega);have hnn:=HNN.out;clear hn0 hn1 hn2 hn3;obtain⟨hm0,hm1,hm2,hm3⟩:=hnn;by_cases k0:40<n0
 ·have x0:(40:Int)<n0:=by omega
  go_enter Tryz.func49,Tryz.ntmps49;go_upto_region 1 with fail;rw[HWA.out];clear HWA;go_wp2;go_ret
  have hE:cE=2:=by rw[<-HCE.out];exact qdo (by unfold longB;rw[HN0.out,HN1.out,HN2.out,HN3.out];simp;omega)
  subst hE;exact⟨by first|rfl|simp,HBWA.out⟩
 have x0: ¬(40:Int)<n0:=by omega
 by_cases k1:80<n1
 ·have x1:(80:Int)<n1:=by omega
  go_enter Tryz.func49,Tryz.ntmps49;go_upto_region 1 with fail;rw[HWA.out];clear HWA;go_wp2;go_ret
  have hE:cE=2:=by rw[<-HCE.out];exact qdo (by unfold longB;rw[HN0.out,HN1.out,HN2.out,HN3.out];simp;omega)
  subst hE;exact⟨by first|rfl|simp,HBWA.out⟩
 have x1: ¬(80:Int)<n1:=by omega
 by_cases k2:80<n2
 ·have x2:(80:Int)<n2:=by omega
  go_enter Tryz.func49,Tryz.ntmps49;go_upto_region 1 with fail;rw[HWA.out];clear HWA;go_wp2;go_ret
  have hE:cE=2:=by rw[<-HCE.out];exact qdo (by unfold longB;rw[HN0.out,HN1.out,HN2.out,HN3.out];simp;omega)
  subst hE;exact⟨by first|rfl|simp,HBWA.out⟩
 have x2: ¬(80:Int)<n2:=by omega
 by_cases k3:30<n3
 ·have x3:(30:Int)<n3:=by omega
  go_enter Tryz.func49,Tryz.ntmps49;go_upto_region 1 with fail;rw[HWA.out];clear HWA;go_wp2;go_ret
  have hE:cE=2:=by rw[<-HCE.out];exact qdo (by unfold longB;rw[HN0.out,HN1.out,HN2.out,HN3.out];simp;omega)
  subst hE;exact⟨by first|rfl|simp,HBWA.out⟩
 have x3: ¬(30:Int)<n3:=by omega
 have HLB:=zq (show longB t=false from by unfold longB;rw[HN0.out,HN1.out,HN2.out,HN3.out];simp;omega);go_enter Tryz.func49,Tryz.ntmps49;go_upto_region 1 with fail;rw[HWA.out];clear HWA;go_upto_region 3 with fail;clear x0 x1 x2 x3 k0 k1 k2 k3 c1 c2 c3;go_wp2;go_loopg [3] n0 (fun kk v wl=> ∃i:Nat,i<=n0/\n0-i<=kk/\v= .int .i64 i/\Hid (∀(m:Nat) (e:Int),m<i->t.edges[m]?=some e->1<=e/\e<=1000000)/\wl=wa)
 case atStart=>exact⟨0,by omega,by omega,rfl,zq (fun m e h=>absurd h (by omega)),rfl⟩
 obtain⟨i,hi,hik,rfl,HED,rfl⟩:=hrel;by_cases hlt:i<n0
 ·obtain⟨be,oe,hae,ce⟩:=HT0.out.e.edge (show i<t.edges.length by rw[HN0.out];exact hlt)
  obtain⟨q,hq⟩:=geZ (t.edges.getD i 0);have HQ:=zq (show t.edges[i]?=some q from by rw[<-hq,List.getD_eq_getElem?_getD,List.getElem?_eq_getElem (by rw[HN0.out];exact hlt)];rfl);rw[hq]at ce;rw[hae]at c0;have y0:(0:Int)<=i:=by omega
  have y1:(i:Int)<n0:=by omega
  clear hq hae;by_cases q0:q<1
  ·go_wp2
   go_ret
   have hE:cE=1:=by rw[<-HCE.out];exact qf9 HLB.out HQ.out (by omega)
   subst hE;exact⟨by first|rfl|simp,HBWA.out⟩
  by_cases q1:1000000<q
  ·go_wp2
   go_ret
   have hE:cE=1:=by rw[<-HCE.out];exact qf9 HLB.out HQ.out (by omega)
   subst hE;exact⟨by first|rfl|simp,HBWA.out⟩
  have HQ2:=zq (show 1<=q/\q<=1000000 by omega);go_wp2;go_roundg (gk-1)
  case measure=>omega
  case rel=>
   refine⟨i+1,by omega,by omega,by go_num,zq (fun m e hm he=>?_),rfl⟩;by_cases hmi:m=i
   ·rw[hmi,HQ.out]at he
    injection he with he
    rw[<-he];exact HQ2.out
   ·exact HED.out m e (by omega) he
 have x1: ¬(i:Int)<n0:=by omega
 have HOK:=zq (edges_ok13 (t:=t) fun m e he=>HED.out m e (by have h1_:m<t.edges.length:=(List.getElem?_eq_some_iff.1 he).1;have:=HN0.out;omega) he);have HR1:=zq ((HCE.out.symm.trans (check_rest HLB.out HOK.out)));rw[HN1.out,HN2.out,HN3.out]at HR1;clear HED HCE hi hik hlt;obtain⟨w0,hw0⟩: ∃w0,w0=wr:=⟨_,rfl⟩
 subst hw0;go_upto_region 8 with fail;clear x1 c0;go_wp2;go_loopg [4] n1 (fun kk v wl=> ∃i:Nat,i<=n1/\n1-i<=kk/\v= .int .i64 i/\Hid (qaF (qbl t) i=0)/\Below w0.heap.size w0 wl)
 case atStart=>exact⟨0,by omega,by omega,rfl,zq rfl,Below.refl _ _⟩
 obtain⟨i,hi,hik,rfl,HF,hwr⟩:=hrel;have HW:=zq hwr;have c1:wr.cell? ⟨w.heap.size,1,none⟩=some (.slice a.aj n1 a.cj):=by have h_:=(H0.out wr hwr).cell 1;rw[<-HN1.out];exact h_
 clear hwr;by_cases hlt:i<n1;rotate_left
 ·have x1: ¬(i:Int)<n1:=by omega
  obtain rfl:i=n1:=by omega
  have HR2:=zq HR1.out;rw[if_pos HF.out]at HR2;clear HR1 hi hik hlt;go_upto_region 18 with fail;clear x1 c1;go_wp2;go_loopg [8] n2 (fun kk v wl=> ∃i:Nat,i<=n2/\n2-i<=kk/\v= .int .i64 i/\Hid (qaF (balE t) i=0)/\Below w0.heap.size w0 wl)
  case atStart=>exact⟨0,by omega,by omega,rfl,zq rfl,HW.out⟩
  obtain⟨k,hk,hkk,rfl,HF2,hwr⟩:=hrel;have HW3:=zq hwr;have c2:wr.cell? ⟨w.heap.size,2,none⟩=some (.slice a.ab n2 a.cb):=by have h_:=(H0.out wr hwr).cell 2;rw[<-HN2.out];exact h_
  clear hwr;by_cases hlt:k<n2;rotate_left
  ·have x1: ¬(k:Int)<n2:=by omega
   obtain rfl:k=n2:=by omega
   have HR3:=zq HR2.out;rw[if_pos HF2.out]at HR3;clear HR2 hk hkk hlt;go_upto_region 30 with fail;clear x1 c2;go_wp2;go_loopg [12] n3 (fun kk v wl=> ∃m:Nat,m<=n3/\n3-m<=kk/\v= .int .i64 m/\Hid (qaF (qa1 t) m=0)/\Below w0.heap.size w0 wl)
   case atStart=>exact⟨0,by omega,by omega,rfl,zq rfl,HW3.out⟩
   obtain⟨m,hm,hmk,rfl,HF3,hwr⟩:=hrel;have HW4:=zq hwr;have c3:wr.cell? ⟨w.heap.size,3,none⟩=some (.slice a.ar n3 a.cr):=by have h_:=(H0.out wr hwr).cell 3;rw[<-HN3.out];exact h_
   clear hwr;by_cases hlt:m<n3;rotate_left
   ·have x1: ¬(m:Int)<n3:=by omega
    obtain rfl:m=n3:=by omega
    go_wp2;go_ret
    have hE:cE=0:=by rw[HR3.out];exact HF3.out
    subst hE;exact⟨by first|rfl|simp,HBA.out _ HW4.out⟩
   obtain⟨r,hr⟩: ∃r,t.routes[m]?=some r:=⟨_,List.getElem?_eq_getElem (by rw[HN3.out];exact hlt)⟩
   have HRX:=zq hr;have HRA:=zq (routeAt_at hr);obtain⟨bk,off,PA,pc,hab,hpa,d0,d1,d2,d3⟩:=(HT.out wr (HBA.out wr HW4.out)).r.at_ hr;have hpl:r.path.length<=100:=HLT.out.2.2.2.2 r (List.mem_of_getElem? hr);obtain⟨ri,rp,rg,rt⟩:=r;dsimp only at*;have HPA:=zq hpa;have HAR:=zq hab;obtain⟨rl,hrl⟩: ∃l,rp.length=l:=⟨_,rfl⟩
   have HRL:=zq hrl;rw[hrl]at d1 hpl;clear hrl hpa hr;have HCX:=zq (fun W (hW:Below wr.heap.size wr W)=>(show W.cell? ⟨bk,off+m*4,none⟩=some (.int .i64 ri)/\W.cell? ⟨bk,off+m*4+1,none⟩=some (.slice PA rl pc)/\W.cell? ⟨bk,off+m*4+2,none⟩=some (.int .i64 rg)/\W.cell? ⟨bk,off+m*4+3,none⟩=some (.int .i64 rt)from⟨(hW.cell (qah d0)).trans d0,(hW.cell (qah d1)).trans d1,(hW.cell (qah d2)).trans d2,(hW.cell (qah d3)).trans d3⟩));obtain⟨e,he⟩:=geZ (qbD t ⟨ri,rp,rg,rt⟩);have HEE:=zq he;rw[he]at HRA;rw[hab]at c3;have y0:(0:Int)<=m:=by omega
   have y1:(m:Int)<n3:=by omega
   clear he hab d0 d1 d2 d3;go_upto_region 33 with fail;clear c3;refine wp_region_held_drew (S:=(fun W_=>Has W_ (w.heap.size) 27 (tpC t a)/\Below wr.heap.size wr W_)) (by kernel_rfl) ?_ (fun hHeld=>?_)
   ·exact⟨(H0.out _ HW4.out).draw,qaf (Below.refl _ _)⟩
   refine tlZ 0 185 w.heap.size (tpC t a) (fun _ ⟨h_,_⟩=>h_) (h:=?_);simp only[lyZ];refine tkZ 1 186 (h:=?_);simp only[lyZ];refine tqZ 2 187 (fun w_ hSw=>(show w_.cell? ⟨w.heap.size,3,none⟩=some (.slice (some ⟨bk,off,none⟩) n3 a.cr:Value)from by have h_:=hSw.1.cell 3;rw[<-HAR.out,<-HN3.out];exact h_)) (h:=?_);simp only[lyZ];refine tkZ 3 188 (h:=?_);simp only[lyZ];refine tkZ 4 189 (h:=?_);simp only[lyZ];refine tqZ 5 190 (fun w_ hSw=>HCX.out w_ hSw.2) (h:=?_);simp only[lyZ];refine rdZ [6] ?_;refine acZ (some 191) (fun K hK=>?_) ?_
   ·go_simp
    obtain⟨s0,s1⟩:=hHeld;have hlo_:=HBA.out _ (bu HW4.out s1);have hpv_:PathV _ (.slice PA rl pc) rp:=⟨PA,pc,by rw[HRL.out],HPA.out.under s1⟩
    refine(rroute1_any t a ⟨ri,rp,rg,rt⟩ (.slice PA rl pc) _ (HT.out _ hlo_) hpv_ HOK.out (by rw[HN1.out];omega) (by rw[HN2.out];omega) (by simp only;rw[HRL.out];omega)).mono ?_;rw[HEE.out];rintro e_ vs ⟨rfl,hbs⟩;go_wp2_with fail;refine hK.out _ _ ?_ (fun hHeld=>?_)
    ·exact⟨s0.u hbs,bu s1 hbs⟩
    clear hK K s0 s1
    try simp only[lyZ]
    refine tkZ 7 13 (h:=?_);simp only[lyZ];refine dnZ ?_;have HB5:=zq (HW4.out.trans (hHeld.2.mono HW4.out.size));have HB5W:=zq hHeld.2;clear hHeld;by_cases hz:e=0;rotate_left
    ·have e1:(e==0)=false:=by simp[hz]
     have e2:(e !=0)=true:=by simp[hz]
     have hJ:qa1 t m=e:=by rw[HRA.out,if_neg hz]
     go_wp2;go_ret
     have hE:cE=e:=by rw[HR3.out,qaQ hlt HF3.out (by rw[hJ];exact hz)];exact hJ
     subst hE;exact⟨by first|rfl|simp,HBA.out _ HB5.out⟩
    subst hz;have HRA2:=zq (show qa1 t m=if((t.routes.take m).any fun x=>x.id==ri)=true then 5 else 0 from by rw[HRA.out,if_pos rfl]);clear HRA;have c3:World.cell? vs ⟨w.heap.size,3,none⟩=some (.slice (some ⟨bk,off,none⟩) n3 a.cr):=(by have h_:=(H0.out vs HB5.out).cell 3;rw[<-HAR.out,<-HN3.out];exact h_)
    obtain⟨d0,-,-,-⟩:=HCX.out vs HB5W.out;have HRS:=zq (HT.out _ (HBA.out _ HB5.out)).r;obtain⟨k1,hk1⟩: ∃k1,k1=gk:=⟨_,rfl⟩
    subst hk1;go_upto_region 36 with fail;go_wp2;go_loopg [14] m (fun kk v wl=> ∃l q:Nat,l<=m/\m-l<=kk/\v= .int .i64 l/\Hid (∀(p:Nat) (y:Rt3),p<l->t.routes[p]?=some y->(y.id==ri)=false)/\wl=vs.drewN q)
    case atStart=>exact⟨0,0,by omega,by omega,rfl,zq (fun p y h=>absurd h (by omega)),rfl⟩
    obtain⟨l,q,hl,hlk,rfl,HNO,rfl⟩:=hrel;by_cases hlm:l<m;rotate_left
    ·have x1: ¬(l:Int)<m:=by omega
     obtain rfl:l=m:=by omega
     have hJ:qa1 t l=0:=by rw[HRA2.out,if_neg (by rw[any_no13 HNO.out];decide)]
     go_wp2;go_roundg (k1-1)
     case measure=>omega
     case rel=>
      refine⟨l+1,by omega,by omega,by go_num,zq ?_,qac HB5.out q⟩;show(if qaF (qa1 t) l=0 then qa1 t l else qaF (qa1 t) l)=0
      rw[if_pos HF3.out,hJ]
    obtain⟨y,hy⟩: ∃y,t.routes[l]?=some y:=⟨_,List.getElem?_eq_getElem (by rw[HN3.out];omega)⟩
    have HY:=zq hy;obtain⟨b2,o2,P2,p2,hb2,-,g0,-,-,-⟩:=HRS.out.at_ hy;rw[HAR.out]at hb2;injection hb2 with hb2
    injection hb2 with hb3 hb4 _
    subst hb3 hb4;obtain⟨yi,hyi⟩: ∃e,y.id=e:=⟨_,rfl⟩
    have HYI:=zq hyi;rw[hyi]at g0;clear hy hyi;have v0:(0:Int)<=l:=by omega
    have v1:(l:Int)<n3:=by omega
    by_cases hee:yi=ri
    ·subst hee
     go_upto_region 39 with fail;go_quiet (fail);go_wp2;go_ret
     have hJ:qa1 t m=5:=by rw[HRA2.out,if_pos (any_yes13 hlm HY.out (by rw[HYI.out];simp))]
     have hE:cE=5:=by rw[HR3.out,qaQ hlt HF3.out (by rw[hJ];decide)];exact hJ
     subst hE;exact⟨by first|rfl|simp,HBA.out _ (by first|exact qac HB5.out _|(rw[World.drewN_drewN];exact qac HB5.out _))⟩
    ·have e1:(yi==ri)=false:=by simp[hee]
     go_upto_region 39 with fail;go_quiet (fail);go_wp2;go_roundg (gk-1)
     case measure=>omega
     case rel=>
      refine⟨l+1,_,by omega,by omega,by go_num,zq (fun p z hp hz=>?_),by first|rfl|rw[World.drewN_drewN]⟩;by_cases hpl:p=l
      ·rw[hpl,HY.out]at hz
       injection hz with hz
       rw[<-hz,HYI.out];exact e1
      ·exact HNO.out p z (by omega) hz
   exact AllReadyH.nil
  obtain⟨b,hb⟩: ∃b,t.bals[k]?=some b:=⟨_,List.getElem?_eq_getElem (by rw[HN2.out];exact hlt)⟩
  have HBX:=zq hb;have HBE:=zq (balE_at hb);obtain⟨bk,off,hab,d0,d1,d2⟩:=(HT.out wr (HBA.out wr HW3.out)).b.bal hb;rw[hab]at c2;obtain⟨bi,be,ba⟩:=b;dsimp only at*;have HAB:=zq hab;have y0:(0:Int)<=k:=by omega
  have y1:(k:Int)<n2:=by omega
  clear hb hab;have hm5:Has (wr.alloc (.cells #[.int .i64 0,.int .i64 0,.int .i64 0] 151)) wr.heap.size 151 #[.int .i64 0,.int .i64 0,.int .i64 0]:=Has.made _ _ _;have HM5:=zq hm5;obtain⟨w6,hw6⟩:=geZ ((wr.alloc (.cells #[.int .i64 0,.int .i64 0,.int .i64 0] 151)).setRow wr.heap.size #[.int .i64 bi,.int .i64 be,.int .i64 ba]);have hb6:Below wr.heap.size wr w6:=by rw[<-hw6];exact qab (g:=wr.heap.size) (bA) (Nat.le_refl _) _
  have HX6:=zq (show Has w6 wr.heap.size 151 #[.int .i64 bi,.int .i64 be,.int .i64 ba]from by rw[<-hw6];exact qaa HM5.out _);have HB6:=tB HW3 hb6;have HWW:=zq hw6;clear hw6 hm5 hb6;go_upto_region 22 with(with_reducible refine stZ #[.int .i64 bi,.int .i64 be,.int .i64 ba] HM5.out ?_)
  rw[HWW.out];clear HWW HM5 d0 d1 d2 c2;have b1:w6.cell? ⟨wr.heap.size,1,none⟩=some (.int .i64 be):=HX6.out.cell 1;obtain⟨bq,hbq⟩: ∃b,edgeB t be=b:=⟨_,rfl⟩
  have HBQ:=zq hbq;rw[hbq]at HBE;clear hbq;obtain⟨gb,hgb⟩: ∃g,wr.heap.size=g:=⟨_,rfl⟩
  rw[hgb]at b1 HX6;simp only[hgb];clear hgb;go_wp2_with (with_reducible refine ldZ 132 (H0.out w6 HB6.out) ?_);refine(qcE t a be w6).mono ?_;rw[HBQ.out];rintro e w7 ⟨rfl,hb7⟩;have HB7:=tB HB6 hb7;have HX7:=uH HX6 hb7;clear hb7 HX6 b1;have e0:w7.cell? ⟨gb,0,none⟩=some (.int .i64 bi):=HX7.out.cell 0;have e1:w7.cell? ⟨gb,1,none⟩=some (.int .i64 be):=HX7.out.cell 1;have e2:w7.cell? ⟨gb,2,none⟩=some (.int .i64 ba):=HX7.out.cell 2;by_cases z0:bi<0
  ·skip
   go_upto_region 23 with fail;go_quiet (fail);go_wp2;go_ret
   have hJ:balE t k=1:=by rw[HBE.out,if_neg (by simp;omega)]
   have hE:cE=1:=by rw[HR2.out,if_neg (by rw[qaQ hlt HF2.out (by rw[hJ];decide),hJ];decide),qaQ hlt HF2.out (by rw[hJ];decide)];exact hJ
   subst hE;exact⟨by first|rfl|simp,HBA.out _ (by first|exact qac HB7.out _|(rw[World.drewN_drewN];exact qac HB7.out _))⟩
  have g0:decide (bi<0)=false:=decide_eq_false z0;by_cases z1:16777214<bi
  ·skip
   go_upto_region 23 with fail;go_quiet (fail);go_wp2;go_ret
   have hJ:balE t k=1:=by rw[HBE.out,if_neg (by simp;omega)]
   have hE:cE=1:=by rw[HR2.out,if_neg (by rw[qaQ hlt HF2.out (by rw[hJ];decide),hJ];decide),qaQ hlt HF2.out (by rw[hJ];decide)];exact hJ
   subst hE;exact⟨by first|rfl|simp,HBA.out _ (by first|exact qac HB7.out _|(rw[World.drewN_drewN];exact qac HB7.out _))⟩
  have g1:decide (16777214<bi)=false:=decide_eq_false z1
  cases bq with
  |false=>
   go_upto_region 23 with fail;go_quiet (fail);go_wp2;go_ret
   have hJ:balE t k=1:=by rw[HBE.out,if_neg (by simp)]
   have hE:cE=1:=by rw[HR2.out,if_neg (by rw[qaQ hlt HF2.out (by rw[hJ];decide),hJ];decide),qaQ hlt HF2.out (by rw[hJ];decide)];exact hJ
   subst hE;exact⟨by first|rfl|simp,HBA.out _ (by first|exact qac HB7.out _|(rw[World.drewN_drewN];exact qac HB7.out _))⟩
  |true=>
   by_cases z2:ba<0
   ·skip
    go_upto_region 23 with fail;go_quiet (fail);go_wp2;go_ret
    have hJ:balE t k=1:=by rw[HBE.out,if_neg (by simp;omega)]
    have hE:cE=1:=by rw[HR2.out,if_neg (by rw[qaQ hlt HF2.out (by rw[hJ];decide),hJ];decide),qaQ hlt HF2.out (by rw[hJ];decide)];exact hJ
    subst hE;exact⟨by first|rfl|simp,HBA.out _ (by first|exact qac HB7.out _|(rw[World.drewN_drewN];exact qac HB7.out _))⟩
   have g2:decide (ba<0)=false:=decide_eq_false z2;have hed:0<=be/\be<t.edges.length:=by have h_:=HBQ.out;unfold edgeB at h_;simpa using h_
   obtain⟨en,hen⟩: ∃e:Nat,be=e:=⟨be.toNat,by omega⟩
   have hel:en<t.edges.length:=by omega
   obtain⟨bke,oe,hae,ce⟩:=(HT.out _ (HBA.out _ HB7.out)).e.edge hel;have c0:w7.cell? ⟨w.heap.size,0,none⟩=some (.slice (some ⟨bke,oe,none⟩) n0 a.ce):=(by have h_:=(H0.out w7 HB7.out).cell 0;rw[<-hae,<-HN0.out];exact h_)
   obtain⟨q,hq⟩:=geZ (t.edges.getD en 0);rw[hq]at ce;have hbq2:t.edges.getD be.toNat 0=q:=by rw[hen];exact hq
   rw[hbq2]at HBE;subst hen;have v0:(0:Int)<=en:=by omega
   have v1:(en:Int)<n0:=by have:=HN0.out;omega
   clear hed hel hae hq hbq2;by_cases z3:q<ba
   ·skip
    go_upto_region 23 with fail;go_quiet (fail);go_wp2;go_ret
    have hJ:balE t k=1:=by rw[HBE.out,if_neg (by simp;omega)]
    have hE:cE=1:=by rw[HR2.out,if_neg (by rw[qaQ hlt HF2.out (by rw[hJ];decide),hJ];decide),qaQ hlt HF2.out (by rw[hJ];decide)];exact hJ
    subst hE;exact⟨by first|rfl|simp,HBA.out _ (by first|exact qac HB7.out _|(rw[World.drewN_drewN];exact qac HB7.out _))⟩
   have g3:decide (q<ba)=false:=decide_eq_false z3;have HZ:=zq (show 0<=bi/\bi<=16777214/\0<=ba/\ba<=q by omega);go_upto_region 23 with fail;go_quiet (fail);clear z0 z1 z2 z3 v0 v1 c0 ce e1 e2 g0 g1 g2 g3;have HBE2:=zq (show balE t k=if((t.bals.take k).any fun x=>x.id==bi)=true then 5 else 0 from by rw[HBE.out,if_pos (by have h_:=HZ.out;simp;omega)]);clear HBE HZ;have c2:w7.cell? ⟨w.heap.size,2,none⟩=some (.slice (some ⟨bk,off,none⟩) n2 a.cb):=(by have h_:=(H0.out w7 HB7.out).cell 2;rw[<-HAB.out,<-HN2.out];exact h_)
   have HBS:=zq (HT.out _ (HBA.out _ HB7.out)).b;obtain⟨k1,hk1⟩: ∃k1,k1=gk:=⟨_,rfl⟩
   subst hk1;go_upto_region 25 with fail;go_wp2;go_loopg [11] k (fun kk v wl=> ∃m q:Nat,m<=k/\k-m<=kk/\v= .int .i64 m/\Hid (∀(l:Nat) (y:Bl3),l<m->t.bals[l]?=some y->(y.id==bi)=false)/\wl=w7.drewN q)
   case atStart=>exact⟨0,_,by omega,by omega,rfl,zq (fun l y h=>absurd h (by omega)),rfl⟩
   obtain⟨m,q,hm,hmk,rfl,HNO,rfl⟩:=hrel;by_cases hml:m<k;rotate_left
   ·have x1: ¬(m:Int)<k:=by omega
    obtain rfl:m=k:=by omega
    have hJ:balE t m=0:=by rw[HBE2.out,if_neg (by rw[any_no13 HNO.out];decide)]
    go_wp2;go_roundg (k1-1)
    case measure=>omega
    case rel=>
     refine⟨m+1,by omega,by omega,by go_num,zq ?_,qac HB7.out q⟩;show(if qaF (balE t) m=0 then balE t m else qaF (balE t) m)=0
     rw[if_pos HF2.out,hJ]
   obtain⟨y,hy⟩: ∃y,t.bals[m]?=some y:=⟨_,List.getElem?_eq_getElem (by rw[HN2.out];omega)⟩
   have HY:=zq hy;obtain⟨b2,o2,hb2,g0,-,-⟩:=HBS.out.bal hy;rw[HAB.out]at hb2;injection hb2 with hb2
   injection hb2 with hb3 hb4 _
   subst hb3 hb4;obtain⟨yi,hyi⟩: ∃e,y.id=e:=⟨_,rfl⟩
   have HYI:=zq hyi;rw[hyi]at g0;clear hy hyi;have v0:(0:Int)<=m:=by omega
   have v1:(m:Int)<n2:=by omega
   by_cases hee:yi=bi
   ·subst hee
    go_upto_region 28 with fail;go_quiet (fail);go_wp2;go_ret
    have hJ:balE t k=5:=by rw[HBE2.out,if_pos (any_yes13 hml HY.out (by rw[HYI.out];simp))]
    have hE:cE=5:=by rw[HR2.out,if_neg (by rw[qaQ hlt HF2.out (by rw[hJ];decide),hJ];decide),qaQ hlt HF2.out (by rw[hJ];decide)];exact hJ
    subst hE;exact⟨by first|rfl|simp,HBA.out _ (by first|exact qac HB7.out _|(rw[World.drewN_drewN];exact qac HB7.out _))⟩
   ·have e1:(yi==bi)=false:=by simp[hee]
    go_upto_region 28 with fail;go_quiet (fail);go_wp2;go_roundg (gk-1)
    case measure=>omega
    case rel=>
     refine⟨m+1,_,by omega,by omega,by go_num,zq (fun l z hl hz=>?_),by first|rfl|rw[World.drewN_drewN]⟩;by_cases hlm:l=m
     ·rw[hlm,HY.out]at hz
      injection hz with hz
      rw[<-hz,HYI.out];exact e1
     ·exact HNO.out l z (by omega) hz
 obtain⟨j,hj⟩: ∃j,t.joints[i]?=some j:=⟨_,List.getElem?_eq_getElem (by rw[HN1.out];exact hlt)⟩
 have HJX:=zq hj;have HJA:=zq (jointE_at hj);obtain⟨bk,off,haj,-,-,-,-⟩:=HT0.out.j.joint hj;have HCX:=zq (fun W (hW:Below w.heap.size w W)=>(show W.cell? ⟨bk,off+i*4,none⟩=some (.int .i64 j.a.1)/\W.cell? ⟨bk,off+i*4+1,none⟩=some (.int .i64 j.a.2)/\W.cell? ⟨bk,off+i*4+2,none⟩=some (.int .i64 j.b.1)/\W.cell? ⟨bk,off+i*4+3,none⟩=some (.int .i64 j.b.2)from by obtain⟨b_,o_,e_,h_⟩:=(HT.out W hW).j.joint hj;rw[haj]at e_;injection e_ with e_;injection e_ with e1_ e2_ _;subst e1_ e2_;exact h_));have HAJ:=zq haj;rw[haj]at c1;have q1:=qdp j.a j.b;obtain⟨ja,jb⟩:=j;dsimp only at*;obtain⟨ea,hea⟩: ∃b,endB t ja=b:=⟨_,rfl⟩
 obtain⟨eb,heb⟩: ∃b,endB t jb=b:=⟨_,rfl⟩
 obtain⟨eq,heq⟩: ∃b,eqE ja jb=b:=⟨_,rfl⟩
 obtain⟨tw,htw⟩: ∃b,joinB (t.joints.take i) ja jb=b:=⟨_,rfl⟩
 rw[heq]at q1;rw[hea,heb,heq,htw]at HJA;have HEA:=zq hea;have HEB:=zq heb;have HTW:=zq htw;have y0:(0:Int)<=i:=by omega
 have y1:(i:Int)<n1:=by omega
 unfold endA at q1;clear hj haj hea heb heq htw;go_upto_region 11 with fail;clear c1;refine wp_region_held_drew (S:=(fun W_=>Has W_ (w.heap.size) 27 (tpC t a)/\Below wr.heap.size wr W_)) (by kernel_rfl) ?_ (fun hHeld=>?_)
 ·exact⟨(H0.out _ HW.out).draw,qaf (Below.refl _ _)⟩
 refine tlZ 0 65 w.heap.size (tpC t a) (fun _ ⟨h_,_⟩=>h_) (h:=?_);simp only[lyZ];refine tkZ 1 66 (h:=?_);simp only[lyZ];refine tqZ 2 67 (fun w_ hSw=>(show w_.cell? ⟨w.heap.size,1,none⟩=some (.slice (some ⟨bk,off,none⟩) n1 a.cj:Value)from by have h_:=hSw.1.cell 1;rw[<-HAJ.out,<-HN1.out];exact h_)) (h:=?_);simp only[lyZ];refine tkZ 3 68 (h:=?_);simp only[lyZ];refine tkZ 4 69 (h:=?_);simp only[lyZ];refine tkZ 5 70 (h:=?_);simp only[lyZ];refine tqZ 6 71 (fun w_ hSw=>HCX.out w_ (HBA.out w_ (HW.out.trans (hSw.2.mono HW.out.size)))) (h:=?_);simp only[lyZ];refine rdZ [7] ?_;refine acZ (some 72) (fun K hK=>?_) ?_
 ·go_simp
  obtain⟨s0,s1⟩:=hHeld;refine(rend_any t a ja _).mono ?_;rw[HEA.out];rintro e_ vs ⟨rfl,hbs⟩;go_wp2_with fail;refine hK.out _ _ ?_ (fun hHeld=>?_)
  ·exact⟨s0.u hbs,bu s1 hbs⟩
  clear hK K s0 s1
  try simp only[lyZ]
  refine tkZ 8 5 (h:=?_);simp only[lyZ];refine dnZ ?_;have HA1:=zq hHeld;clear hHeld;go_upto_region 12 with fail;refine wp_region_held_drew (S:=(fun W_=>Has W_ (w.heap.size) 27 (tpC t a)/\Below wr.heap.size wr W_)) (by kernel_rfl) ?_ (fun hHeld=>?_)
  ·exact⟨HA1.out.1.draw,qaf HA1.out.2⟩
  refine tlZ 0 73 w.heap.size (tpC t a) (fun _ ⟨h_,_⟩=>h_) (h:=?_);simp only[lyZ];refine tkZ 1 74 (h:=?_);simp only[lyZ];refine tqZ 2 75 (fun w_ hSw=>(show w_.cell? ⟨w.heap.size,1,none⟩=some (.slice (some ⟨bk,off,none⟩) n1 a.cj:Value)from by have h_:=hSw.1.cell 1;rw[<-HAJ.out,<-HN1.out];exact h_)) (h:=?_);simp only[lyZ];refine tkZ 3 76 (h:=?_);simp only[lyZ];refine tkZ 4 77 (h:=?_);simp only[lyZ];refine tkZ 5 78 (h:=?_);simp only[lyZ];refine tqZ 6 79 (fun w_ hSw=>HCX.out w_ (HBA.out w_ (HW.out.trans (hSw.2.mono HW.out.size)))) (h:=?_);simp only[lyZ];refine rdZ [7] ?_;refine acZ (some 80) (fun K hK=>?_) ?_
  ·go_simp
   obtain⟨s0,s1⟩:=hHeld;refine(rend_any t a jb _).mono ?_;rw[HEB.out];rintro e_ vs ⟨rfl,hbs⟩;go_wp2_with fail;refine hK.out _ _ ?_ (fun hHeld=>?_)
   ·exact⟨s0.u hbs,bu s1 hbs⟩
   clear hK K s0 s1
   try simp only[lyZ]
   refine tkZ 8 6 (h:=?_);simp only[lyZ];refine dnZ ?_;have HB1:=zq hHeld;clear hHeld HA1;have HWV:=zq (HW.out.trans (HB1.out.2.mono HW.out.size));obtain⟨d0,d1,d2,d3⟩:=HCX.out _ (HBA.out _ HWV.out);have c1:World.cell? vs ⟨w.heap.size,1,none⟩=some (.slice (some ⟨bk,off,none⟩) n1 a.cj):=(by have h_:=HB1.out.1.cell 1;rw[<-HAJ.out,<-HN1.out];exact h_)
   cases ea with
   |false=>
    go_upto_region 13 with fail;go_quiet (fail);go_wp2;go_ret
    have hJ:qbl t i=1:=by rw[HJA.out];simp
    have hE:cE=1:=by rw[HR1.out,if_neg (by rw[qaQ hlt HF.out (by rw[hJ];decide),hJ];decide),qaQ hlt HF.out (by rw[hJ];decide)];exact hJ
    subst hE;exact⟨by first|rfl|simp,HBA.out _ (by first|exact qac HWV.out _|(rw[World.drewN_drewN];exact qac HWV.out _))⟩
   |true=>
    cases eb with
    |false=>
     go_upto_region 13 with fail;go_quiet (fail);go_wp2;go_ret
     have hJ:qbl t i=1:=by rw[HJA.out];simp
     have hE:cE=1:=by rw[HR1.out,if_neg (by rw[qaQ hlt HF.out (by rw[hJ];decide),hJ];decide),qaQ hlt HF.out (by rw[hJ];decide)];exact hJ
     subst hE;exact⟨by first|rfl|simp,HBA.out _ (by first|exact qac HWV.out _|(rw[World.drewN_drewN];exact qac HWV.out _))⟩
    |true=>
     cases eq with
     |true=>
      go_upto_region 13 with fail;go_quiet (fail);go_wp2;go_ret
      have hJ:qbl t i=1:=by rw[HJA.out];simp
      have hE:cE=1:=by rw[HR1.out,if_neg (by rw[qaQ hlt HF.out (by rw[hJ];decide),hJ];decide),qaQ hlt HF.out (by rw[hJ];decide)];exact hJ
      subst hE;exact⟨by first|rfl|simp,HBA.out _ (by first|exact qac HWV.out _|(rw[World.drewN_drewN];exact qac HWV.out _))⟩
     |false=>
      go_upto_region 13 with fail;go_quiet (fail);go_upto_region 15 with fail;clear c1 d0 d1 d2 d3 q1;have HB2:=zq (show Has (vs.drewN nq) (w.heap.size) 27 (tpC t a)/\Below wr.heap.size wr (vs.drewN nq)from⟨HB1.out.1,qac HB1.out.2 nq⟩);clear HB1 HWV;have hic:(i:Int)<=a.cj:=by have h1_:=HCJ.out;have h2_:=HN1.out;omega
      refine wp_region_held_drew (S:=(fun W_=>Has W_ (w.heap.size) 27 (tpC t a)/\Below wr.heap.size wr W_)) (by kernel_rfl) ?_ (fun hHeld=>?_)
      ·exact⟨HB2.out.1.draw,qaf HB2.out.2⟩
      refine tkZ 0 102 (h:=?_);simp only[lyZ];refine tqZ 1 103 (fun w_ hSw=>(show w_.cell? ⟨w.heap.size,1,none⟩=some (.slice (some ⟨bk,off,none⟩) n1 a.cj:Value)from by have h_:=hSw.1.cell 1;rw[<-HAJ.out,<-HN1.out];exact h_)) (h:=?_);simp only[lyZ];refine tkZ 2 104 (h:=?_);simp only[lyZ];refine tkZ 3 105 (h:=?_);simp only[lyZ];refine tkZ 4 106 (h:=?_);simp only[lyZ];refine tqZ 5 107 (fun w_ hSw=>(show w_.cell? ⟨w.heap.size,1,none⟩=some (.slice (some ⟨bk,off,none⟩) n1 a.cj:Value)from by have h_:=hSw.1.cell 1;rw[<-HAJ.out,<-HN1.out];exact h_)) (h:=?_);simp only[lyZ];refine tkZ 6 108 (h:=?_);simp only[lyZ];refine tkZ 7 109 (h:=?_);simp only[lyZ];refine tkZ 8 110 (h:=?_);simp only[lyZ];refine tqZ 9 111 (fun w_ hSw=>HCX.out w_ (HBA.out w_ (HW.out.trans (hSw.2.mono HW.out.size)))) (h:=?_);simp only[lyZ];refine tkZ 10 112 (h:=?_);simp only[lyZ];refine tqZ 11 113 (fun w_ hSw=>(show w_.cell? ⟨w.heap.size,1,none⟩=some (.slice (some ⟨bk,off,none⟩) n1 a.cj:Value)from by have h_:=hSw.1.cell 1;rw[<-HAJ.out,<-HN1.out];exact h_)) (h:=?_);simp only[lyZ];refine tkZ 12 114 (h:=?_);simp only[lyZ];refine tkZ 13 115 (h:=?_);simp only[lyZ];refine tkZ 14 116 (h:=?_);simp only[lyZ];refine tqZ 15 117 (fun w_ hSw=>HCX.out w_ (HBA.out w_ (HW.out.trans (hSw.2.mono HW.out.size)))) (h:=?_);simp only[lyZ];refine rdZ [16] ?_;refine acZ (some 118) (fun K hK=>?_) ?_
      ·go_simp
       obtain⟨s0,s1⟩:=hHeld;have hlo_:=HBA.out _ (bu HW.out s1);have hj_:=(HT.out _ hlo_).j;rw[HAJ.out]at hj_;refine(qfH _ i a.cj _ ja jb _ (hj_.take (fun _=>rfl) (by simp) (by have:=HN1.out;omega)) (by omega)).mono ?_;rw[HTW.out];rintro e_ vs ⟨rfl,hbs⟩;go_wp2_with fail;refine hK.out _ _ ?_ (fun hHeld=>?_)
       ·exact⟨s0.u hbs,bu s1 hbs⟩
       clear hK K s0 s1
       try simp only[lyZ]
       refine tkZ 17 7 (h:=?_);simp only[lyZ];refine dnZ ?_;have HB3:=zq (HW.out.trans (hHeld.2.mono HW.out.size));clear hHeld hic
       cases tw with
       |true=>
        go_wp2;go_ret
        have hJ:qbl t i=5:=by rw[HJA.out];simp
        have hE:cE=5:=by rw[HR1.out,if_neg (by rw[qaQ hlt HF.out (by rw[hJ];decide),hJ];decide),qaQ hlt HF.out (by rw[hJ];decide)];exact hJ
        subst hE;exact⟨by first|rfl|simp,HBA.out _ HB3.out⟩
       |false=>
        go_wp2;go_roundg (gk-1)
        case measure=>omega
        case rel=>
         refine⟨i+1,by omega,by omega,by go_num,zq ?_,HB3.out⟩;show(if qaF (qbl t) i=0 then qbl t i else qaF (qbl t) i)=0
         rw[if_pos HF.out,HJA.out];simp
      exact AllReadyH.nil
  exact AllReadyH.nil
 exact AllReadyH.nil
end
section
open Go.RowKit
open Go.Great
def psA (p:Ps3):Array Value:=#[.int .i64 p.edge,.int .i64 p.at_,.bool p.rev]
end
section
open Go.RowKit
open Go.Great
theorem rright_any (t:Tp3)(a:TpA)(p:Ps3)(w:World)(ht:TopR w t a)(hlt:qaH t=true)(hcj:t.joints.length<=a.cj):
  Calls Tryz.prog 150 #[.agg (tpC t a),.agg (psA p)] w fun e w'=>e= .returned (.bool (qa4 t p))/\Below w.heap.size w w':=by
 obtain⟨cE,hcE⟩: ∃e,qaE t=e:=⟨_,rfl⟩
 have HR:Hid (qa4 t p=(decide (cE=0) &&(edgeB t p.edge &&(decide (0<=p.at_) &&decide (p.at_<=qat t p.edge))))):=zq (by unfold qa4 onB;rw[hcE]);have HLT:=zq hlt;have HCJ:=zq hcj;have HCE:=zq hcE;clear hlt hcj hcE;obtain⟨wa,hwa,hbwa,HWA,HBWA,h0,h1⟩:=bx2Z w 27 (tpC t a) 51 (psA p);have HT:=zq (ht.under hbwa);have H0:=zq h0;have HC:=zq (fun W (hW:Below wa.heap.size wa W)=>And.intro (h0.u hW) (h1.u hW));clear hwa hbwa h0 h1;go_enter Tryz.func150,Tryz.ntmps150;go_upto_region 1 with fail;rw[HWA.out];clear HWA;go_wp2_with (with_reducible refine ldZ 6 H0.out ?_);refine(rcheck_any t a wa HT.out HLT.out HCJ.out).mono ?_;rw[HCE.out];rintro e w1 ⟨rfl,hb1⟩;have HB1:=tB HBWA hb1;have HE1:=zq (ht.e.under HB1.out);obtain⟨k0,k1⟩:=HC.out w1 hb1;clear hb1 HC H0 HT HCE HBWA ht;obtain⟨e,at_,rv⟩:=p;dsimp only at*;have c0:w1.cell? ⟨w.heap.size,0,none⟩=some (.slice a.ae t.edges.length a.ce):=k0.cell 0;have d0:w1.cell? ⟨w.heap.size+1,0,none⟩=some (.int .i64 e):=k1.cell 0;have d1:w1.cell? ⟨w.heap.size+1,1,none⟩=some (.int .i64 at_):=k1.cell 1;clear k0 k1;obtain⟨n,hn⟩:=geZ (t.edges.length);have HN:=zq hn;rw[hn]at c0;clear hn;by_cases z0:cE=0;rotate_left
 ·have g0:decide (cE=0)=false:=decide_eq_false z0
  have g1:(cE==0)=false:=by simp[z0]
  go_upto_region 2 with fail;go_quiet (fail);go_wp2;go_ret
  have hE:qa4 t ⟨e,at_,rv⟩=false:=by rw[HR.out];rw[g0];rfl
  rw[hE];exact⟨rfl,by first|exact qac HB1.out _|(rw[World.drewN_drewN];exact qac HB1.out _)⟩
 subst z0;by_cases z1:0<=e;rotate_left
 ·have g0:decide (0<=e)=false:=decide_eq_false z1
  go_upto_region 2 with fail;go_quiet (fail);go_wp2;go_ret
  have hE:qa4 t ⟨e,at_,rv⟩=false:=by rw[HR.out];unfold edgeB;rw[g0];rfl
  rw[hE];exact⟨rfl,by first|exact qac HB1.out _|(rw[World.drewN_drewN];exact qac HB1.out _)⟩
 by_cases z2:e<n;rotate_left
 ·have g0:decide (e<(n:Int))=false:=decide_eq_false z2
  go_upto_region 2 with fail;go_quiet (fail);go_wp2;go_ret
  have hE:qa4 t ⟨e,at_,rv⟩=false:=by rw[HR.out];unfold edgeB;rw[HN.out,g0];simp
  rw[hE];exact⟨rfl,by first|exact qac HB1.out _|(rw[World.drewN_drewN];exact qac HB1.out _)⟩
 have HEB:=zq (show edgeB t e=true from by unfold edgeB;rw[HN.out];simp;omega);by_cases z3:0<=at_;rotate_left
 ·have g0:decide (0<=at_)=false:=decide_eq_false z3
  go_upto_region 2 with fail;go_quiet (fail);go_wp2;go_ret
  have hE:qa4 t ⟨e,at_,rv⟩=false:=by rw[HR.out];rw[g0,HEB.out];rfl
  rw[hE];exact⟨rfl,by first|exact qac HB1.out _|(rw[World.drewN_drewN];exact qac HB1.out _)⟩
 obtain⟨k,rfl⟩: ∃k:Nat,e=k:=⟨e.toNat,by omega⟩
 obtain⟨be,oe,hae,ce⟩:=HE1.out.edge (show k<t.edges.length by rw[HN.out];omega);obtain⟨q,hq⟩:=geZ (t.edges.getD k 0);have HQ:=zq (show qat t k=q from hq);rw[hq]at ce;rw[hae]at c0;clear hq hae;by_cases z4:at_<=q
 ·have g0:decide (at_<=q)=true:=decide_eq_true z4
  go_upto_region 2 with fail;go_quiet (fail);go_wp2;go_ret
  have hE:qa4 t ⟨(k:Int),at_,rv⟩=true:=by rw[HR.out];rw[HQ.out,HEB.out,g0,decide_eq_true z3];rfl
  rw[hE];exact⟨rfl,by first|exact qac HB1.out _|(rw[World.drewN_drewN];exact qac HB1.out _)⟩
 have g0:decide (at_<=q)=false:=decide_eq_false z4;go_upto_region 2 with fail;go_quiet (fail);go_wp2;go_ret
 have hE:qa4 t ⟨(k:Int),at_,rv⟩=false:=by rw[HR.out];rw[HQ.out,HEB.out,g0,decide_eq_true z3];rfl
 rw[hE];exact⟨rfl,by first|exact qac HB1.out _|(rw[World.drewN_drewN];exact qac HB1.out _)⟩
theorem qgA (t:Tp3)(a:TpA)(p:Ps3)(w:World)(ht:TopR w t a)(hp:onB t p=true)(hok:qav t=true):
  Calls Tryz.prog 151 #[.agg (tpC t a),.agg (psA p)] w fun e w'=>e= .returned (.int .i64 (qaB t p))/\Below w.heap.size w w':=by
 have HP:=zq (qbh.1 hp);have HA:=zq (qcP hok hp);obtain⟨wa,hwa,hbwa,HWA,HBWA,h0,h1⟩:=bx2Z w 27 (tpC t a) 51 (psA p);obtain⟨e,at_,rv⟩:=p;unfold psA at*;unfold qaB at HA⊢;dsimp only at*;have c0:wa.cell? ⟨w.heap.size,0,none⟩=some (.slice a.ae t.edges.length a.ce):=h0.cell 0;have d0:wa.cell? ⟨w.heap.size+1,0,none⟩=some (.int .i64 e):=h1.cell 0;have d1:wa.cell? ⟨w.heap.size+1,1,none⟩=some (.int .i64 at_):=h1.cell 1;have d2:wa.cell? ⟨w.heap.size+1,2,none⟩=some (.bool rv):=h1.cell 2;have HE1:=zq (ht.e.under hbwa);clear hwa hbwa h0 h1 hp ht hok;have hpp:=HP.out.1;unfold edgeB at hpp;simp only[Bool.and_eq_true,decide_eq_true_eq]at hpp;obtain⟨hp1,hp2⟩:=hpp;obtain⟨k,rfl⟩: ∃k:Nat,e=k:=⟨e.toNat,by omega⟩
 obtain⟨be,oe,hae,ce⟩:=HE1.out.edge (show k<t.edges.length by omega);obtain⟨q,hq⟩:=geZ (t.edges.getD k 0);have hq2:qat t k=q:=hq;rw[hq2]at HA⊢;rw[hq]at ce;rw[hae]at c0;obtain⟨n,hn⟩:=geZ (t.edges.length);rw[hn]at c0 hp2;clear hq hq2 hae hn HE1 HP
 cases rv with
 |true=>
  go_enter Tryz.func151,Tryz.ntmps151;go_upto_region 1 with fail;rw[HWA.out];clear HWA;go_wp2;go_ret
  exact⟨rfl,HBWA.out⟩
 |false=>
  have hwr1:IntKind.i64.wrap (q-at_)=q-at_:=by have h_:=HA.out;rw[if_neg (by decide)]at h_;rw[IntKind.wrap_i64];omega
  go_enter Tryz.func151,Tryz.ntmps151;go_upto_region 1 with fail;rw[HWA.out];clear HWA;go_wp2;go_quiet (fail);go_wp2;go_ret
  exact⟨by first|rfl|simp,by first|exact qac HBWA.out _|(rw[World.drewN_drewN];exact qac HBWA.out _)|exact HBWA.out⟩
theorem rmoved_any (p:Ps3)(n:Int)(w:World)(h0n:0<=n)(hn:n<=1000000)(h0p:0<=p.at_)(hp:p.at_<=1000000):
  Calls Tryz.prog 153 #[.agg (psA p),.int .i64 n] w fun e w'=>e= .returned (.agg (psA (qbg p n)))/\Below w.heap.size w w':=by
 obtain⟨wa,hwa,hbwa,HWA,HBWA,h0,h1⟩:=bx2Z w 51 (psA p) 51 #[.int .i64 0,.int .i64 0,.bool false];have c0:wa.cell? ⟨w.heap.size,0,none⟩=some (.int .i64 p.edge):=h0.cell 0;have c1:wa.cell? ⟨w.heap.size,1,none⟩=some (.int .i64 p.at_):=h0.cell 1;have c2:wa.cell? ⟨w.heap.size,2,none⟩=some (.bool p.rev):=h0.cell 2;have HZ:=zq h1;clear hwa hbwa h0 h1;obtain⟨e,k,r⟩:=p;unfold psA at*;unfold qbg;dsimp only at*;have hw1:IntKind.i64.wrap (k-n)=k-n:=by rw[IntKind.wrap_i64];omega
 have hw2:IntKind.i64.wrap (k+n)=k+n:=by rw[IntKind.wrap_i64];omega
 clear h0n hn h0p hp
 cases r with
 |true=>
  have HR:=zq (qaa HZ.out #[.int .i64 e,.int .i64 (k-n),.bool true]);have HBF:=zq (qab (g:=w.heap.size+1) HBWA.out (by omega) #[.int .i64 e,.int .i64 (k-n),.bool true]);go_enter Tryz.func153,Tryz.ntmps153;go_upto_region 1 with fail;rw[HWA.out];clear HWA HBWA;go_wp2_with (with_reducible refine stZ #[.int .i64 e,.int .i64 (k-n),.bool true] HZ.out ?_);refine roZ HR.out ?_;exact⟨rfl,HBF.out⟩
 |false=>
  have HR:=zq (qaa HZ.out #[.int .i64 e,.int .i64 (k+n),.bool false]);have HBF:=zq (qab (g:=w.heap.size+1) HBWA.out (by omega) #[.int .i64 e,.int .i64 (k+n),.bool false]);go_enter Tryz.func153,Tryz.ntmps153;go_upto_region 1 with fail;rw[HWA.out];clear HWA HBWA;go_wp2_with (with_reducible refine stZ #[.int .i64 e,.int .i64 (k+n),.bool false] HZ.out ?_);refine roZ HR.out ?_;exact⟨rfl,HBF.out⟩
theorem rbegin_any (t:Tp3)(a:TpA)(s:St3)(w:World)(ht:TopR w t a)(hs:edgeB t s.edge=true):
  Calls Tryz.prog 152 #[.agg (tpC t a),.agg (stA13 s)] w fun e w'=>e= .returned (.agg (psA (qbo t s)))/\Below w.heap.size w w':=by
 obtain⟨wa,hwa,hbwa,HWA,HBWA,h0,h1,h2⟩:=bx3Z w 27 (tpC t a) 30 (stA13 s) 51 #[.int .i64 0,.int .i64 0,.bool false];obtain⟨e,rv⟩:=s;unfold qbo psA;dsimp only at*;have c0:wa.cell? ⟨w.heap.size,0,none⟩=some (.slice a.ae t.edges.length a.ce):=h0.cell 0;have d0:wa.cell? ⟨w.heap.size+1,0,none⟩=some (.int .i64 e):=h1.cell 0;have d1:wa.cell? ⟨w.heap.size+1,1,none⟩=some (.bool rv):=h1.cell 1;have HZ:=zq h2;have H0:=zq h0;have H1:=zq h1;clear hwa hbwa h0 h1 h2;unfold edgeB at hs;simp only[Bool.and_eq_true,decide_eq_true_eq]at hs;obtain⟨hp1,hp2⟩:=hs;obtain⟨k,rfl⟩: ∃k:Nat,e=k:=⟨e.toNat,by omega⟩
 have hk:k<t.edges.length:=by omega
 obtain⟨be,oe,hae,-⟩:=ht.e.edge hk;obtain⟨q,hq⟩:=geZ (t.edges.getD k 0);have hq2:qat t k=q:=hq;rw[hq2];have HCX:=zq (fun W (hW:Below w.heap.size w W)=>(show W.cell? ⟨be,oe+k,none⟩=some (.int .i64 q)from by obtain⟨b_,o_,e_,h_⟩:=(ht.e.under hW).edge hk;rw[hae]at e_;injection e_ with e_;injection e_ with e1_ e2_ _;subst e1_ e2_;rw[hq]at h_;exact h_));have HAE:=zq hae;clear hq hq2 hae hk ht
 cases rv with
 |false=>
  clear HCX HAE c0 hp2;have HR:=zq (qaa HZ.out #[.int .i64 (k:Int),.int .i64 0,.bool false]);have HBF:=zq (qab (g:=w.heap.size+1+1) HBWA.out (by omega) #[.int .i64 (k:Int),.int .i64 0,.bool false]);go_enter Tryz.func152,Tryz.ntmps152;go_upto_region 1 with fail;rw[HWA.out];clear HWA HBWA;go_wp2_with (with_reducible refine stZ #[.int .i64 (k:Int),.int .i64 0,.bool false] HZ.out ?_);refine roZ HR.out ?_;exact⟨rfl,HBF.out⟩
 |true=>
  go_enter Tryz.func152,Tryz.ntmps152;go_upto_region 1 with fail;rw[HWA.out];clear HWA;go_upto_region 2 with fail;clear c0 d0 d1;refine wp_region_held_drew (S:=(fun W_=>Has W_ (w.heap.size) 27 (tpC t a)/\Has W_ (w.heap.size+1) 30 (stA13 ⟨(k:Int),true⟩)/\(∃o_:Array Value,Has W_ (w.heap.size+1+1) 51 o_/\o_.size=3)/\Below w.heap.size w W_)) (by kernel_rfl) ?_ (fun hHeld=>?_)
  ·exact⟨H0.out.draw,H1.out.draw,⟨_,HZ.out.draw,by kernel_rfl⟩,qaf HBWA.out⟩
  refine tkZ 0 7 (h:=?_);simp only[lyZ];refine tqZ 1 8 (fun w_ hSw=>(show w_.cell? ⟨w.heap.size+1,0,none⟩=some (.int .i64 (k:Int):Value)from hSw.2.1.cell 0)) (h:=?_);simp only[lyZ];refine tkZ 2 9 (h:=?_);simp only[lyZ];refine tqZ 3 10 (fun w_ hSw=>(show w_.cell? ⟨w.heap.size,0,none⟩=some (.slice (some ⟨be,oe,none⟩) t.edges.length a.ce:Value)from by have h_:=hSw.1.cell 0;rw[<-HAE.out];exact h_)) (h:=?_);simp only[lyZ];refine tkZ 4 11 (h:=?_);simp only[lyZ];refine tqZ 5 12 (fun w_ hSw=>(show w_.cell? ⟨w.heap.size+1,0,none⟩=some (.int .i64 (k:Int):Value)from hSw.2.1.cell 0)) (h:=?_);simp only[lyZ];refine tkZ 6 13 (h:=?_);simp only[lyZ];refine tqZ 7 14 (fun w_ hSw=>HCX.out w_ hSw.2.2.2) (h:=?_);simp only[lyZ];refine tkZ 8 15 (h:=?_);simp only[lyZ];refine rdZ [9] ?_;refine acZ none (fun K hK=>?_) ?_
  ·rw[if_pos (by rfl)]
   obtain⟨s0,s1,s2,s3⟩:=hHeld;obtain⟨o_,h_,e_⟩:=s2;refine wp_store_row 51 _ _ rfl (w.heap.size+1+1) #[.int .i64 (k:Int),.int .i64 q,.bool true] (by rfl) (by rfl) 51 o_ h_.raw11 (by kernel_rfl) e_ (by kernel_rfl) ?_;refine hK.out _ _ ?_ (fun hHeld=>?_)
   ·exact⟨qad s0 (by omega) _,qad s1 (by omega) _,⟨_,qaa h_ #[.int .i64 (k:Int),.int .i64 q,.bool true],by kernel_rfl⟩,qab s3 (by omega) _⟩
   refine qaw (T:=(fun W_=>Has W_ (w.heap.size) 27 (tpC t a)/\Has W_ (w.heap.size+1) 30 (stA13 ⟨(k:Int),true⟩)/\Has W_ (w.heap.size+1+1) 51 #[.int .i64 (k:Int),.int .i64 q,.bool true]/\Below w.heap.size w W_)) (fun _ ⟨s0,s1,s2,s3⟩=>⟨s0,s1,⟨_,s2,by kernel_rfl⟩,s3⟩) ?_;have hHeld2:(fun W_=>Has W_ (w.heap.size) 27 (tpC t a)/\Has W_ (w.heap.size+1) 30 (stA13 ⟨(k:Int),true⟩)/\Has W_ (w.heap.size+1+1) 51 #[.int .i64 (k:Int),.int .i64 q,.bool true]/\Below w.heap.size w W_) _:=⟨qad s0 (by omega) _,qad s1 (by omega) _,qaa h_ #[.int .i64 (k:Int),.int .i64 q,.bool true],qab s3 (by omega) _⟩
   clear hHeld;have hHeld:=hHeld2;clear hHeld2 hK K h_ e_ s0 s1 s3
   try simp only[Act.put]
   refine dnZ ?_;go_wp2_with fail;refine roZ hHeld.2.2.1 ?_;exact⟨rfl,hHeld.2.2.2⟩
  exact AllReadyH.nil
end
section
open Go.RowKit
open Go.Great
theorem qa6:(Tryz.prog.info? 30).map (fun i=>(i.zero,i.size,i.bytes))=some (some (.agg #[.int .i64 0,.bool false]),2,16):=by kernel_rfl
def OwS14 (base:Nat)(w:World)(A:Option Addr)(n c:Nat)(l:List St3):Prop:=w.ownsRow base 30 2 (.slice A n c) n (l.flatMap stC)/\l.length=n
def PushS14 (base:Nat)(W:World)(g:Nat)(A:Option Addr)(n c:Nat)(l:List St3)(x:St3):Prop:=
 Hid ((stC x).length=1*2)/\Hid (W.ownsRow base 30 2 (.slice A n c) n (l.flatMap stC))/\Hid (∀j u,(stC x)[j]?=some u->W.cell? ((⟨g,0,none⟩:Addr).add j)=some u)/\Hid (∀u∈stC x,u.oneCell'=true)/\Hid (n+1<=maxLen/\(n+1)*16<=140737488355328/\base<=W.heap.size)
theorem pushS14 {base n c:Nat}{w:World}{A:Option Addr}{l:List St3}(x:St3)(ho:OwS14 base w A n c l)(hb:base<=w.heap.size)(hn:n<=1048576):PushS14 base (w.alloc (.cells (stA13 x) 30)) w.heap.size A n c l x:=by
 refine⟨zq rfl,zq (ho.1.alloc _),zq fun j u hu=>?_,zq fun u hu=>?_,zq ⟨by unfold maxLen;omega,by omega,by simp;omega⟩⟩
 ·rw[WideShapes.add_plain,(Has.made w 30 _).cell,Nat.zero_add]
  simpa[stC,stA13]using hu
 ·simp only[stC,List.mem_cons,List.not_mem_nil,or_false]at hu
  rcases hu with rfl|rfl<;>rfl
theorem OwS14.snoc {base n c:Nat}{W:World}{A:Option Addr}{l:List St3}{x:St3}(hl:l.length=n)(ho:W.ownsRow base 30 2 (.slice A (n+1) c) (n+1) (l.flatMap stC++stC x)):OwS14 base W A (n+1) c (l++[x]):=
 ⟨by rw[List.flatMap_append];simpa using ho,by simp[hl]⟩
theorem OwS14.under {base n c:Nat}{W W':World}{A:Option Addr}{l:List St3}(h:OwS14 base W A n c l)(hb:Below W.heap.size W W'):OwS14 base W' A n c l:=⟨qdh h.1 hb (Nat.le_refl _),h.2⟩
theorem OwS14.ne {base n c:Nat}{W:World}{A:Option Addr}{l:List St3}(h:OwS14 base W A n c l){g:Nat}(hg:W.heap.size<=g):(Value.slice A n c).ownBlock≠some g:=fun e=>by
 have:=(h.1.lt g e).2;omega
theorem OwS14.low {base n c:Nat}{W:World}{A:Option Addr}{l:List St3}(h:OwS14 base W A n c l){ad:Addr}(ha:A=some ad):base<=ad.block:=by
 rcases h.1.2 with⟨e1,_⟩|⟨g,cap,cur,e1,hb,_⟩
 ·injection e1 with e1
  rw[ha]at e1
  cases e1
 ·injection e1 with e1
  rw[ha]at e1;injection e1 with e1
  rw[e1];exact hb
def preL (t:Tp3)(s:St3)(i:Nat):List St3:=(List.range i).flatMap (qbK t s)
theorem qd3 (t:Tp3)(s:St3)(i:Nat):preL t s (i+1)=preL t s i++qbK t s i:=by
 unfold preL;rw[List.range_succ,List.flatMap_append];simp
theorem pre_len (t:Tp3)(s:St3)(i:Nat):(preL t s i).length<=2*i:=by
 induction i with
 |zero=>simp[preL]
 |succ i ih=>
  rw[qd3,List.length_append];have:(qbK t s i).length<=2:=by
   unfold qbK;rw[List.length_append];split<;>split<;>simp
  omega
theorem qet (t:Tp3)(a:TpA)(s:St3)(w:World)(ht:TopR w t a)(hn1:t.edges.length<=100)(hn2:t.joints.length<=100):
  Calls Tryz.prog 120 #[.agg (tpC t a),.agg (stA13 s)] w fun e w'=> ∃A c,e= .returned (.slice A (qau t s).length c)/\SlO stC 2 w' A (qau t s).length c (qau t s)/\(∀ad,A=some ad->w.heap.size<=ad.block)/\Below w.heap.size w w':=by
 obtain⟨wa,hwa,hbwa,HWA,HBWA,h0,h1⟩:=bx2Z w 27 (tpC t a) 30 (stA13 s);have HN2:=zq hn2;have H0:=zq (fun W (hW:Below wa.heap.size wa W)=>And.intro (h0.u hW) (h1.u hW));have HT:=zq (fun W (hW:Below w.heap.size w W)=>ht.under hW);have HBA:=zq (fun W (hW:Below wa.heap.size wa W)=>hbwa.trans (hW.mono hbwa.size));have d0:wa.cell? ⟨w.heap.size+1,0,none⟩=some (.int .i64 s.edge):=h1.cell 0;have HS0:=zq hbwa.size;clear hwa hbwa h0 h1 ht hn2;obtain⟨n,hnn⟩:=geZ (t.edges.length);have HN:=zq hnn;rw[hnn]at hn1;clear hnn;obtain⟨b,hb⟩:=geZ (edgeB t s.edge);have HB:=zq hb;clear hb;go_enter Tryz.func120,Tryz.ntmps120;go_upto_region 1 with fail;rw[HWA.out];clear HWA;go_wp2_with (with_reducible refine ldZ 12 (H0.out wa (Below.refl _ _)).1 ?_);refine(qcE t a s.edge wa).mono ?_;rw[HB.out];rintro e w1 ⟨rfl,hb1⟩;have HB1:=zq hb1;clear d0 HBWA
 cases b with
 |false=>
  clear hb1;go_wp2;go_ret
  have hA:qau t s=[]:=by unfold qau;rw[HB.out];rfl
  rw[hA];exact⟨none,0,rfl,SlO.nil _ _ _,(fun _ h=>by cases h),HBA.out _ HB1.out⟩
 |true=>
  have hA:qau t s=preL t s n:=by unfold qau preL;rw[HB.out,HN.out];rfl
  have HA:=zq hA;clear hA HB hb1;go_upto_region 5 with fail;go_wp2;go_loopg [6,7] n (fun kk v6 v7 wl=> ∃(i k:Nat) (A2:Option Addr) (c2:Nat),i<=n/\n-i<=kk/\v7= .int .i64 i/\v6= .slice A2 k c2/\Hid (OwS14 wa.heap.size wl A2 k c2 (preL t s i))/\Hid (Below wa.heap.size wa wl))
  case atStart=>exact⟨0,0,none,0,by omega,by omega,rfl,rfl,zq ⟨World.ownsRow_nil _ _ _ _,rfl⟩,HB1⟩
  obtain⟨i,k,A2,c2,hi,hik,rfl,rfl,HO,HW⟩:=hrel;have c0:wr.cell? ⟨w.heap.size,0,none⟩=some (.slice a.ae n a.ce):=by have h_:=(H0.out wr HW.out).1.cell 0;rw[<-HN.out];exact h_
  by_cases hlt:i<n;rotate_left
  ·obtain rfl:i=n:=by omega
   have x1: ¬(i:Int)<i:=by omega
   clear hi hik hlt hn1;go_wp2;go_ret
   rw[HA.out];have hl:=HO.out.2;rw[hl];exact⟨A2,c2,rfl,⟨hl,Sl.of_own HO.out.1⟩,(fun ad h=>Nat.le_trans HS0.out (HO.out.low h)),HBA.out _ HW.out⟩
  have x1:(i:Int)<n:=by omega
  have HK:=zq (show k<=200 from by have h1_:=HO.out.2;have h2_:=pre_len t s i;omega);have hm8:Has (wr.alloc (.cells #[.int .i64 0,.bool false] 30)) wr.heap.size 30 #[.int .i64 0,.bool false]:=Has.made _ _ _;have HM8:=zq hm8;obtain⟨w3,hw3⟩:=geZ ((wr.alloc (.cells #[.int .i64 0,.bool false] 30)).setRow wr.heap.size #[.int .i64 (i:Int),.bool false]);have hb3:Below wr.heap.size wr w3:=by rw[<-hw3];exact qab (g:=wr.heap.size) (bA) (Nat.le_refl _) _
  have HX8:=zq (show Has w3 wr.heap.size 30 #[.int .i64 (i:Int),.bool false]from by rw[<-hw3];exact qaa HM8.out _);have HW3:=zq hw3;have hm9:Has (w3.alloc (.cells #[.int .i64 0,.bool false] 30)) w3.heap.size 30 #[.int .i64 0,.bool false]:=Has.made _ _ _;have HM9:=zq hm9;obtain⟨w5,hw5⟩:=geZ ((w3.alloc (.cells #[.int .i64 0,.bool false] 30)).setRow w3.heap.size #[.int .i64 (i:Int),.bool true]);have hb5:Below w3.heap.size w3 w5:=by rw[<-hw5];exact qab (g:=w3.heap.size) (bA) (Nat.le_refl _) _
  have HX9:=zq (show Has w5 w3.heap.size 30 #[.int .i64 (i:Int),.bool true]from by rw[<-hw5];exact qaa HM9.out _);have HW5:=zq hw5;have HW39:=zq hb3.size;have HX8':=uH HX8 hb5;have HB35:=zq (bu hb3 hb5);clear hw3 hw5 hm8 hm9 hb3 hb5;go_upto_region 9 with(with_reducible refine stZ #[.int .i64 (i:Int),.bool false] HM8.out ?_)
  rw[HW3.out];clear HW3 HM8 x1 c0;go_upto_region 10 with(with_reducible refine stZ #[.int .i64 (i:Int),.bool true] HM9.out ?_)
  rw[HW5.out];clear HW5 HM9 HX8;skip;obtain⟨g8,hg8⟩: ∃g,wr.heap.size=g:=⟨_,rfl⟩
  obtain⟨g9,hg9⟩: ∃g,w3.heap.size=g:=⟨_,rfl⟩
  have HG8:=zq hg8;rw[hg8]at HX8';rw[hg9]at HX9;simp only[hg8,hg9];have HB5:=zq (HW.out.trans (HB35.out.mono HW.out.size));have HO5:=zq (HO.out.under HB35.out);have HNE8:=zq (HO.out.ne (g:=g8) (by omega));have HNE9:=zq (HO.out.ne (g:=g9) (by have h_:=HW39.out;omega));clear hg8 hg9 HO HW HB35;go_wp2_with (first|(with_reducible refine ldZ 29 (H0.out w5 HB5.out).1 ?_)|(with_reducible refine ldZ 30 (H0.out w5 HB5.out).2 ?_)|(with_reducible refine ldZ 31 HX8'.out ?_));refine(qe1 t a s ⟨(i:Int),false⟩ w5 (HT.out w5 (HBA.out w5 HB5.out)).j (by have:=HN2.out;omega)).mono ?_;rintro e w6 ⟨rfl,hb⟩;have HO6:=zq (HO5.out.under hb);have HB6:=tB HB5 hb;have HX8':=zq (HX8'.out.under hb HX8'.out.lt);have HX9:=uH HX9 hb;clear hb;go_wp2_with (first|(with_reducible refine ldZ 33 (H0.out w6 HB6.out).1 ?_)|(with_reducible refine ldZ 34 (H0.out w6 HB6.out).2 ?_)|(with_reducible refine ldZ 35 HX9.out ?_));refine(qe1 t a s ⟨(i:Int),true⟩ w6 (HT.out w6 (HBA.out w6 HB6.out)).j (by have:=HN2.out;omega)).mono ?_;rintro e w7 ⟨rfl,hb⟩;have HO7:=zq (HO6.out.under hb);have HB7:=tB HB6 hb;have HX8':=zq (HX8'.out.under hb HX8'.out.lt);have HX9:=uH HX9 hb;clear hb;clear HO5 HO6 HB5 HB6;obtain⟨b1,hb1⟩: ∃b,mayT t s ⟨(i:Int),false⟩=b:=⟨_,rfl⟩
  obtain⟨b2,hb2⟩: ∃b,mayT t s ⟨(i:Int),true⟩=b:=⟨_,rfl⟩
  have HST:=zq (show qbK t s i=(if b1=true then[⟨(i:Int),false⟩]else[])++(if b2=true then[⟨(i:Int),true⟩]else[])from by rw[<-hb1,<-hb2];rfl);rw[hb1,hb2];clear hb1 hb2
  cases b1 with
  |false=>
   cases b2 with
   |false=>
    clear HX8' HX9;go_wp2;go_roundg (gk-1)
    case measure=>omega
    case rel=>
     refine⟨i+1,k,A2,c2,by omega,by omega,by go_num,rfl,?_,HB7⟩;have hL:preL t s (i+1)=preL t s i:=by rw[qd3,HST.out];simp
     rw[hL];exact HO7
   |true=>
    have hpw:=pushS14 ⟨(i:Int),true⟩ HO7.out (Nat.le_trans HB7.out.size (Nat.le_refl _)) (by have:=HK.out;omega);unfold stA13 at hpw;dsimp only at hpw;obtain⟨hN,hO,hC,h1,hBD⟩:=hpw;have hbw:Below wa.heap.size wa (w7.alloc (.cells #[.int .i64 (i:Int),.bool true] 30)):=HB7.out.alloc HB7.out.size _;have HBW:=zq hbw;have HLN:=zq HO7.out.2;go_upto_region 15 with fail;clear hbw;go_wp2_with (first|(with_reducible refine ldZ 44 HX9.out ?_)|(with_reducible refine qao (o:=⟨some 46,_,_,_,_,_⟩) rfl (.tmp 43) (.tmp 45) 35 rfl wa.heap.size 30 (.agg #[.int .i64 0,.bool false]) 2 16 Tryz.underlying35 qa6 ?hz1 (by decide) A2 (k) c2 ((preL t s i).flatMap stC) ?hs1 hO ⟨w7.heap.size,0,none⟩ 1 1 (stC ⟨(i:Int),true⟩) ?hx1 hN hC h1 hBD ?next1))
    all_goals try rfl
    intro A3 c3 w8 ho hg;have HO8:=zq (OwS14.snoc HLN.out ho.out);have HB8:=zq (qai HBW.out HBW.out.size hO.out (Nat.le_refl _) rfl hg.out);clear ho hg hN hO hC h1 hBD HBW HLN;go_wp2;go_roundg (gk-1)
    case measure=>omega
    case rel=>
     refine⟨i+1,k+1,A3,c3,by omega,by omega,by go_num,rfl,?_,HB8⟩;have hL:preL t s (i+1)=preL t s i++[⟨(i:Int),true⟩]:=by rw[qd3,HST.out];simp
     rw[hL];exact HO8
  |true=>
   cases b2 with
   |false=>
    have hpw:=pushS14 ⟨(i:Int),false⟩ HO7.out (Nat.le_trans HB7.out.size (Nat.le_refl _)) (by have:=HK.out;omega);unfold stA13 at hpw;dsimp only at hpw;obtain⟨hN,hO,hC,h1,hBD⟩:=hpw;have hbw:Below wa.heap.size wa (w7.alloc (.cells #[.int .i64 (i:Int),.bool false] 30)):=HB7.out.alloc HB7.out.size _;have HBW:=zq hbw;have HLN:=zq HO7.out.2;clear hbw;go_wp2_with (first|(with_reducible refine ldZ 39 HX8'.out ?_)|(with_reducible refine qao (o:=⟨some 41,_,_,_,_,_⟩) rfl (.tmp 38) (.tmp 40) 35 rfl wa.heap.size 30 (.agg #[.int .i64 0,.bool false]) 2 16 Tryz.underlying35 qa6 ?hz2 (by decide) A2 (k) c2 ((preL t s i).flatMap stC) ?hs2 hO ⟨w7.heap.size,0,none⟩ 1 1 (stC ⟨(i:Int),false⟩) ?hx2 hN hC h1 hBD ?next2))
    all_goals try rfl
    intro A3 c3 w8 ho hg;have HO8:=zq (OwS14.snoc HLN.out ho.out);have HB8:=zq (qai HBW.out HBW.out.size hO.out (Nat.le_refl _) rfl hg.out);clear ho hg hN hO hC h1 hBD HBW HLN;go_wp2;go_roundg (gk-1)
    case measure=>omega
    case rel=>
     refine⟨i+1,k+1,A3,c3,by omega,by omega,by go_num,rfl,?_,HB8⟩;have hL:preL t s (i+1)=preL t s i++[⟨(i:Int),false⟩]:=by rw[qd3,HST.out];simp
     rw[hL];exact HO8
   |true=>
    have hpw:=pushS14 ⟨(i:Int),false⟩ HO7.out (Nat.le_trans HB7.out.size (Nat.le_refl _)) (by have:=HK.out;omega);unfold stA13 at hpw;dsimp only at hpw;obtain⟨hN,hO,hC,h1,hBD⟩:=hpw;have hbw:Below wa.heap.size wa (w7.alloc (.cells #[.int .i64 (i:Int),.bool false] 30)):=HB7.out.alloc HB7.out.size _;have HBW:=zq hbw;have HLN:=zq HO7.out.2;have HX9:=zq (HX9.out.beside (.cells #[.int .i64 (i:Int),.bool false] 30));clear hbw;go_wp2_with (first|(with_reducible refine ldZ 39 HX8'.out ?_)|(with_reducible refine qao (o:=⟨some 41,_,_,_,_,_⟩) rfl (.tmp 38) (.tmp 40) 35 rfl wa.heap.size 30 (.agg #[.int .i64 0,.bool false]) 2 16 Tryz.underlying35 qa6 ?hz3 (by decide) A2 (k) c2 ((preL t s i).flatMap stC) ?hs3 hO ⟨w7.heap.size,0,none⟩ 1 1 (stC ⟨(i:Int),false⟩) ?hx3 hN hC h1 hBD ?next3))
    all_goals try rfl
    intro A3 c3 w8 ho hg;have HO8:=zq (OwS14.snoc HLN.out ho.out);have HB8:=zq (qai HBW.out HBW.out.size hO.out (Nat.le_refl _) rfl hg.out);have HX9:=zq (HX9.out.grow hg.out (fun e=>HNE9.out e.symm));clear ho hg hN hO hC h1 hBD HBW HLN;clear HX8';obtain⟨k3,hk3⟩: ∃q,k+1=q:=⟨_,rfl⟩
    obtain⟨L3,hL3⟩: ∃L,preL t s i++[⟨(i:Int),false⟩]=L:=⟨_,rfl⟩
    have HL3:=zq hL3;have HK:=zq (show k3<=201 by have:=HK.out;omega);rw[hk3,hL3]at HO8;simp only[hk3];clear hk3 hL3;have hpw:=pushS14 ⟨(i:Int),true⟩ HO8.out (Nat.le_trans HB8.out.size (Nat.le_refl _)) (by have:=HK.out;omega);unfold stA13 at hpw;dsimp only at hpw;obtain⟨hN,hO,hC,h1,hBD⟩:=hpw;have hbw:Below wa.heap.size wa (w8.alloc (.cells #[.int .i64 (i:Int),.bool true] 30)):=HB8.out.alloc HB8.out.size _;have HBW:=zq hbw;have HLN:=zq HO8.out.2;go_upto_region 15 with fail;clear hbw;go_wp2_with (first|(with_reducible refine ldZ 44 HX9.out ?_)|(with_reducible refine qao (o:=⟨some 46,_,_,_,_,_⟩) rfl (.tmp 43) (.tmp 45) 35 rfl wa.heap.size 30 (.agg #[.int .i64 0,.bool false]) 2 16 Tryz.underlying35 qa6 ?hz4 (by decide) A3 (k3) c3 ((L3).flatMap stC) ?hs4 hO ⟨w8.heap.size,0,none⟩ 1 1 (stC ⟨(i:Int),true⟩) ?hx4 hN hC h1 hBD ?next4))
    all_goals try rfl
    intro A4 c4 w9 ho hg;have HO9:=zq (OwS14.snoc HLN.out ho.out);have HB9:=zq (qai HBW.out HBW.out.size hO.out (Nat.le_refl _) rfl hg.out);clear ho hg hN hO hC h1 hBD HBW HLN;go_wp2;go_roundg (gk-1)
    case measure=>omega
    case rel=>
     refine⟨i+1,k3+1,A4,c4,by omega,by omega,by go_num,rfl,?_,HB9⟩;have hL:preL t s (i+1)=L3++[⟨(i:Int),true⟩]:=by rw[qd3,HST.out,<-HL3.out];simp
     rw[hL];exact HO9
end
section
open Go.RowKit
open Go.Great
theorem qdk {t:Tp3}{p:Ps3}{n:Int}(h: ¬(qa4 t p=true/\0<=n/\n<=1099511627776)):walkE t p n=(zeroP,1):=if_neg h
theorem walkE_ok {t:Tp3}{p:Ps3}{n:Int}(h:qa4 t p=true/\0<=n/\n<=1099511627776):walkE t p n=walkF t 40 p n:=if_pos h
theorem qfV {t:Tp3}{k:Nat}{p:Ps3}{n:Int}{s:St3}(h: ¬n<=qaB t p)(h1:qau t (stepP p)=[s])(hk:1<=k):walkF t k p n=walkF t (k-1) (qbo t s) (n-qaB t p):=by
 obtain⟨j,rfl⟩: ∃j,k=j+1:=⟨k-1,by omega⟩
 exact walk_on h h1
theorem rwalk_any (t:Tp3)(a:TpA)(p:Ps3)(n:Int)(w:World)(ht:TopR w t a)(hlt:qaH t=true)(hcj:t.joints.length<=a.cj):
  Calls Tryz.prog 77 #[.agg (tpC t a),.agg (psA p),.int .i64 n] w fun e w'=>e= .returned (.tuple #[.agg (psA (walkE t p n).1),.int .i64 (walkE t p n).2])/\Below w.heap.size w w':=by
 obtain⟨rP,hrP⟩: ∃r,(walkE t p n).1=r:=⟨_,rfl⟩
 obtain⟨rE,hrE⟩: ∃r,(walkE t p n).2=r:=⟨_,rfl⟩
 have HWE:=zq (show walkE t p n=(rP,rE)from Prod.ext hrP hrE);rw[hrP,hrE];clear hrP hrE;have HLT:=zq hlt;have HNN:=zq (qax hlt);have HCJ:=zq hcj;clear hlt hcj;obtain⟨wa,hwa,hbwa,HWA,HBWA,h0,h1,h2⟩:=bx3Z w 27 (tpC t a) 51 (psA p) 51 #[.int .i64 0,.int .i64 0,.bool false];have HT:=zq (fun W (hW:Below w.heap.size w W)=>ht.under hW);have HG0:=zq h0;have HG1:=zq h1;have HG2:=zq h2;obtain⟨b,hb⟩:=geZ (qa4 t p);have HRB:=zq hb;clear hwa hbwa h0 h1 h2 hb ht;go_enter Tryz.func77,Tryz.ntmps77;go_upto_region 1 with fail;rw[HWA.out];clear HWA;go_wp2_with (first|(with_reducible refine ldZ 11 HG0.out ?_)|(with_reducible refine ldZ 12 HG1.out ?_));refine(rright_any t a p wa (HT.out wa HBWA.out) HLT.out HCJ.out).mono ?_;rw[HRB.out];rintro e w1 ⟨rfl,hb⟩;have HB:=HBWA;clear HBWA;have HB:=tB HB hb;have HG0:=uH HG0 hb;have HG1:=uH HG1 hb;have HG2:=uH HG2 hb;clear hb
 cases b with
 |false=>
  have HR:=zq (qaa HG2.out #[.int .i64 0,.int .i64 0,.bool false]);have HBF:=zq (qab (g:=w.heap.size+1+1) HB.out (by omega) #[.int .i64 0,.int .i64 0,.bool false]);go_wp2_with (with_reducible refine stZ #[.int .i64 0,.int .i64 0,.bool false] HG2.out ?_);refine rtZ HR.out ?_;obtain⟨rfl,rfl⟩:=Prod.mk.inj (show(rP,rE)=(zeroP,1)from HWE.out.symm.trans (qdk (fun h_=>by have h2_:=h_.1;rw[HRB.out]at h2_;cases h2_)));exact⟨rfl,HBF.out⟩
 |true=>
  by_cases z1:n<0
  ·skip
   have HR:=zq (qaa HG2.out #[.int .i64 0,.int .i64 0,.bool false]);have HBF:=zq (qab (g:=w.heap.size+1+1) HB.out (by omega) #[.int .i64 0,.int .i64 0,.bool false]);go_wp2_with (with_reducible refine stZ #[.int .i64 0,.int .i64 0,.bool false] HG2.out ?_);refine rtZ HR.out ?_;obtain⟨rfl,rfl⟩:=Prod.mk.inj (show(rP,rE)=(zeroP,1)from HWE.out.symm.trans (qdk (fun h_=>by have:=h_.2.1;omega)));exact⟨rfl,HBF.out⟩
  by_cases z2:1099511627776<n
  ·skip
   have HR:=zq (qaa HG2.out #[.int .i64 0,.int .i64 0,.bool false]);have HBF:=zq (qab (g:=w.heap.size+1+1) HB.out (by omega) #[.int .i64 0,.int .i64 0,.bool false]);go_wp2_with (with_reducible refine stZ #[.int .i64 0,.int .i64 0,.bool false] HG2.out ?_);refine rtZ HR.out ?_;obtain⟨rfl,rfl⟩:=Prod.mk.inj (show(rP,rE)=(zeroP,1)from HWE.out.symm.trans (qdk (fun h_=>by have:=h_.2.2;omega)));exact⟨rfl,HBF.out⟩
  have HWF:=zq ((walkE_ok ⟨HRB.out,by omega,by omega⟩).symm.trans HWE.out);have HRR:=zq (qaO.1 HRB.out);have HED:=zq (qaD HRR.out.1).1;have HN:=zq (show 0<=n/\n<=1099511627776 by omega);have HON:=zq HRR.out.2;clear HWE HRB HRR;go_upto_region 4 with fail;clear z1 z2;skip;go_wp2;go_loopg [2,9] 41 (fun kk v2 v9 wl=> ∃(l:Nat) (m:Int) (q:Ps3),l<=40/\41-l<=kk/\v9= .int .i64 l/\v2= .int .i64 m/\Hid (0<=m/\m<=1099511627776)/\Hid (onB t q=true)/\Hid (walkF t (40-l) q m=(rP,rE))/\Hid (Below w.heap.size w wl)/\Hid (Has wl (w.heap.size) 27 (tpC t a))/\Hid (Has wl (w.heap.size+1) 51 (psA q))/\Hid (Has wl (w.heap.size+1+1) 51 #[.int .i64 0,.int .i64 0,.bool false]))
  case atStart=>exact⟨0,n,p,by omega,by omega,rfl,rfl,HN,HON,HWF,HB,HG0,HG1,HG2⟩
  clear HWF HN HON HB HG0 HG1 HG2;obtain⟨l,m,q,hl,hlk,rfl,rfl,HM,HON,HWF,HB,HG0,HG1,HG2⟩:=hrel;obtain⟨ah,hah⟩: ∃x,qaB t q=x:=⟨_,rfl⟩
  have HAH:=zq hah;have HAB:=zq (show 0<=ah/\ah<=1000000 from by rw[<-hah];exact qcP HED.out HON.out);clear hah;go_wp2_with (first|(with_reducible refine ldZ 26 HG0.out ?_)|(with_reducible refine ldZ 27 HG1.out ?_));refine(qgA t a q wr (HT.out wr HB.out) HON.out HED.out).mono ?_;rw[HAH.out];rintro e w2 ⟨rfl,hb⟩;have HB:=tB HB hb;have HG0:=uH HG0 hb;have HG1:=uH HG1 hb;have HG2:=uH HG2 hb;clear hb;by_cases hle:m<=ah
  ·have x1: ¬ah<m:=by omega
   have HQB:=zq (show 0<=q.at_/\q.at_<=1000000 from by have h_:=qbh.1 HON.out;have h2_:=qaT HED.out (s:=stepP q) h_.1;rw[qcc]at h2_;exact⟨h_.2.1,Int.le_trans h_.2.2 h2_.2⟩);have HLE:=zq hle;clear hle;go_upto_region 16 with fail;clear x1 hl hlk;go_wp2_with (with_reducible refine ldZ 60 HG1.out ?_);refine(rmoved_any q m w2 HM.out.1 (by have h1_:=HLE.out;have h2_:=HAB.out;omega) HQB.out.1 HQB.out.2).mono ?_;rintro e w3 ⟨rfl,hb⟩;have HB:=tB HB hb;have HG0:=uH HG0 hb;have HG1:=uH HG1 hb;have HG2:=uH HG2 hb;clear hb;have HR:=zq (qaa HG2.out (psA (qbg q m)));have HBF:=zq (qab (g:=w.heap.size+1+1) HB.out (by omega) (psA (qbg q m)));go_wp2_with (with_reducible refine stZ (psA (qbg q m)) HG2.out ?_);refine rtZ HR.out ?_;obtain⟨rfl,rfl⟩:=Prod.mk.inj (HWF.out.symm.trans (qcM (by rw[HAH.out];exact HLE.out)));exact⟨rfl,HBF.out⟩
  have x1:ah<m:=by omega
  have HLE:=zq (show qaB t q<m from by rw[HAH.out];omega);clear hle;go_upto_region 7 with fail;clear x1;have d0:w2.cell? ⟨w.heap.size+1,0,none⟩=some (.int .i64 q.edge):=HG1.out.cell 0;have d2:w2.cell? ⟨w.heap.size+1,2,none⟩=some (.bool q.rev):=HG1.out.cell 2;go_wp2_with (with_reducible refine ldZ 32 HG0.out ?_);refine(qet t a (stepP q) w2 (HT.out w2 HB.out) HNN.out.1 HNN.out.2.1).mono ?_;rintro e w3 ⟨A2,c2,rfl,hs,hlo,hb⟩;have HLO:=zq (show∀ad,A2=some ad->w.heap.size+1<ad.block from fun ad h_=>Nat.lt_of_lt_of_le HG1.out.lt (hlo ad h_));have HSL:=zq hs;clear d0 d2 hs hlo;have HB:=tB HB hb;have HG0:=uH HG0 hb;have HG1:=uH HG1 hb;have HG2:=uH HG2 hb;clear hb;obtain⟨k,hk⟩:=geZ ((qau t (stepP q)).length);have HK:=zq hk;rw[hk]at HSL;simp only[hk];clear hk;by_cases hk0:k=0
  ·have x1:(k:Int)=0:=by omega
   have HK0:=zq hk0;clear hk0;have HR:=zq (qaa HG2.out #[.int .i64 0,.int .i64 0,.bool false]);have HBF:=zq (qab (g:=w.heap.size+1+1) HB.out (by omega) #[.int .i64 0,.int .i64 0,.bool false]);go_wp2_with (with_reducible refine stZ #[.int .i64 0,.int .i64 0,.bool false] HG2.out ?_);refine rtZ HR.out ?_;obtain⟨rfl,rfl⟩:=Prod.mk.inj (show(rP,rE)=(zeroP,141)from HWF.out.symm.trans (walk_end (Int.not_le.2 HLE.out) (HK.out.trans HK0.out)));exact⟨rfl,HBF.out⟩
  have x1: ¬(k:Int)=0:=by omega
  by_cases hk1:1<k
  ·have x2:(1:Int)<k:=by omega
   have HK1:=zq hk1;clear hk1 hk0;have HR:=zq (qaa HG2.out #[.int .i64 0,.int .i64 0,.bool false]);have HBF:=zq (qab (g:=w.heap.size+1+1) HB.out (by omega) #[.int .i64 0,.int .i64 0,.bool false]);go_wp2_with (with_reducible refine stZ #[.int .i64 0,.int .i64 0,.bool false] HG2.out ?_);refine rtZ HR.out ?_;obtain⟨rfl,rfl⟩:=Prod.mk.inj (show(rP,rE)=(zeroP,140)from HWF.out.symm.trans (qeb (Int.not_le.2 HLE.out) (by rw[HK.out];exact HK1.out)));exact⟨rfl,HBF.out⟩
  have x2: ¬(1:Int)<k:=by omega
  obtain⟨s,hs⟩:=len_one (l:=qau t (stepP q)) (by rw[HK.out];omega);have HS:=zq hs;rw[hs]at HSL;clear hs;have hk2:k=1:=by omega
  clear hk0 hk1;by_cases hl4:l=40
  ·have x3:(l:Int)=40:=by omega
   have HL4:=zq hl4;clear hl4 hl hlk hk2;have HR:=zq (qaa HG2.out #[.int .i64 0,.int .i64 0,.bool false]);have HBF:=zq (qab (g:=w.heap.size+1+1) HB.out (by omega) #[.int .i64 0,.int .i64 0,.bool false]);go_wp2_with (with_reducible refine stZ #[.int .i64 0,.int .i64 0,.bool false] HG2.out ?_);refine rtZ HR.out ?_;obtain⟨rfl,rfl⟩:=Prod.mk.inj (show(rP,rE)=(zeroP,2)from HWF.out.symm.trans (by rw[show 40-l=0 by have:=HL4.out;omega];exact qfU (Int.not_le.2 HLE.out) (by rw[HS.out];rfl)));exact⟨rfl,HBF.out⟩
  have x3: ¬(l:Int)=40:=by omega
  have HL:=zq (show l<40 by omega);clear hl4;go_upto_region 14 with fail;clear x1 x2 x3;have hk3:=hk2;subst hk3;clear HK;go_wp2_with (first|(with_reducible refine ldZ 51 HG0.out ?_)|(with_reducible refine ldZ 52 HG1.out ?_));refine(qgA t a q w3 (HT.out w3 HB.out) HON.out HED.out).mono ?_;rw[HAH.out];rintro e w4 ⟨rfl,hb⟩;have HSL:=zq (HSL.out.under hb);have HB:=tB HB hb;have HG0:=uH HG0 hb;have HG1:=uH HG1 hb;have HG2:=uH HG2 hb;clear hb;have hwr1:IntKind.i64.wrap (m-ah)=m-ah:=by have h1_:=HM.out;have h2_:=HAB.out;rw[IntKind.wrap_i64];omega
  go_upto_region 15 with fail;clear hwr1;have HEB:=zq (show edgeB t s.edge=true from(qbd.1 (show s∈qau t (stepP q)from by rw[HS.out];exact List.mem_singleton.2 rfl)).2.1);have hx0:([s]:List St3)[0]?=some s:=rfl;obtain⟨bk,off,hA2,-,-⟩:=HSL.out.step hx0;have HA2:=zq hA2;simp only[hA2];clear hA2 hx0;refine wp_region_held_drew (S:=(fun W_=>Has W_ (w.heap.size) 27 (tpC t a)/\(∃o_:Array Value,Has W_ (w.heap.size+1) 51 o_/\o_.size=3)/\Has W_ (w.heap.size+1+1) 51 #[.int .i64 0,.int .i64 0,.bool false]/\SlO stC 2 W_ A2 (1) c2 ([s])/\Below w.heap.size w W_)) (by kernel_rfl) ?_ (fun hHeld=>?_)
  ·exact⟨HG0.out.draw,⟨_,HG1.out.draw,by kernel_rfl⟩,HG2.out.draw,HSL.out.under (qaf (Below.refl _ _)),qaf HB.out⟩
  refine tlZ 0 55 w.heap.size (tpC t a) (fun _ ⟨h_,_,_,_,_⟩=>h_) (h:=?_);simp only[lyZ];refine tkZ 1 56 (h:=?_);simp only[lyZ];refine tkZ 2 57 (h:=?_);simp only[lyZ];refine tkZ 3 58 (hy:=by intro w_ hSw;(try dsimp only at hSw);obtain⟨b_,o_,e_,cx0_,cx1_⟩:=hSw.2.2.2.1.step (j:=0) (x:=s) rfl;rw[HA2.out]at e_;injection e_ with e_;injection e_ with e1_ e2_ _;subst e1_ e2_;simp only[Nat.zero_mul,Nat.add_zero]at cx0_ cx1_;go_simp<;>with_reducible rfl) (h:=?_);simp only[lyZ];refine rdZ [4] ?_;refine acZ (some 59) (fun K hK=>?_) ?_
  ·go_simp
   obtain⟨s0,s1,s2,s3,s4⟩:=hHeld;refine(rbegin_any t a s _ (HT.out _ s4) HEB.out).mono ?_;rintro e_ vs ⟨rfl,hbs⟩;go_wp2_with fail;refine hK.out _ _ ?_ (fun hHeld=>?_)
   ·exact⟨s0.u hbs,(let ⟨o_,h_,e_⟩:=s1;⟨o_,h_.u hbs,e_⟩),s2.u hbs,s3.under hbs,bu s4 hbs⟩
   clear hK K s0 s1 s2 s3 s4
   try simp only[lyZ]
   refine rdZ [5] ?_;refine acZ none (fun K hK=>?_) ?_
   ·rw[if_pos (by rfl)]
    obtain⟨s0,s1,s2,s3,s4⟩:=hHeld;obtain⟨o_,h_,e_⟩:=s1;refine wp_store_row 51 _ _ rfl (w.heap.size+1) (psA (qbo t s)) (by rfl) (by rfl) 51 o_ h_.raw11 (by kernel_rfl) e_ (by kernel_rfl) ?_;refine hK.out _ _ ?_ (fun hHeld=>?_)
    ·exact⟨qad s0 (by omega) _,⟨_,qaa h_ (psA (qbo t s)),by kernel_rfl⟩,qad s2 (by omega) _,⟨s3.1,qe4 s3.2 (fun a_ h_=>by have:=HLO.out a_ h_;omega) _⟩,qab s4 (by omega) _⟩
    refine qaw (T:=(fun W_=>Has W_ (w.heap.size) 27 (tpC t a)/\Has W_ (w.heap.size+1) 51 (psA (qbo t s))/\Has W_ (w.heap.size+1+1) 51 #[.int .i64 0,.int .i64 0,.bool false]/\SlO stC 2 W_ A2 (1) c2 ([s])/\Below w.heap.size w W_)) (fun _ ⟨s0,s1,s2,s3,s4⟩=>⟨s0,⟨_,s1,by kernel_rfl⟩,s2,s3,s4⟩) ?_;have hHeld2:(fun W_=>Has W_ (w.heap.size) 27 (tpC t a)/\Has W_ (w.heap.size+1) 51 (psA (qbo t s))/\Has W_ (w.heap.size+1+1) 51 #[.int .i64 0,.int .i64 0,.bool false]/\SlO stC 2 W_ A2 (1) c2 ([s])/\Below w.heap.size w W_) _:=⟨qad s0 (by omega) _,qaa h_ (psA (qbo t s)),qad s2 (by omega) _,⟨s3.1,qe4 s3.2 (fun a_ h_=>by have:=HLO.out a_ h_;omega) _⟩,qab s4 (by omega) _⟩
    clear hHeld;have hHeld:=hHeld2;clear hHeld2 hK K h_ e_ s0 s2 s3 s4
    try simp only[Act.put]
    refine dnZ ?_;go_wp2;go_roundg (gk-1)
    case measure=>omega
    case rel=>
     refine⟨l+1,m-ah,qbo t s,by have:=HL.out;omega,by omega,by go_num,rfl,zq (by have h1_:=HM.out;have h2_:=HAB.out;have h3_:=HLE.out;rw[HAH.out]at h3_;omega),zq (begin_on HED.out HEB.out),zq ?_,zq hHeld.2.2.2.2,zq hHeld.1,zq hHeld.2.1,zq hHeld.2.2.1⟩;rw[<-HAH.out,show 40-(l+1)=40-l-1 by omega,<-qfV (Int.not_le.2 HLE.out) HS.out (by have:=HL.out;omega)];exact HWF.out
   exact AllReadyH.nil
  exact AllReadyH.nil
end
section
open Go.RowKit
open Go.Great
theorem on_drop14 {t:Tp3}{p:Ps3}{path:List St3}{i:Nat}{x:St3}{c:Int}(hx:path[i]?=some x):onGo t p (path.drop i) c=if eqS x (stepP p)=true then some (c+lenAt t x-qaB t p)else onGo t p (path.drop (i+1)) (c+lenAt t x):=by
 obtain⟨h1,e⟩:=List.getElem?_eq_some_iff.1 hx;rw[List.drop_eq_getElem_cons h1,e,onGo]
theorem loc_bad14 {t:Tp3}{id:Int}{rev:Bool}{n:Int}(h:qaE t≠0):locE t id rev n=(zeroP,1):=if_neg h
theorem loc_none14 {t:Tp3}{id:Int}{rev:Bool}{n:Int}(h:qaE t=0)(hb:(balF t id).isSome=false):locE t id rev n=(zeroP,4):=by
 unfold locE;rw[if_pos h]
 cases hq:balF t id with
 |none=>rfl
 |some y=>rw[hq]at hb;cases hb
theorem loc_some14 {t:Tp3}{id:Int}{rev:Bool}{n:Int}(h:qaE t=0)(hb:(balF t id).isSome=true):locE t id rev n=walkE t ⟨(balR t id).edge,(balR t id).at_,rev⟩ n:=by
 unfold locE balR;rw[if_pos h]
 cases hq:balF t id with
 |none=>rw[hq]at hb;cases hb
 |some y=>rfl
theorem on_bad14 {t:Tp3}{path:List St3}{p:Ps3}(h:qa4 t p=false):onE t path p=(0,1):=if_neg (by rw[h];decide)
theorem on_len14 {t:Tp3}{path:List St3}{p:Ps3}(h:qa4 t p=true)(hl:lenE t path≠0):onE t path p=(0,lenE t path):=by
 unfold onE;rw[if_pos h,if_neg hl]
theorem on_none14 {t:Tp3}{path:List St3}{p:Ps3}(h:qa4 t p=true)(hl:lenE t path=0)(hg:onGo t p path 0=none):onE t path p=(0,4):=by
 unfold onE;rw[if_pos h,if_pos hl,hg]
theorem on_some14 {t:Tp3}{path:List St3}{p:Ps3}{n:Int}(h:qa4 t p=true)(hl:lenE t path=0)(hg:onGo t p path 0=some n):onE t path p=(n,0):=by
 unfold onE;rw[if_pos h,if_pos hl,hg]
theorem sum_take14 {t:Tp3}{path:List St3}{i:Nat}{x:St3}(hx:path[i]?=some x):sumT t (path.take (i+1))=sumT t (path.take i)+lenAt t x:=by
 rw[List.take_add_one,hx,qew];show _+(lenAt t x+0)=_
 rw[Int.add_zero]
end
section
open Go.RowKit
/-! One more, one less: the walk's two spellings. -/
theorem succ_w {j j1:Nat}(h:j+1=j1)(hb:j<=1000000000):wrap64 ((j:Int)+1)=(j1:Int):=by
 rw[IntWalk.wrap64_in _ (by omega)];omega
def OwR {α:Type}(f:α->List Value)(k:Nat)(e:TypeId)(base:Nat)(w:World)(A:Option Addr)(n c:Nat)(l:List α):Prop:=w.ownsRow base e k (.slice A n c) n (l.flatMap f)/\l.length=n
section
variable {α:Type} {f:α->List Value} {k:Nat} {e:TypeId} {base:Nat} {w w':World} {A:Option Addr} {n c:Nat} {l:List α}
theorem OwR.nil (f:α->List Value)(k:Nat)(e:TypeId)(base:Nat)(w:World):OwR f k e base w none 0 0 []:=⟨World.ownsRow_nil _ _ _ _,rfl⟩
theorem OwR.under (h:OwR f k e base w A n c l)(hb:Below w.heap.size w w'):OwR f k e base w' A n c l:=⟨qdh h.1 hb (Nat.le_refl _),h.2⟩
theorem OwR.ne (h:OwR f k e base w A n c l){g:Nat}(hg:w.heap.size<=g):(Value.slice A n c).ownBlock≠some g:=fun e=>by
 have:=(h.1.lt g e).2;omega
theorem OwR.low (h:OwR f k e base w A n c l){ad:Addr}(ha:A=some ad):base<=ad.block:=by
 subst ha;exact(h.1.lt ad.block rfl).1
theorem OwR.lt (h:OwR f k e base w A n c l){ad:Addr}(ha:A=some ad):ad.block<w.heap.size:=by
 subst ha;exact(h.1.lt ad.block rfl).2
theorem OwR.sl (h:OwR f k e base w A n c l):SlO f k w A n c l:=⟨h.2,Sl.of_own h.1⟩
theorem OwR.cap (h:OwR f k e base w A n c l):n<=c:=by
 rcases h.1.2 with⟨h1,h2⟩|⟨g,cap,cur,h1,_,_,h2,_⟩
 ·omega
 ·injection h1 with _ _ h1
  omega
theorem OwR.kept {row:Option Nat}(h:OwR f k e base w A n c l)(hg:w.grownBy w' row)(hne:(Value.slice A n c).ownBlock=none\/(Value.slice A n c).ownBlock≠row):OwR f k e base w' A n c l:=⟨h.1.kept hg hne,h.2⟩
theorem OwR.apart {g:Nat}{t:TypeId}{cs:Array Value}(h:OwR f k e base w A n c l)(hg:Has w g t cs)(hne:e≠t):(Value.slice A n c).ownBlock≠some g:=qbm h.1 hg hne
theorem OwR.draws (h:OwR f k e base w A n c l)(m:Nat):OwR f k e base (w.drewN m) A n c l:=h
theorem OwR.to_base {base':Nat}(h:OwR f k e base w A n c l)(hb:base'<=base):OwR f k e base' w A n c l:=by
 refine⟨⟨h.1.1,?_⟩,h.2⟩
 rcases h.1.2 with h1|⟨g,cap,cur,h1,h2,h3⟩
 ·exact .inl h1
 ·exact .inr ⟨g,cap,cur,h1,Nat.le_trans hb h2,h3⟩
theorem OwR.two {β:Type}{f':β->List Value}{k':Nat}{e':TypeId}{base':Nat}{A':Option Addr}{n' c':Nat}{l':List β}(h:OwR f k e base w A n c l)(h':OwR f' k' e' base' w A' n' c' l')(hne:e≠e'):(Value.slice A n c).ownBlock=none\/(Value.slice A n c).ownBlock≠(Value.slice A' n' c').ownBlock:=by
 cases A with
 |none=>exact .inl rfl
 |some ad=>
  refine .inr fun he=>?_
  cases A' with
  |none=>cases he
  |some ad'=>
   rcases h.1.2 with⟨h1,_⟩|⟨g,cap,cur,h1,_,h3,_⟩
   ·cases h1
   ·rcases h'.1.2 with⟨h4,_⟩|⟨g',cap',cur',h4,_,h6,_⟩
    ·cases h4
    ·injection h1 with h1
     injection h1 with h1
     injection h4 with h4
     injection h4 with h4
     subst h1 h4;have he:g=g':=by simpa[Value.ownBlock]using he
     subst he;rw[h3]at h6;simp only[Option.some.injEq,Obj.cells.injEq]at h6;exact hne h6.2.1
def PushR (f:α->List Value)(k:Nat)(e:TypeId)(bytes base:Nat)(w:World)(g:Nat)(A:Option Addr)(n c:Nat)(l:List α)(x:α):Prop:=
 Hid ((f x).length=1*k)/\Hid (w.ownsRow base e k (.slice A n c) n (l.flatMap f))/\Hid (∀j u,(f x)[j]?=some u->w.cell? ((⟨g,0,none⟩:Addr).add j)=some u)/\Hid (∀u∈f x,u.oneCell'=true)/\Hid (n+1<=maxLen/\(n+1)*bytes<=140737488355328/\base<=w.heap.size)
theorem pushR (bytes:Nat)(x:α)(cs:Array Value)(hcs:cs.toList=f x)(hk:(f x).length=k)(h1: ∀u∈f x,u.oneCell'=true)(ho:OwR f k e base w A n c l)(hb:base<=w.heap.size)(hn:n<=1048576)(hby:bytes<=65536):PushR f k e bytes base (w.alloc (.cells cs e)) w.heap.size A n c l x:=by
 refine⟨zq (by rw[hk];omega),zq (ho.1.alloc _),zq fun j u hu=>?_,zq h1,zq ⟨by unfold maxLen;omega,?_,by simp;omega⟩⟩
 ·rw[WideShapes.add_plain,(Has.made w e _).cell,Nat.zero_add,<-Array.getElem?_toList,hcs]
  exact hu
 ·have:=Nat.mul_le_mul (show n+1<=1048577 by omega) hby
  omega
theorem OwR.snoc {x:α}(hl:l.length=n)(ho:w.ownsRow base e k (.slice A (n+1) c) (n+1) (l.flatMap f++f x)):OwR f k e base w A (n+1) c (l++[x]):=
 ⟨by rw[List.flatMap_append];simpa using ho,by simp[hl]⟩
theorem OwR.poured {m:Nat}{l':List α}(hl:l.length=n)(hl':l'.length=m)(ho:w.ownsRow base e k (.slice A (n+m) c) (n+m) (l.flatMap f++l'.flatMap f)):OwR f k e base w A (n+m) c (l++l'):=
 ⟨by rw[List.flatMap_append];exact ho,by simp[hl,hl']⟩
theorem pourR (bytes:Nat){B:Option Addr}{m cc:Nat}{l':List α}(ho:OwR f k e base w A n c l)(hs:SlO f k w B m cc l')(h1: ∀x,∀u∈f x,u.oneCell'=true)(hb:base<=w.heap.size)(hn:n+m<=1048576)(hby:bytes<=65536):
  Hid (w.ownsRow base e k (.slice A n c) n (l.flatMap f))/\Hid (Sl w k B m cc (l'.flatMap f))/\Hid (∀u∈l'.flatMap f,u.oneCell'=true)/\Hid (n+m<=maxLen/\(n+m)*bytes<=140737488355328/\base<=w.heap.size):=by
 refine⟨zq ho.1,zq hs.2,zq fun u hu=>?_,zq ⟨by unfold maxLen;omega,?_,hb⟩⟩
 ·obtain⟨x,_,h⟩:=List.mem_flatMap.1 hu
  exact h1 x u h
 ·have:=Nat.mul_le_mul hn hby
  omega
theorem OwR.has {ad:Addr}(h:OwR f k e base w (some ad) n c l): ∃g cur,ad=⟨g,0,none⟩/\base<=g/\Has w g e cur/\n<=c/\c<=maxLen/\cur.size=c*k/\cur.toList.take (n*k)=l.flatMap f:=by
 rcases h.1.2 with⟨h',_⟩|⟨g,cap,cur,h',hb,hg,hnc,hcm,hcs,htake⟩
 ·cases h'
 ·injection h' with h1 h2 h3
  injection h1 with h1
  subst h1 h3;exact⟨g,cur,rfl,hb,hg,hnc,hcm,hcs,htake⟩
theorem OwR.set {ad:Addr}{l':List α}(h:OwR f k e base w (some ad) n c l){j:Nat}{u:Value}(hl:l'.length=n)(hs:l'.flatMap f=(l.flatMap f).set j u):OwR f k e base (w.setCell ⟨ad.block,j,none⟩ u) (some ad) n c l':=by
 obtain⟨g,cur,rfl,hb,hg,hnc,hcm,hcs,ht⟩:=h.has;refine⟨⟨?_,.inr ⟨g,c,cur.setIfInBounds j u,rfl,hb,hg.stored j u,hnc,hcm,by simpa using hcs,?_⟩⟩,hl⟩
 ·rw[hs,List.length_set]
  exact h.1.1
 ·rw[Array.toList_setIfInBounds,List.take_set,ht,hs]
theorem OwR.block {ad:Addr}(h:OwR f k e base w (some ad) n c l):ad=⟨ad.block,0,none⟩:=by
 obtain⟨g,cur,rfl,_⟩:=h.has
 rfl
theorem OwR.thaw {ad:Addr}(h:OwR f k e base w (some ad) n c l)(j:Nat):w.frozen? ⟨ad.block,j,none⟩=false:=by
 obtain⟨g,cur,rfl,_,hg,_⟩:=h.has;exact hg.thaw j
theorem OwR.some (h:OwR f k e base w A n c l)(hn:0<n): ∃g,A=some ⟨g,0,none⟩/\base<=g/\g<w.heap.size:=by
 rcases h.1.2 with⟨_,h2⟩|⟨g,cap,cur,h',hb,hg,_⟩
 ·omega
 ·injection h' with h1
  exact⟨g,h1,hb,(Array.getElem?_eq_some_iff.1 hg).1⟩
theorem below_owr {w0:World}{B:Nat}(h:Below B w0 w)(hB:B<=w.heap.size)(ho:OwR f k e base w A n c l)(hbase:B<=base)(hg:w.grownBy w' (Value.slice A n c).ownBlock):Below B w0 w':=qai h hB ho.1 hbase rfl hg
end
theorem qa7 {W:World}{g:Nat}{t:TypeId}{n s:Nat}{vs:List Value}(h:Has W g t vs.toArray)(hn:vs.length=n*s):Sl W s (some ⟨g,0,none⟩) n n vs:=by
 refine⟨hn,(fun e=>by cases e),fun ad ha j u hu=>?_⟩;injection ha with ha
 subst ha;rw[WideShapes.add_plain,h.cell,Nat.zero_add]
 simpa using hu
theorem SlO.at_cell {α:Type}{f:α->List Value}{k:Nat}{w:World}{b off n c:Nat}{l:List α}(h:SlO f k w (some ⟨b,off,none⟩) n c l)(hf: ∀x,(f x).length=k)(hk:0<k){j:Nat}{x:α}(hx:l[j]?=some x){i:Nat}{u:Value}(hu:(f x)[i]?=some u):w.cell? ⟨b,off+j*k+i,none⟩=some u:=by
 obtain⟨b',o',e,hc⟩:=h.at_ hf hk hx;injection e with e
 injection e with e1 e2 _
 subst e1 e2;exact hc i u hu
end
section
open Go.RowKit
open Go.Great
def snA (s:Sn3):Array Value:=#[.int .i64 s.edge,.int .i64 s.lo,.int .i64 s.hi]
def snC (s:Sn3):List Value:=[.int .i64 s.edge,.int .i64 s.lo,.int .i64 s.hi]
theorem eq_sn15 (a b:Sn3)(W:World):(Op.equalIn 10000 119 (.agg (snA a)) (.agg (snA b))).run Tryz.prog W= .ok (eqN a b) W:=by
 rw[show(10000:Nat)=9999+1 from rfl,run_equalIn_struct W 9999 119 _ _ (by kernel_rfl) (by kernel_rfl)];simp only[Program.fieldsOf,Tryz.underlying119];unfold eqN snA;by_cases h0:a.edge=b.edge;rotate_left
 ·refine(qa5 W 9999 (snA a) (snA b) _ _ (.int .i64 a.edge) (.int .i64 b.edge) (by decide) (qag W 3 (snA a) 0 (.int .i64 a.edge) (by kernel_rfl) rfl) (qag W 3 (snA b) 0 (.int .i64 b.edge) (by kernel_rfl) rfl) (by rw[show(9999:Nat)=9998+1 from rfl,run_equalIn_int W 9998 3 .i64 .i64 _ _ Tryz.underlying3];simp[h0])).trans ?_
  have e:(a.edge==b.edge)=false:=by simp[h0]
  simp[e]
 refine(qaL W 9999 (snA a) (snA b) _ _ (.int .i64 a.edge) (.int .i64 b.edge) (by decide) (qag W 3 (snA a) 0 (.int .i64 a.edge) (by kernel_rfl) rfl) (qag W 3 (snA b) 0 (.int .i64 b.edge) (by kernel_rfl) rfl) (by rw[show(9999:Nat)=9998+1 from rfl,run_equalIn_int W 9998 3 .i64 .i64 _ _ Tryz.underlying3];simp[h0])).trans ?_;by_cases h1:a.lo=b.lo;rotate_left
 ·refine(qa5 W 9999 (snA a) (snA b) _ _ (.int .i64 a.lo) (.int .i64 b.lo) (by decide) (qag W 3 (snA a) 1 (.int .i64 a.lo) (by kernel_rfl) rfl) (qag W 3 (snA b) 1 (.int .i64 b.lo) (by kernel_rfl) rfl) (by rw[show(9999:Nat)=9998+1 from rfl,run_equalIn_int W 9998 3 .i64 .i64 _ _ Tryz.underlying3];simp[h1])).trans ?_
  have e:(a.lo==b.lo)=false:=by simp[h1]
  simp[e]
 refine(qaL W 9999 (snA a) (snA b) _ _ (.int .i64 a.lo) (.int .i64 b.lo) (by decide) (qag W 3 (snA a) 1 (.int .i64 a.lo) (by kernel_rfl) rfl) (qag W 3 (snA b) 1 (.int .i64 b.lo) (by kernel_rfl) rfl) (by rw[show(9999:Nat)=9998+1 from rfl,run_equalIn_int W 9998 3 .i64 .i64 _ _ Tryz.underlying3];simp[h1])).trans ?_;by_cases h2:a.hi=b.hi;rotate_left
 ·refine(qa5 W 9999 (snA a) (snA b) _ _ (.int .i64 a.hi) (.int .i64 b.hi) (by decide) (qag W 3 (snA a) 2 (.int .i64 a.hi) (by kernel_rfl) rfl) (qag W 3 (snA b) 2 (.int .i64 b.hi) (by kernel_rfl) rfl) (by rw[show(9999:Nat)=9998+1 from rfl,run_equalIn_int W 9998 3 .i64 .i64 _ _ Tryz.underlying3];simp[h2])).trans ?_
  have e:(a.hi==b.hi)=false:=by simp[h2]
  simp[e]
 refine(qaL W 9999 (snA a) (snA b) _ _ (.int .i64 a.hi) (.int .i64 b.hi) (by decide) (qag W 3 (snA a) 2 (.int .i64 a.hi) (by kernel_rfl) rfl) (qag W 3 (snA b) 2 (.int .i64 b.hi) (by kernel_rfl) rfl) (by rw[show(9999:Nat)=9998+1 from rfl,run_equalIn_int W 9998 3 .i64 .i64 _ _ Tryz.underlying3];simp[h2])).trans ?_;refine(qbN W 9999 _ _).trans ?_;simp[h0,h1,h2]
theorem neq_sn15 (a b:Sn3)(W:World):(binOp .neq 119 (.agg (snA a)) (.agg (snA b))).run Tryz.prog W= .ok (.bool (!eqN a b)) W:=by
 rw[run_neq_struct,eq_sn15];rfl
theorem qa0:(Tryz.prog.info? 3).map (fun i=>(i.zero,i.size,i.bytes))=some (some (.int .i64 0),1,8):=by kernel_rfl
theorem qaR:(Tryz.prog.info? 119).map (fun i=>(i.zero,i.size,i.bytes))=some (some (.agg #[.int .i64 0,.int .i64 0,.int .i64 0]),3,24):=by kernel_rfl
theorem qbq (x:Int): ∀u∈inC x,u.oneCell'=true:=by
 intro u hu;simp only[inC,List.mem_cons,List.not_mem_nil,or_false]at hu;subst hu
 rfl
theorem qbj (s:Sn3): ∀u∈snC s,u.oneCell'=true:=by
 intro u hu;simp only[snC,List.mem_cons,List.not_mem_nil,or_false]at hu
 rcases hu with rfl|rfl|rfl<;>rfl
theorem SlO.span {w:World}{A:Option Addr}{n c:Nat}{l:List Sn3}(h:SlO snC 3 w A n c l){j:Nat}{x:Sn3}(hx:l[j]?=some x):
  ∃b off,A=some ⟨b,off,none⟩/\w.cell? ⟨b,off+j*3,none⟩=some (.int .i64 x.edge)/\w.cell? ⟨b,off+j*3+1,none⟩=some (.int .i64 x.lo)/\w.cell? ⟨b,off+j*3+2,none⟩=some (.int .i64 x.hi):=by
 obtain⟨b,off,e,hc⟩:=h.at_ (fun _=>rfl) (by decide) hx;exact⟨b,off,e,hc 0 _ rfl,hc 1 _ rfl,hc 2 _ rfl⟩
theorem SlO.num {w:World}{A:Option Addr}{n c:Nat}{l:List Int}(h:SlO inC 1 w A n c l){j:Nat}{x:Int}(hx:l[j]?=some x):
  ∃b off,A=some ⟨b,off,none⟩/\w.cell? ⟨b,off+j,none⟩=some (.int .i64 x):=by
 obtain⟨b,off,e,hc⟩:=h.at_ (fun _=>rfl) (by decide) hx;refine⟨b,off,e,?_⟩;have h0:=hc 0 _ rfl
 simpa using h0
end
section
open Go.RowKit
open Go.Great
theorem rshas_any (l:List Sn3)(A:Option Addr)(n c:Nat)(e x:Int)(w:World)(hs:SlO snC 3 w A n c l)(hn:n<=1048576):
  Calls Tryz.prog 221 #[.slice A n c,.int .i64 e,.int .i64 x] w fun r w'=>r= .returned (.bool (hasL l e x))/\Below w.heap.size w w':=by
 have HL:=zq hs.1;have HS:=zq (fun W (hW:Below w.heap.size w W)=>hs.under hW);obtain⟨R,hR⟩:=geZ (hasL l e x);have HR:=zq hR;rw[hR];clear hR hs;have hx0:(0:Int)<=n:=by omega
 go_enter Tryz.func221,Tryz.ntmps221;go_wp2;go_loopg [7] n (fun kk v7 wl=> ∃i:Nat,i<=n/\n-i<=kk/\v7= .int .i64 i/\Hid (∀j s,j<i->l[j]?=some s->hasS s e x=false)/\Hid (Below w.heap.size w wl))
 case atStart=>exact⟨0,by omega,by omega,rfl,zq fun j s h=>absurd h (by omega),zq (Below.refl _ _)⟩
 obtain⟨i,hi,hik,rfl,HNO,HB⟩:=hrel;by_cases hlt:i<n;rotate_left
 ·have x1: ¬(i:Int)<n:=by omega
  have HF:Hid (R=false):=zq (by
   rw[<-HR.out]
   cases hq:hasL l e x with
   |false=>rfl
   |true=>
    obtain⟨s,h1,h2⟩:=qbp.1 hq;obtain⟨j,hj,rfl⟩:=List.getElem_of_mem h1;rw[HNO.out j _ (by have:=HL.out;omega) (List.getElem?_eq_getElem hj)]at h2
    cases h2)
  go_wp2;go_ret
  exact⟨by rw[HF.out];rfl,HB.out⟩
 obtain⟨s,hs⟩:=glZ l (i) (by rw[HL.out];omega);have HX:=zq hs;obtain⟨bk,off,rfl,d0,d1,d2⟩:=(HS.out wr HB.out).span hs;clear hs;have x1:(i:Int)<n:=by omega
 have x2:(0:Int)<=i:=by omega
 obtain⟨q,hq⟩:=geZ (hasS s e x);have HQ:=zq hq;clear hq;obtain⟨se,sl,sh⟩:=s;dsimp only at*;obtain⟨k1,hk1⟩: ∃k1,k1=gk:=⟨_,rfl⟩
 subst hk1;obtain⟨wv,hwv⟩: ∃wv,wv=wr:=⟨_,rfl⟩
 subst hwv;go_upto_region 5 with fail;obtain⟨wb,hwb⟩:=geZ (wv.alloc (.cells #[.int .i64 se,.int .i64 sl,.int .i64 sh] 119));rw[hwb];have HBN:=zq (show Below w.heap.size w wb from by rw[<-hwb];exact HB.out.alloc HB.out.size _);have hh:Has wb wv.heap.size 119 #[.int .i64 se,.int .i64 sl,.int .i64 sh]:=by rw[<-hwb];exact Has.made _ _ _
 have g0:wb.cell? ⟨wv.heap.size,0,none⟩=some (.int .i64 se):=hh.cell 0;have g1:wb.cell? ⟨wv.heap.size,1,none⟩=some (.int .i64 sl):=hh.cell 1;have g2:wb.cell? ⟨wv.heap.size,2,none⟩=some (.int .i64 sh):=hh.cell 2;obtain⟨gb,hgb⟩: ∃g,wv.heap.size=g:=⟨_,rfl⟩
 simp only[hgb]at g0 g1 g2⊢;clear hh hwb hgb d0 d1 d2 x1 x2;by_cases y0:0<=se;rotate_left
 ·have HF:Hid (q=false):=zq (by rw[<-HQ.out];cases hc:hasS ⟨se,sl,sh⟩ e x with|false=>rfl|true=>have h_:=qaq.1 hc;dsimp only at h_;omega)
  go_wp2;go_roundg (k1-1)
  case measure=>omega
  case rel=>
   refine⟨i+1,by omega,by omega,by go_num,zq fun j s hj hs=>?_,HBN⟩;by_cases hji:j=i
   ·subst hji;rw[HX.out]at hs;cases hs;rw[HQ.out,HF.out]
   ·exact HNO.out j s (by omega) hs
 by_cases y1:0<=sl;rotate_left
 ·have HF:Hid (q=false):=zq (by rw[<-HQ.out];cases hc:hasS ⟨se,sl,sh⟩ e x with|false=>rfl|true=>have h_:=qaq.1 hc;dsimp only at h_;omega)
  go_wp2;go_roundg (k1-1)
  case measure=>omega
  case rel=>
   refine⟨i+1,by omega,by omega,by go_num,zq fun j s hj hs=>?_,HBN⟩;by_cases hji:j=i
   ·subst hji;rw[HX.out]at hs;cases hs;rw[HQ.out,HF.out]
   ·exact HNO.out j s (by omega) hs
 by_cases y2:sh<=1000000;rotate_left
 ·have HF:Hid (q=false):=zq (by rw[<-HQ.out];cases hc:hasS ⟨se,sl,sh⟩ e x with|false=>rfl|true=>have h_:=qaq.1 hc;dsimp only at h_;omega)
  go_wp2;go_roundg (k1-1)
  case measure=>omega
  case rel=>
   refine⟨i+1,by omega,by omega,by go_num,zq fun j s hj hs=>?_,HBN⟩;by_cases hji:j=i
   ·subst hji;rw[HX.out]at hs;cases hs;rw[HQ.out,HF.out]
   ·exact HNO.out j s (by omega) hs
 by_cases y3:se=e;rotate_left
 ·have HF:Hid (q=false):=zq (by rw[<-HQ.out];cases hc:hasS ⟨se,sl,sh⟩ e x with|false=>rfl|true=>have h_:=qaq.1 hc;dsimp only at h_;omega)
  have z3:(se==e)=false:=by simp[y3]
  go_wp2;go_roundg (k1-1)
  case measure=>omega
  case rel=>
   refine⟨i+1,by omega,by omega,by go_num,zq fun j s hj hs=>?_,HBN⟩;by_cases hji:j=i
   ·subst hji;rw[HX.out]at hs;cases hs;rw[HQ.out,HF.out]
   ·exact HNO.out j s (by omega) hs
 subst y3;by_cases y4:sl<=x;rotate_left
 ·have HF:Hid (q=false):=zq (by rw[<-HQ.out];cases hc:hasS ⟨se,sl,sh⟩ se x with|false=>rfl|true=>have h_:=qaq.1 hc;dsimp only at h_;omega)
  go_wp2;go_roundg (k1-1)
  case measure=>omega
  case rel=>
   refine⟨i+1,by omega,by omega,by go_num,zq fun j s hj hs=>?_,HBN⟩;by_cases hji:j=i
   ·subst hji;rw[HX.out]at hs;cases hs;rw[HQ.out,HF.out]
   ·exact HNO.out j s (by omega) hs
 by_cases y5:x<sh;rotate_left
 ·have HF:Hid (q=false):=zq (by rw[<-HQ.out];cases hc:hasS ⟨se,sl,sh⟩ se x with|false=>rfl|true=>have h_:=qaq.1 hc;dsimp only at h_;omega)
  go_wp2;go_roundg (k1-1)
  case measure=>omega
  case rel=>
   refine⟨i+1,by omega,by omega,by go_num,zq fun j s hj hs=>?_,HBN⟩;by_cases hji:j=i
   ·subst hji;rw[HX.out]at hs;cases hs;rw[HQ.out,HF.out]
   ·exact HNO.out j s (by omega) hs
 have HF:Hid (R=true):=zq (by rw[<-HR.out];exact qbp.2 ⟨_,List.mem_of_getElem? HX.out,qaq.2 ⟨y0,y1,y2,rfl,y4,y5⟩⟩);go_wp2;go_ret
 exact⟨by rw[HF.out];rfl,HBN.out⟩
theorem rswant_any (k:Kp3)(x y:Bool)(w:World):
  Calls Tryz.prog 222 #[.agg #[.bool k.one,.bool k.other,.bool k.common],.bool x,.bool y] w fun r w'=>r= .returned (.bool (wantB k x y))/\Below w.heap.size w w':=by
 obtain⟨wa,hwa,hbwa,HWA,HBWA,h0⟩:=bx1Z w 239 #[.bool k.one,.bool k.other,.bool k.common];have c0:wa.cell? ⟨w.heap.size,0,none⟩=some (.bool k.one):=h0.cell 0;have c1:wa.cell? ⟨w.heap.size,1,none⟩=some (.bool k.other):=h0.cell 1;have c2:wa.cell? ⟨w.heap.size,2,none⟩=some (.bool k.common):=h0.cell 2;clear hwa hbwa h0;obtain⟨a,b,c⟩:=k;dsimp only at*
 cases a<;>cases b<;>cases c<;>cases x<;>cases y
 all_goals
  go_enter Tryz.func222,Tryz.ntmps222;go_upto_region 1 with fail;rw[HWA.out];go_wp2;go_ret
  exact⟨rfl,HBWA.out⟩
theorem qev (l:List Int)(x:Int)(A:Option Addr)(n c:Nat)(w:World)(hs:SlO inC 1 w A n c l)(hn:n<=100000):
  Calls Tryz.prog 220 #[.slice A n c,.int .i64 x] w fun r w'=> ∃B d,r= .returned (.slice B (insL x l).length d)/\SlO inC 1 w' B (insL x l).length d (insL x l)/\Below w.heap.size w w':=by
 have HL:=zq hs.1;have HS:=zq (fun W (hW:Below w.heap.size w W)=>hs.under hW);obtain⟨R,hR⟩:=geZ (insL x l);have HR:=zq hR;rw[hR];clear hR hs;go_enter Tryz.func220,Tryz.ntmps220;go_wp2;go_loopg [5,6,7] n (fun kk v5 v6 v7 wl=> ∃(i k:Nat) (A2:Option Addr) (c2:Nat) (b:Bool) (q:List Int),i<=n/\n-i<=kk/\v7= .int .i64 i/\v6= .bool b/\v5= .slice A2 k c2/\Hid (k<=i+1/\(b=false->k<=i))/\Hid (OwR inC 1 3 w.heap.size wl A2 k c2 q)/\Hid (R=q++(if b=true then l.drop i else insL x (l.drop i)))/\Hid (Below w.heap.size w wl))
 case atStart=>exact⟨0,0,none,0,false,[],by omega,by omega,rfl,rfl,rfl,zq ⟨by omega,fun _=>by omega⟩,zq (OwR.nil _ _ _ _ _),zq (by rw[<-HR.out];simp),zq (Below.refl _ _)⟩
 obtain⟨i,k,A2,c2,b,q,hi,hik,rfl,rfl,rfl,HK,HO,HQ,HB⟩:=hrel;obtain⟨k1,hk1⟩: ∃k1,k1=gk:=⟨_,rfl⟩
 subst hk1;obtain⟨wv,hwv⟩: ∃wv,wv=wr:=⟨_,rfl⟩
 subst hwv;by_cases hlt:i<n;rotate_left
 ·obtain rfl:i=n:=by omega
  have x1: ¬(i:Int)<i:=by omega
  have hd:l.drop i=[]:=List.drop_of_length_le (by rw[HL.out];exact Nat.le_refl _);rw[hd]at HQ;have HLN:=zq HO.out.2;clear hd hik hlt
  cases b with
  |true=>
   have HF:Hid (R=q):=zq (by rw[HQ.out];simp);go_wp2;go_ret
   rw[HF.out,HLN.out];exact⟨A2,c2,rfl,HO.out.sl,HB.out⟩
  |false=>
   have HF:Hid (R=q++[x]):=zq (by rw[HQ.out];simp[insL]);obtain⟨hN,hO,hC,h1,hBD⟩:=pushR (f:=inC) (k:=1) (e:=3) 8 x #[.int .i64 x] rfl rfl (qbq _) HO.out HB.out.size (by have:=HK.out.1;omega) (by omega);have hbw:Below w.heap.size w (wv.alloc (.cells #[.int .i64 x] 3)):=HB.out.alloc HB.out.size _;have HBW:=zq hbw;have HLN:=zq HO.out.2;clear hbw;go_wp2_with (with_reducible refine qao (o:=⟨some 46,_,_,_,_,_⟩) rfl (.tmp 43) (.tmp 45) 22 rfl w.heap.size 3 (.int .i64 0) 1 8 Tryz.underlying22 qa0 ?hz20 (by decide) A2 (k) c2 ((q).flatMap inC) ?hs20 hO ⟨wv.heap.size,0,none⟩ 1 1 (inC x) ?hx20 hN hC h1 hBD ?next20)
   all_goals try rfl
   intro A20 c20 v20 ho hg;have HO:=zq (OwR.snoc HLN.out ho.out);have HB:=zq (qai HBW.out HBW.out.size hO.out (Nat.le_refl _) rfl hg.out);clear ho hg hN hO hC h1 hBD HBW HLN;have HLN:=zq HO.out.2;go_wp2;go_ret
   rw[HF.out,HLN.out];exact⟨A20,c20,rfl,HO.out.sl,HB.out⟩
 obtain⟨y,hy⟩:=glZ l (i) (by rw[HL.out];omega);obtain⟨bk,off,rfl,d0⟩:=(HS.out wv HB.out).num hy;have hd:l.drop i=y::l.drop (i+1):=by obtain⟨h1,e⟩:=List.getElem?_eq_some_iff.1 hy;rw[List.drop_eq_getElem_cons h1,e]
 have HD:=zq hd;have HY:=zq hy;clear hd hy;have x1:(i:Int)<n:=by omega
 have x2:(0:Int)<=i:=by omega
 by_cases z0:y=x
 ·subst z0
  have z1:(y==y)=true:=by simp
  have HQ2:Hid (R=(q++[y])++l.drop (i+1)):=zq (by rw[HQ.out,HD.out];cases b<;>simp[insL]);obtain⟨hN,hO,hC,h1,hBD⟩:=pushR (f:=inC) (k:=1) (e:=3) 8 y #[.int .i64 y] rfl rfl (qbq _) HO.out HB.out.size (by have:=HK.out.1;omega) (by omega);have hbw:Below w.heap.size w (wv.alloc (.cells #[.int .i64 y] 3)):=HB.out.alloc HB.out.size _;have HBW:=zq hbw;have HLN:=zq HO.out.2;clear hbw;go_upto_region 11 with fail;go_wp2_with (with_reducible refine qao (o:=⟨some 40,_,_,_,_,_⟩) rfl (.tmp 34) (.tmp 39) 22 rfl w.heap.size 3 (.int .i64 0) 1 8 Tryz.underlying22 qa0 ?hz21 (by decide) A2 (k) c2 ((q).flatMap inC) ?hs21 hO ⟨wv.heap.size,0,none⟩ 1 1 (inC y) ?hx21 hN hC h1 hBD ?next21)
  all_goals try rfl
  intro A21 c21 v21 ho hg;have HO:=zq (OwR.snoc HLN.out ho.out);have HB:=zq (qai HBW.out HBW.out.size hO.out (Nat.le_refl _) rfl hg.out);clear ho hg hN hO hC h1 hBD HBW HLN;go_wp2;go_roundg (k1-1)
  case measure=>omega
  case rel=>
   exact⟨i+1,_,A21,c21,true,_,by omega,by omega,by go_num,rfl,rfl,zq ⟨by have:=HK.out.1;omega,fun h_=>by cases h_⟩,HO,zq (by rw[if_pos rfl];exact HQ2.out),HB⟩
 have z1:(y==x)=false:=by simp[z0]
 cases b with
 |true=>
  have HQ2:Hid (R=(q++[y])++l.drop (i+1)):=zq (by rw[HQ.out,HD.out];simp);obtain⟨hN,hO,hC,h1,hBD⟩:=pushR (f:=inC) (k:=1) (e:=3) 8 y #[.int .i64 y] rfl rfl (qbq _) HO.out HB.out.size (by have:=HK.out.1;omega) (by omega);have hbw:Below w.heap.size w (wv.alloc (.cells #[.int .i64 y] 3)):=HB.out.alloc HB.out.size _;have HBW:=zq hbw;have HLN:=zq HO.out.2;clear hbw;go_upto_region 11 with fail;go_wp2_with (with_reducible refine qao (o:=⟨some 40,_,_,_,_,_⟩) rfl (.tmp 34) (.tmp 39) 22 rfl w.heap.size 3 (.int .i64 0) 1 8 Tryz.underlying22 qa0 ?hz22 (by decide) A2 (k) c2 ((q).flatMap inC) ?hs22 hO ⟨wv.heap.size,0,none⟩ 1 1 (inC y) ?hx22 hN hC h1 hBD ?next22)
  all_goals try rfl
  intro A22 c22 v22 ho hg;have HO:=zq (OwR.snoc HLN.out ho.out);have HB:=zq (qai HBW.out HBW.out.size hO.out (Nat.le_refl _) rfl hg.out);clear ho hg hN hO hC h1 hBD HBW HLN;go_wp2;go_roundg (k1-1)
  case measure=>omega
  case rel=>
   exact⟨i+1,_,A22,c22,true,_,by omega,by omega,by go_num,rfl,rfl,zq ⟨by have:=HK.out.1;omega,fun h_=>by cases h_⟩,HO,zq (by rw[if_pos rfl];exact HQ2.out),HB⟩
 |false=>
  by_cases z2:x<y;rotate_left
  ·have HQ2:Hid (R=(q++[y])++insL x (l.drop (i+1))):=zq (by rw[HQ.out,HD.out];simp[insL,z0,z2])
   obtain⟨hN,hO,hC,h1,hBD⟩:=pushR (f:=inC) (k:=1) (e:=3) 8 y #[.int .i64 y] rfl rfl (qbq _) HO.out HB.out.size (by have:=HK.out.1;omega) (by omega);have hbw:Below w.heap.size w (wv.alloc (.cells #[.int .i64 y] 3)):=HB.out.alloc HB.out.size _;have HBW:=zq hbw;have HLN:=zq HO.out.2;clear hbw;go_upto_region 11 with fail;go_wp2_with (with_reducible refine qao (o:=⟨some 40,_,_,_,_,_⟩) rfl (.tmp 34) (.tmp 39) 22 rfl w.heap.size 3 (.int .i64 0) 1 8 Tryz.underlying22 qa0 ?hz23 (by decide) A2 (k) c2 ((q).flatMap inC) ?hs23 hO ⟨wv.heap.size,0,none⟩ 1 1 (inC y) ?hx23 hN hC h1 hBD ?next23)
   all_goals try rfl
   intro A23 c23 v23 ho hg;have HO:=zq (OwR.snoc HLN.out ho.out);have HB:=zq (qai HBW.out HBW.out.size hO.out (Nat.le_refl _) rfl hg.out);clear ho hg hN hO hC h1 hBD HBW HLN;go_wp2;go_roundg (k1-1)
   case measure=>omega
   case rel=>
    exact⟨i+1,_,A23,c23,false,_,by omega,by omega,by go_num,rfl,rfl,zq ⟨by have:=HK.out.1;omega,fun _=>by have:=HK.out.2 (by first|rfl|trivial);omega⟩,HO,zq (by rw[if_neg (by decide)];exact HQ2.out),HB⟩
  have HQ2:Hid (R=((q++[x])++[y])++l.drop (i+1)):=zq (by rw[HQ.out,HD.out];simp[insL,z0,z2]);skip;obtain⟨hN,hO,hC,h1,hBD⟩:=pushR (f:=inC) (k:=1) (e:=3) 8 x #[.int .i64 x] rfl rfl (qbq _) HO.out HB.out.size (by have:=HK.out.1;omega) (by omega);have hbw:Below w.heap.size w (wv.alloc (.cells #[.int .i64 x] 3)):=HB.out.alloc HB.out.size _;have HBW:=zq hbw;have HLN:=zq HO.out.2;clear hbw;go_wp2_with (with_reducible refine qao (o:=⟨some 33,_,_,_,_,_⟩) rfl (.tmp 30) (.tmp 32) 22 rfl w.heap.size 3 (.int .i64 0) 1 8 Tryz.underlying22 qa0 ?hz24 (by decide) A2 (k) c2 ((q).flatMap inC) ?hs24 hO ⟨wv.heap.size,0,none⟩ 1 1 (inC x) ?hx24 hN hC h1 hBD ?next24)
  all_goals try rfl
  intro A24 c24 v24 ho hg;have HO:=zq (OwR.snoc HLN.out ho.out);have HB:=zq (qai HBW.out HBW.out.size hO.out (Nat.le_refl _) rfl hg.out);clear ho hg hN hO hC h1 hBD HBW HLN;obtain⟨b_,o_,e_,d1⟩:=(HS.out v24 HB.out).num HY.out;injection e_ with e_
  injection e_ with e1_ e2_ _
  subst e1_ e2_;clear d0;obtain⟨k2,hk2⟩:=geZ (k+1);obtain⟨L2,hL2⟩:=geZ (q++[x]);rw[hk2,hL2]at HO;rw[hL2]at HQ2;simp only[hk2];have HKB:=zq (show k2<=i+1/\True from⟨by have:=HK.out.2 (by first|rfl|trivial);omega,trivial⟩);clear hk2 hL2;obtain⟨hN,hO,hC,h1,hBD⟩:=pushR (f:=inC) (k:=1) (e:=3) 8 y #[.int .i64 y] rfl rfl (qbq _) HO.out HB.out.size (by have:=HKB.out.1;omega) (by omega);have hbw:Below w.heap.size w (v24.alloc (.cells #[.int .i64 y] 3)):=HB.out.alloc HB.out.size _;have HBW:=zq hbw;have HLN:=zq HO.out.2;clear hbw;go_upto_region 11 with fail;go_wp2_with (with_reducible refine qao (o:=⟨some 40,_,_,_,_,_⟩) rfl (.tmp 34) (.tmp 39) 22 rfl w.heap.size 3 (.int .i64 0) 1 8 Tryz.underlying22 qa0 ?hz25 (by decide) A24 (k2) c24 ((L2).flatMap inC) ?hs25 hO ⟨v24.heap.size,0,none⟩ 1 1 (inC y) ?hx25 hN hC h1 hBD ?next25)
  all_goals try rfl
  intro A25 c25 v25 ho hg;have HO:=zq (OwR.snoc HLN.out ho.out);have HB:=zq (qai HBW.out HBW.out.size hO.out (Nat.le_refl _) rfl hg.out);clear ho hg hN hO hC h1 hBD HBW HLN;go_wp2;go_roundg (k1-1)
  case measure=>omega
  case rel=>
   exact⟨i+1,_,A25,c25,true,_,by omega,by omega,by go_num,rfl,rfl,zq ⟨by have:=HKB.out.1;omega,fun h_=>by cases h_⟩,HO,zq (by rw[if_pos rfl];exact HQ2.out),HB⟩
theorem rssame_any (l m:List Sn3)(A B:Option Addr)(n c p d:Nat)(w:World)(hl:SlO snC 3 w A n c l)(hm:SlO snC 3 w B p d m)(hn:n<=1048576)(hp:p<=1048576):
  Calls Tryz.prog 22 #[.slice A n c,.slice B p d] w fun r w'=>r= .returned (.bool (sameN l m))/\Below w.heap.size w w':=by
 have HL:=zq hl;have HM:=zq hm;have HQ:=zq (fun x y=>neq_sn15 x y);obtain⟨R,hR⟩:=geZ (sameN l m);have HR:=zq hR;rw[hR];clear hR hl hm;by_cases hnp:n=p;rotate_left
 ·have HF:Hid (R=false):=zq (by
   rw[<-HR.out]
   cases hq:sameN l m with
   |false=>rfl
   |true=>exact absurd (by rw[<-HL.out.1,(qd7 l m).1 hq,HM.out.1]) hnp)
  have z0:((n:Int) !=p)=true:=by simp;omega
  have z1:((n:Int)==p)=false:=by simp;omega
  have z2: ¬(n:Int)=p:=by omega
  clear hnp;go_enter Tryz.func22,Tryz.ntmps22;go_wp2;go_ret
  exact⟨by rw[HF.out];rfl,Below.refl _ _⟩
 subst hnp;have z0:((n:Int) !=n)=false:=by simp
 go_enter Tryz.func22,Tryz.ntmps22;go_wp2;go_loopg [5] n (fun kk v5 wl=> ∃i j:Nat,i<=n/\n-i<=kk/\v5= .int .i64 i/\Hid (∀j x y,j<i->l[j]?=some x->m[j]?=some y->x=y)/\wl=w.drewN j)
 case atStart=>exact⟨0,0,by omega,by omega,rfl,zq fun j x y h=>absurd h (by omega),rfl⟩
 obtain⟨i,nq,hi,hik,rfl,HNO,rfl⟩:=hrel;by_cases hlt:i<n;rotate_left
 ·have x1: ¬(i:Int)<n:=by omega
  have HF:Hid (R=true):=zq (by
   rw[<-HR.out,qd7];refine List.ext_getElem? fun j=>?_;by_cases hj:j<n
   ·have h1:=List.getElem?_eq_getElem (l:=l) (i:=j) (by rw[HL.out.1];exact hj)
    have h2:=List.getElem?_eq_getElem (l:=m) (i:=j) (by rw[HM.out.1];exact hj);rw[h1,h2,HNO.out j _ _ (by omega) h1 h2]
   ·rw[List.getElem?_eq_none (by rw[HL.out.1];omega),List.getElem?_eq_none (by rw[HM.out.1];omega)])
  go_wp2;go_ret
  exact⟨by rw[HF.out];rfl,qac (Below.refl _ _) _⟩
 obtain⟨x,hx⟩:=glZ l (i) (by rw[HL.out.1];omega);obtain⟨y,hy⟩:=glZ m (i) (by rw[HM.out.1];omega);obtain⟨bk,off,rfl,d0,d1,d2⟩:=HL.out.span hx;obtain⟨bm,om,rfl,f0,f1,f2⟩:=HM.out.span hy;have HX:=zq hx;have HY:=zq hy;clear hx hy;have x1:(i:Int)<n:=by omega
 have x2:(0:Int)<=i:=by omega
 have q1:=HQ.out x y;generalize hb:eqN x y=b at*;have HBE:=zq hb;clear hb;unfold snA at q1;go_upto_region 6 with fail
 cases b with
 |false=>
  have HF:Hid (R=false):=zq (by
   rw[<-HR.out]
   cases hq:sameN l m with
   |false=>rfl
   |true=>
    have h1:=(qd7 l m).1 hq;have h2:=HX.out;rw[h1,HY.out]at h2;injection h2 with h2
    have h3:=HBE.out;rw[h2,(eqN_iff x x).2 rfl]at h3
    cases h3)
  go_quiet (fail);go_wp2;go_ret
  exact⟨by rw[HF.out];rfl,by first|exact qac (Below.refl _ _) _|(rw[World.drewN_drewN];exact qac (Below.refl _ _) _)⟩
 |true=>
  have HE:Hid (x=y):=zq ((eqN_iff x y).1 HBE.out);go_quiet (fail);go_wp2;go_roundg (gk-1)
  case measure=>omega
  case rel=>
   refine⟨i+1,_,by omega,by omega,by go_num,zq fun j x' y' hj hx hy=>?_,by first|rfl|rw[World.drewN_drewN]⟩;by_cases hji:j=i
   ·subst hji;rw[HX.out]at hx;rw[HY.out]at hy;injection hx with hx;injection hy with hy;rw[<-hx,<-hy];exact HE.out
   ·exact HNO.out j x' y' (by omega) hx hy
end
end Go.Proofs.YtahadmeilajdgaaGreatDoor
