/-
  Our own text, joined.
-/
import Derived.Test.YtahadmeilajdgaaGreatDoorMrac
import Derived.BigQuiet
import Derived.IntWalk
import Derived.Test.YtahadmeilajdgaaGreatDoorMraa
import Derived.ProofKit
import Derived.OpenShut
import Derived.Deep.Slices
import Derived.Lib.SmallJoins
import Derived.ChangeArms
import Derived.Test.YtahadmeilajdgaaGreatDoorMrab
namespace Go.Proofs.YtahadmeilajdgaaGreatDoor
set_option maxRecDepth 100000
set_option maxHeartbeats 8000000
section
open Go.RowKit
open Go.Great
theorem rmay_any (t:Tp3)(a:TpA)(sa sb:St3)(w:World)(hj:SlO jtC 4 w a.aj t.joints.length a.cj t.joints)(hn:t.joints.length<=1048576):
  Calls Tryz.prog 53 #[.agg (tpC t a),.agg (stA13 sa),.agg (stA13 sb)] w fun e w'=>e= .returned (.bool (mayT t sa sb))/\Below w.heap.size w w':=by
 obtain⟨wa,hwa,hbwa,HWA,HBWA,h0,h1,h2⟩:=bx3Z w 27 (tpC t a) 30 (stA13 sa) 30 (stA13 sb);have HJ:=zq (fun W (hW:Below w.heap.size w W)=>hj.under hW);have H0:=zq h0;have H1:=zq h1;have H2:=zq h2;clear hwa hbwa h0 h1 h2 hj;obtain⟨q,hq⟩:=geZ (mayT t sa sb);have HQ:=zq hq;rw[hq];clear hq;go_enter Tryz.func53,Tryz.ntmps53;go_upto_region 1 with fail;rw[HWA.out];clear HWA;refine wp_region_held_drew (S:=(fun W_=>Has W_ (w.heap.size) 27 (tpC t a)/\Has W_ (w.heap.size+1) 30 (stA13 sa)/\Has W_ (w.heap.size+1+1) 30 (stA13 sb)/\Below w.heap.size w W_)) (by kernel_rfl) ?_ (fun hHeld=>?_)
 ·exact⟨H0.out.draw,H1.out.draw,H2.out.draw,qah HBWA.out⟩
 refine tkZ 0 7 (h:=?_);simp only[lyZ];refine tqZ 1 8 (fun w_ hSw=>(show w_.cell? ⟨w.heap.size,1,none⟩=some (.slice a.aj t.joints.length a.cj:Value)from by have h_:=hSw.1.cell 1;exact h_)) (h:=?_);simp only[lyZ];refine tlZ 2 9 (w.heap.size+1) (stA13 sa) (fun _ ⟨_,h_,_,_⟩=>h_) (h:=?_);simp only[lyZ];refine tlZ 4 11 (w.heap.size+1+1) (stA13 sb) (fun _ ⟨_,_,h_,_⟩=>h_) (h:=?_);simp only[lyZ];refine rdZ [3] ?_;refine acZ (some 10) (fun K hK=>?_) ?_
 ·go_simp
  obtain⟨s0,s1,s2,s3⟩:=hHeld;refine(rout_any sa _).mono ?_;rintro e_ vs ⟨rfl,hbs⟩;go_wp2_with fail;refine hK.out _ _ ?_ (fun hHeld=>?_)
  ·exact⟨s0.u hbs,s1.u hbs,s2.u hbs,bu s3 hbs⟩
  clear hK K s0 s1 s2 s3
  try simp only[lyZ]
  refine rdZ [5] ?_;refine acZ (some 12) (fun K hK=>?_) ?_
  ·go_simp
   obtain⟨s0,s1,s2,s3⟩:=hHeld;refine(rin_any sb _).mono ?_;rintro e_ vs ⟨rfl,hbs⟩;go_wp2_with fail;refine hK.out _ _ ?_ (fun hHeld=>?_)
   ·exact⟨s0.u hbs,s1.u hbs,s2.u hbs,bu s3 hbs⟩
   clear hK K s0 s1 s2 s3
   try simp only[lyZ]
   refine rdZ [6] ?_;refine acZ (some 13) (fun K hK=>?_) ?_
   ·go_simp
    obtain⟨s0,s1,s2,s3⟩:=hHeld;refine(qfA _ _ _ _ _ _ _ (HJ.out _ s3) hn).mono ?_;rintro e_ vs ⟨rfl,hbs⟩;go_wp2_with fail;refine hK.out _ _ ?_ (fun hHeld=>?_)
    ·exact⟨s0.u hbs,s1.u hbs,s2.u hbs,bu s3 hbs⟩
    clear hK K s0 s1 s2 s3
    try simp only[lyZ]
    refine tkZ 7 6 (h:=?_);simp only[lyZ];refine dnZ ?_;go_wp2_with fail;go_ret
    exact⟨by first|exact congrArg (fun b_=>Ending.returned (.bool b_)) HQ.out|(rw[<-HQ.out];rfl),hHeld.2.2.2⟩
   exact AllReadyH.nil
  exact AllReadyH.nil
 exact AllReadyH.nil
theorem qdT (t:Tp3)(a:TpA)(path:List St3)(A:Option Addr)(n c:Nat)(w:World)(ht:TopR w t a)(hp:SlO stC 2 w A n c path)(hn:n<=1048576)(hj:t.joints.length<=100)(hok:qaF t=true):
  Calls Tryz.prog 138 #[.agg (tpC t a),.slice A n c] w fun e w'=>e= .returned (.tuple #[.int .i64 (lenN t path),.int .i64 (lenE t path)])/\Below w.heap.size w w':=by
 obtain⟨wa,hwa,hbwa,HWA,HBWA,h0⟩:=bx1Z w 27 (tpC t a);have H0:=zH h0;have HT:=zq (fun W (hW:Below w.heap.size w W)=>ht.under hW);have HP:=zq (fun W (hW:Below w.heap.size w W)=>hp.under hW);have HBA:=zq (fun W (hW:Below wa.heap.size wa W)=>hbwa.trans (hW.mono hbwa.size));have HL:=zq hp.1;have HOK:=zq hok;obtain⟨rN,hrN⟩: ∃r,lenN t path=r:=⟨_,rfl⟩
 obtain⟨rE,hrE⟩: ∃r,lenE t path=r:=⟨_,rfl⟩
 have HRN:=zq hrN;have HRE:=zq hrE;rw[hrN,hrE];clear hwa hbwa h0 ht hp hok hrN hrE;by_cases hz:n=0
 ·have x1:(n:Int)=0:=by omega
  go_enter Tryz.func138,Tryz.ntmps138;skip;go_wp2;go_ret2
  have hN:rN=0:=by rw[<-HRN.out];unfold lenN;rw[if_neg (by unfold lenE;rw[if_pos (by have:=HL.out;omega)];decide)]
  have hE:rE=1:=by rw[<-HRE.out];unfold lenE;rw[if_pos (by have:=HL.out;omega)]
  subst hN hE;exact⟨rfl,by rw[HWA.out];exact HBWA.out⟩
 by_cases hf:40<n
 ·have x1: ¬(n:Int)=0:=by omega
  have x2:(40:Int)<n:=by omega
  go_enter Tryz.func138,Tryz.ntmps138;go_wp2;go_ret2
  have hN:rN=0:=by rw[<-HRN.out];unfold lenN;rw[if_neg (by unfold lenE;rw[if_pos (by have:=HL.out;omega)];decide)]
  have hE:rE=1:=by rw[<-HRE.out];unfold lenE;rw[if_pos (by have:=HL.out;omega)]
  subst hN hE;exact⟨rfl,by rw[HWA.out];exact HBWA.out⟩
 have x1: ¬(n:Int)=0:=by omega
 have x2: ¬(40:Int)<n:=by omega
 go_enter Tryz.func138,Tryz.ntmps138;go_upto_region 3 with fail;rw[HWA.out];clear HWA;have HNZ:=zq (show n≠0/\n<=40 from⟨hz,by omega⟩);have hz2:((n:Int)==0)=false:=by simp[hz]
 simp only[hz2];clear hz2;clear x1 x2 hz hf;go_wp2;go_loopg [6,7] n (fun kk v6 v7 wl=> ∃i:Nat,i<=n/\n-i<=kk/\v7= .int .i64 i/\v6= .int .i64 (sumT t (path.take i))/\Hid (∀s∈path.take i,edgeB t s.edge=true)/\Below wa.heap.size wa wl)
 case atStart=>exact⟨0,by omega,by omega,rfl,by simp[sumT],zq (by simp),Below.refl _ _⟩
 obtain⟨i,hi,hik,rfl,rfl,HED,hwr⟩:=hrel;have HWR:=zq hwr;by_cases hlt:i<n;rotate_left
 ·obtain rfl:i=n:=by omega
  have x1: ¬(i:Int)<i:=by omega
  have hti:path.take i=path:=List.take_of_length_le (by have:=HL.out;omega);have HALL:Hid (∀s∈path,edgeB t s.edge=true):=zq (by have h_:=HED.out;rw[hti]at h_;exact h_);rw[hti];clear hti HED hi hik hwr;go_upto_region 11 with fail;clear x1;go_wp2;go_loopg [9] i (fun kk v wl=> ∃m:Nat,1<=m/\m<=i/\i-m<=kk/\v= .int .i64 m/\Hid (∀k a b,k+1<m->path[k]?=some a->path[k+1]?=some b->mayT t a b=true)/\Below wa.heap.size wa wl)
  case atStart=>exact⟨1,by omega,by have:=HNZ.out;omega,by omega,rfl,zq (fun k a b h=>absurd h (by omega)),HWR.out⟩
  obtain⟨m,hm1,hm,hmk,rfl,HMA,hwm⟩:=hrel;have HWM:=zq hwm;by_cases hml:m<i;rotate_left
  ·obtain rfl:m=i:=by omega
   have x1: ¬(m:Int)<m:=by omega
   clear hm hmk hwm;go_wp2;go_ret2
   have h0_:lenE t path=0:=(by unfold lenE;rw[if_neg (by have h1_:=HL.out;have h2_:=HNZ.out;omega),if_pos (List.all_eq_true.2 HALL.out),if_pos (qgw.2 fun k a b ha hb=>HMA.out k a b (by have h1_:=(List.getElem?_eq_some_iff.1 hb).1;have h2_:=HL.out;omega) ha hb)])
   have hN:rN=sumT t path:=by rw[<-HRN.out];unfold lenN;rw[if_pos h0_]
   have hE:rE=0:=by rw[<-HRE.out];exact h0_
   subst hN hE;exact⟨rfl,HBA.out _ HWM.out⟩
  obtain⟨x,hx⟩:=glZ path (m-1) (by have:=HL.out;omega);obtain⟨y,hy⟩:=glZ path (m) (by have:=HL.out;omega);have HX:=zq hx;have HY:=zq hy;obtain⟨bk,off,rfl,-,-⟩:=(HP.out w (Below.refl _ _)).step hx;have HCX:=zq (fun W (hW:Below w.heap.size w W)=>(show W.cell? ⟨bk,off+(m-1)*2,none⟩=some (.int .i64 x.edge)/\W.cell? ⟨bk,off+(m-1)*2+1,none⟩=some (.bool x.rev)from by obtain⟨b_,o_,e_,h1_,h2_⟩:=(HP.out W hW).step hx;injection e_ with e_;injection e_ with e1_ e2_ _;subst e1_ e2_;exact⟨h1_,h2_⟩));have HCY:=zq (fun W (hW:Below w.heap.size w W)=>(show W.cell? ⟨bk,off+m*2,none⟩=some (.int .i64 y.edge)/\W.cell? ⟨bk,off+m*2+1,none⟩=some (.bool y.rev)from by obtain⟨b_,o_,e_,h1_,h2_⟩:=(HP.out W hW).step hy;injection e_ with e_;injection e_ with e1_ e2_ _;subst e1_ e2_;exact⟨h1_,h2_⟩));obtain⟨bq,hbq⟩: ∃b,mayT t x y=b:=⟨_,rfl⟩
  have HBQ:=zq hbq;have hw1:IntKind.i64.wrap ((m:Int)-1)=(m:Int)-1:=by have:=HNZ.out;rw[IntKind.wrap_i64];omega
  have hw2:((m:Int)-1).toNat=m-1:=by omega
  have y0:(0:Int)<=(m:Int)-1:=by omega
  have y1:(m:Int)-1<i:=by omega
  have y2:(0:Int)<=(m:Int):=by omega
  have y4:(1:Int)<=(m:Int):=by omega
  have y3:(m:Int)<i:=by omega
  clear hx hy hwm hbq;go_upto_region 14 with fail;refine wp_region_held_drew (S:=(fun W_=>Has W_ (w.heap.size) 27 (tpC t a)/\Below wr.heap.size wr W_)) (by kernel_rfl) ?_ (fun hHeld=>?_)
  ·exact⟨(H0.out _ HWM.out).draw,qah (Below.refl _ _)⟩
  refine tlZ 0 51 w.heap.size (tpC t a) (fun _ ⟨h_,_⟩=>h_) (h:=?_);simp only[lyZ];refine tkZ 1 52 (h:=?_);simp only[lyZ];refine tkZ 2 53 (h:=?_);simp only[lyZ];refine tkZ 3 54 (h:=?_);simp only[lyZ];refine tkZ 4 55 (h:=?_);simp only[lyZ];refine tqZ 5 56 (fun w_ hSw=>HCX.out w_ (HBA.out w_ (HWM.out.trans (hSw.2.mono HWM.out.size)))) (h:=?_);simp only[lyZ];refine tkZ 6 57 (h:=?_);simp only[lyZ];refine tkZ 7 58 (h:=?_);simp only[lyZ];refine tkZ 8 59 (h:=?_);simp only[lyZ];refine tqZ 9 60 (fun w_ hSw=>HCY.out w_ (HBA.out w_ (HWM.out.trans (hSw.2.mono HWM.out.size)))) (h:=?_);simp only[lyZ];refine rdZ [10] ?_;refine acZ (some 61) (fun K hK=>?_) ?_
  ·go_simp
   obtain⟨s0,s1⟩:=hHeld;have hlo_:=HBA.out _ (bu HWM.out s1);refine(rmay_any t a x y _ (HT.out _ hlo_).j (by omega)).mono ?_;rw[HBQ.out];rintro e_ vs ⟨rfl,hbs⟩;go_wp2_with fail;refine hK.out _ _ ?_ (fun hHeld=>?_)
   ·exact⟨s0.u hbs,bu s1 hbs⟩
   clear hK K s0 s1
   try simp only[lyZ]
   refine tkZ 11 10 (h:=?_);simp only[lyZ];refine dnZ ?_;clear hw1 hw2 y0 y1 y2 y3 y4
   cases bq with
   |false=>
    go_wp2;go_ret2
    have h1_:lenE t path=141:=by unfold lenE;rw[if_neg (by have h1_:=HL.out;have h2_:=HNZ.out;omega),if_pos (List.all_eq_true.2 HALL.out),if_neg (fun h=>by have h_:=qgw.1 h (m-1) x y HX.out (by rw[show m-1+1=m by omega];exact HY.out);rw[HBQ.out]at h_;cases h_)]
    have hN:rN=0:=by rw[<-HRN.out];unfold lenN;rw[h1_];rfl
    have hE:rE=141:=by rw[<-HRE.out];exact h1_
    subst hN hE;exact⟨rfl,HBA.out _ (HWM.out.trans (hHeld.2.mono HWM.out.size))⟩
   |true=>
    go_wp2;go_roundg (gk-1)
    case measure=>omega
    case rel=>
     refine⟨m+1,by omega,by omega,by omega,by go_num,zq (fun k a' b' hk ha hb=>?_),HWM.out.trans (hHeld.2.mono HWM.out.size)⟩;by_cases hkm:k+1=m
     ·have e_:k=m-1:=by omega
      rw[e_,HX.out]at ha;rw[hkm,HY.out]at hb;injection ha with ha
      injection hb with hb
      rw[<-ha,<-hb];exact HBQ.out
     ·exact HMA.out k a' b' (by omega) ha hb
  exact AllReadyH.nil
 obtain⟨x,hx⟩:=glZ path (i) (by have:=HL.out;omega);have HX:=zq hx;obtain⟨bk,off,rfl,-,-⟩:=(HP.out w (Below.refl _ _)).step hx;have HCX:=zq (fun W (hW:Below w.heap.size w W)=>(show W.cell? ⟨bk,off+i*2,none⟩=some (.int .i64 x.edge)from by obtain⟨b_,o_,e_,h1_,h2_⟩:=(HP.out W hW).step hx;injection e_ with e_;injection e_ with e1_ e2_ _;subst e1_ e2_;exact h1_));obtain⟨bq,hbq⟩: ∃b,edgeB t x.edge=b:=⟨_,rfl⟩
 have HBQ:=zq hbq;have y0:(0:Int)<=(i:Int):=by omega
 have y1:(i:Int)<n:=by omega
 clear hx hbq hwr;obtain⟨sv,hsv⟩: ∃s,sumT t (path.take i)=s:=⟨_,rfl⟩
 have HSV:=zq hsv;simp only[hsv];clear hsv;go_upto_region 7 with fail;refine wp_region_held_drew (S:=(fun W_=>Has W_ (w.heap.size) 27 (tpC t a)/\Below wr.heap.size wr W_)) (by kernel_rfl) ?_ (fun hHeld=>?_)
 ·exact⟨(H0.out _ HWR.out).draw,qah (Below.refl _ _)⟩
 refine tlZ 0 25 w.heap.size (tpC t a) (fun _ ⟨h_,_⟩=>h_) (h:=?_);simp only[lyZ];refine tkZ 1 26 (h:=?_);simp only[lyZ];refine tkZ 2 27 (h:=?_);simp only[lyZ];refine tkZ 3 28 (h:=?_);simp only[lyZ];refine tkZ 4 29 (h:=?_);simp only[lyZ];refine tqZ 5 30 (fun w_ hSw=>HCX.out w_ (HBA.out w_ (HWR.out.trans (hSw.2.mono HWR.out.size)))) (h:=?_);simp only[lyZ];refine rdZ [6] ?_;refine acZ (some 31) (fun K hK=>?_) ?_
 ·go_simp
  obtain⟨s0,s1⟩:=hHeld;refine(qdl t a x.edge _).mono ?_;rw[HBQ.out];rintro e_ vs ⟨rfl,hbs⟩;go_wp2_with fail;refine hK.out _ _ ?_ (fun hHeld=>?_)
  ·exact⟨s0.u hbs,bu s1 hbs⟩
  clear hK K s0 s1
  try simp only[lyZ]
  refine tkZ 7 8 (h:=?_);simp only[lyZ];refine dnZ ?_;have HBE:=zq (HWR.out.trans (hHeld.2.mono HWR.out.size));have HH0:=zq hHeld.1;clear hHeld
  cases bq with
  |false=>
   go_wp2;go_ret2
   have h1_:lenE t path=1:=by unfold lenE;rw[if_neg (by have h1_:=HL.out;have h2_:=HNZ.out;omega),if_neg (fun h=>by have h_:=List.all_eq_true.1 h x (List.mem_of_getElem? HX.out);rw[HBQ.out]at h_;cases h_)]
   have hN:rN=0:=by rw[<-HRN.out];unfold lenN;rw[h1_];rfl
   have hE:rE=1:=by rw[<-HRE.out];exact h1_
   subst hN hE;exact⟨rfl,HBA.out _ HBE.out⟩
  |true=>
   have hed:0<=x.edge/\x.edge<t.edges.length:=by have h_:=HBQ.out;unfold edgeB at h_;simpa using h_
   obtain⟨e,hee⟩: ∃e:Nat,x.edge=e:=⟨x.edge.toNat,by omega⟩
   have hel:e<t.edges.length:=by omega
   have cx:=HCX.out _ (HBA.out _ HBE.out);rw[hee]at cx;obtain⟨be,oe,hae,ce⟩:=(HT.out _ (HBA.out _ HBE.out)).e.edge hel;have c0:=HH0.out.cell 0;have HLA:=zq (show lenAt t x=t.edges.getD e 0 from by unfold lenAt;rw[hee];rfl);have HLB:=zq (qa2 HOK.out HBQ.out);obtain⟨q,hq⟩:=geZ (t.edges.getD e 0);rw[hq]at HLA ce;have HSB:=zq (qcw HOK.out HED.out);have hl0:(path.take i).length<=40:=by have:=HNZ.out;rw[List.length_take];omega
   have hs:0<=sv/\sv<=40000000:=by have h_:=HSB.out;rw[HSV.out]at h_;omega
   have hq2:1<=q/\q<=1000000:=by have h_:=HLB.out;rw[HLA.out]at h_;exact h_
   have hwr1:IntKind.i64.wrap (sv+q)=sv+q:=by rw[IntKind.wrap_i64];omega
   have c0':vs.cell? ⟨w.heap.size,0,none⟩=some (.slice (some ⟨be,oe,none⟩) t.edges.length a.ce):=by first|exact c0.trans (by rw[<-hae];rfl)|(rw[<-hae];exact c0)
   have z0:(0:Int)<=e:=by omega
   have z1:(e:Int)<t.edges.length:=by omega
   obtain⟨me,hme⟩: ∃m,t.edges.length=m:=⟨_,rfl⟩
   have HME:=zq hme;rw[hme]at c0' z1;clear c0 hed hel hq HLB HSB hs hq2 hme hl0;go_upto_region 10 with fail;go_quiet (fail);go_wp2;go_roundg (gk-1)
   case measure=>omega
   case rel=>
    refine⟨i+1,by omega,by omega,by go_num,?_,zq (fun s hs=>?_),qaa HBE.out _⟩
    ·rw[List.take_add_one,HX.out,qfI,HSV.out]
     show _=Value.int .i64 (sv+(lenAt t x+0))
     rw[HLA.out,Int.add_zero]
    ·rw[List.take_add_one,HX.out]at hs
     rcases List.mem_append.1 hs with h|h
     ·exact HED.out s h
     ·rw[List.mem_singleton.1 h];exact HBQ.out
 exact AllReadyH.nil
end
section
open Go.RowKit
open Go.Great
theorem qfe {α:Type}{p:α->Bool}{l:List α}{i:Nat}{x:α}(hx:l[i]?=some x)(hp:p x=true)(hno: ∀m y,m<i->l[m]?=some y->p y=false):l.find? p=some x:=by
 induction l generalizing i with
 |nil=>simp at hx
 |cons a r ih=>
  cases i with
  |zero=>
   simp at hx;subst hx;exact List.find?_cons_of_pos hp
  |succ k=>
   rw[List.find?_cons_of_neg (by rw[hno 0 a (by omega) rfl];decide)];exact ih (i:=k) (by simpa using hx) fun m y hm hy=>hno (m+1) y (by omega) (by simpa using hy)
theorem qdK {α:Type}{p:α->Bool}{l:List α}(hno: ∀m y,m<l.length->l[m]?=some y->p y=false):l.find? p=none:=by
 rw[List.find?_eq_none];intro y hy;obtain⟨m,hm,rfl⟩:=List.getElem_of_mem hy;rw[hno m _ hm (List.getElem?_eq_getElem hm)]
 decide
instance : DecidableEq St3 := fun a b => decidable_of_iff (eqS a b = true) (qaI a b)
theorem RtsR.at2 {w w':World}{A:Option Addr}{n c:Nat}{rs:List Rt3}(h:RtsR w A n c rs)(hb:Below w.heap.size w w'){j:Nat}{r:Rt3}(hr:rs[j]?=some r):
  ∃b off PA pc,A=some ⟨b,off,none⟩/\SlO stC 2 w PA r.path.length pc r.path/\w'.cell? ⟨b,off+j*4,none⟩=some (.int .i64 r.id)/\w'.cell? ⟨b,off+j*4+1,none⟩=some (.slice PA r.path.length pc)/\w'.cell? ⟨b,off+j*4+2,none⟩=some (.int .i64 r.gap)/\w'.cell? ⟨b,off+j*4+3,none⟩=some (.int .i64 r.timer):=by
 obtain⟨l,rfl,h2,h3⟩:=h;rw[List.getElem?_map]at hr;obtain⟨p,hp,rfl⟩:=Option.map_eq_some_iff.1 hr;obtain⟨b,off,e,hc⟩:=(h2.under hb).at_ (fun _=>rfl) (by decide) hp;obtain⟨⟨PA,pc,ev,hs⟩,_⟩:=h3 p (List.mem_of_getElem? hp);have h1:=hc 1 p.2 rfl;rw[ev]at h1;exact⟨b,off,PA,pc,e,hs,hc 0 _ rfl,h1,hc 2 _ rfl,hc 3 _ rfl⟩
def rtA (r:Rt3)(v:Value):Array Value:=#[.int .i64 r.id,v,.int .i64 r.gap,.int .i64 r.timer]
def balR (t:Tp3)(id:Int):Bl3:=(balF t id).getD ⟨0,0,0⟩
def qbd (t:Tp3)(id:Int):Rt3:=(qaR t id).getD ⟨0,[],0,0⟩
theorem rbal_any (t:Tp3)(a:TpA)(id:Int)(w:World)(ht:TopR w t a)(hn:t.bals.length<=1048576):
  Calls Tryz.prog 119 #[.agg (tpC t a),.int .i64 id] w fun e w'=>e= .returned (.tuple #[.agg (blA (balR t id)),.bool (balF t id).isSome])/\Below w.heap.size w w':=by
 obtain⟨wa,hwa,hbwa,HWA,HBWA,h0,h1⟩:=bx2Z w 27 (tpC t a) 151 #[.int .i64 0,.int .i64 0,.int .i64 0];have HS:=zq (ht.under hbwa).b;have HZ:=zq h1;have c2:wa.cell? ⟨w.heap.size,2,none⟩=some (.slice a.ab t.bals.length a.cb):=h0.cell 2;clear hwa hbwa h0 h1 ht;obtain⟨n,hnn⟩:=geZ (t.bals.length);have HN:=zq hnn;rw[hnn]at hn c2;clear hnn;go_enter Tryz.func119,Tryz.ntmps119;go_upto_region 1 with fail;rw[HWA.out];clear HWA;go_wp2;go_loopg [6] n (fun kk v wl=> ∃i:Nat,i<=n/\n-i<=kk/\v= .int .i64 i/\Hid (∀m y,m<i->t.bals[m]?=some y->(y.id==id)=false)/\wl=wa)
 case atStart=>exact⟨0,by omega,by omega,rfl,zq fun m y h=>absurd h (by omega),rfl⟩
 obtain⟨i,hi,hik,rfl,HNO,rfl⟩:=hrel;by_cases hlt:i<n;rotate_left
 ·have x1: ¬(i:Int)<n:=by omega
  have HF:=zq (show balF t id=none from qdK fun m y hm hy=>HNO.out m y (by have:=HN.out;omega) hy);have HR:=zq (qab HZ.out #[.int .i64 0,.int .i64 0,.int .i64 0]);have HBF:=zq (qac (g:=w.heap.size+1) HBWA.out (by omega) #[.int .i64 0,.int .i64 0,.int .i64 0]);go_wp2_with (with_reducible refine stZ #[.int .i64 0,.int .i64 0,.int .i64 0] HZ.out ?_);refine rtZ HR.out ?_;have e1_:balR t id=⟨0,0,0⟩:=by unfold balR;rw[HF.out];rfl
  have e2_:(balF t id).isSome=false:=by rw[HF.out];rfl
  rw[e1_,e2_];exact⟨rfl,HBF.out⟩
 obtain⟨x,hx⟩: ∃x,t.bals[i]?=some x:=⟨_,List.getElem?_eq_getElem (by rw[HN.out];omega)⟩
 have HX:=zq hx;obtain⟨bk,off,hab,d0,d1,d2⟩:=HS.out.bal hx;rw[hab]at c2;have y0:(0:Int)<=i:=by omega
 have y1:(i:Int)<n:=by omega
 obtain⟨u,hu⟩:=geZ (x.id);have HU:=zq hu;rw[hu]at d0;clear hx hu;by_cases hui:u=id
 ·subst hui
  have HF:=zq (show balF t u=some x from qfe HX.out (by show(x.id==u)=true;rw[HU.out];simp) HNO.out);have HR:=zq (qab HZ.out #[.int .i64 u,.int .i64 x.edge,.int .i64 x.at_]);have HBF:=zq (qac (g:=w.heap.size+1) HBWA.out (by omega) #[.int .i64 u,.int .i64 x.edge,.int .i64 x.at_]);go_wp2_with (with_reducible refine stZ #[.int .i64 u,.int .i64 x.edge,.int .i64 x.at_] HZ.out ?_);refine rtZ HR.out ?_;have e1_:balR t u=x:=by unfold balR;rw[HF.out];rfl
  have e2_:(balF t u).isSome=true:=by rw[HF.out];rfl
  rw[e1_,e2_];unfold blA;rw[HU.out];exact⟨rfl,HBF.out⟩
 have e1:(u==id)=false:=by simp[hui]
 go_wp2;go_roundg (gk-1)
 case measure=>omega
 case rel=>
  refine⟨i+1,by omega,by omega,by go_num,zq (fun m y hm hy=>?_),rfl⟩;by_cases hmi:m=i
  ·subst hmi
   rw[HX.out]at hy;injection hy with hy
   rw[<-hy,HU.out];exact e1
  ·exact HNO.out m y (by omega) hy
theorem rroute_any (t:Tp3)(a:TpA)(id:Int)(w:World)(ht:TopR w t a)(hn:t.routes.length<=1048576):
  Calls Tryz.prog 51 #[.agg (tpC t a),.int .i64 id] w fun e w'=> ∃v,PathV w' v (qbd t id).path/\e= .returned (.tuple #[.agg (rtA (qbd t id) v),.bool (qaR t id).isSome])/\Below w.heap.size w w':=by
 obtain⟨wa,hwa,hbwa,HWA,HBWA,h0,h1⟩:=bx2Z w 27 (tpC t a) 75 #[.int .i64 0,.slice none 0 0,.int .i64 0,.int .i64 0];have HS:=zq ht.r;have HZ:=zq h1;have c2:wa.cell? ⟨w.heap.size,3,none⟩=some (.slice a.ar t.routes.length a.cr):=h0.cell 3;clear hwa hbwa h0 h1 ht;obtain⟨n,hnn⟩:=geZ (t.routes.length);have HN:=zq hnn;rw[hnn]at hn c2;clear hnn;go_enter Tryz.func51,Tryz.ntmps51;go_upto_region 1 with fail;rw[HWA.out];clear HWA;go_wp2;go_loopg [6] n (fun kk v wl=> ∃i:Nat,i<=n/\n-i<=kk/\v= .int .i64 i/\Hid (∀m y,m<i->t.routes[m]?=some y->(y.id==id)=false)/\wl=wa)
 case atStart=>exact⟨0,by omega,by omega,rfl,zq fun m y h=>absurd h (by omega),rfl⟩
 obtain⟨i,hi,hik,rfl,HNO,rfl⟩:=hrel;by_cases hlt:i<n;rotate_left
 ·have x1: ¬(i:Int)<n:=by omega
  have HF:=zq (show qaR t id=none from qdK fun m y hm hy=>HNO.out m y (by have:=HN.out;omega) hy);have HR:=zq (qab HZ.out #[.int .i64 0,.slice none 0 0,.int .i64 0,.int .i64 0]);have HBF:=zq (qac (g:=w.heap.size+1) HBWA.out (by omega) #[.int .i64 0,.slice none 0 0,.int .i64 0,.int .i64 0]);go_wp2_with (with_reducible refine stZ #[.int .i64 0,.slice none 0 0,.int .i64 0,.int .i64 0] HZ.out ?_);refine rtZ HR.out ?_;have e1_:qbd t id=⟨0,[],0,0⟩:=by unfold qbd;rw[HF.out];rfl
  have e2_:(qaR t id).isSome=false:=by rw[HF.out];rfl
  rw[e1_,e2_];exact⟨.slice none 0 0,⟨none,0,rfl,SlO.nil _ _ _⟩,rfl,HBF.out⟩
 obtain⟨x,hx⟩: ∃x,t.routes[i]?=some x:=⟨_,List.getElem?_eq_getElem (by rw[HN.out];omega)⟩
 have HX:=zq hx;obtain⟨bk,off,PA,pc,hab,hpa,d0,d1,d2,d3⟩:=HS.out.at2 HBWA.out hx;have HPA:=zq hpa;clear hpa;rw[hab]at c2;have y0:(0:Int)<=i:=by omega
 have y1:(i:Int)<n:=by omega
 obtain⟨u,hu⟩:=geZ (x.id);have HU:=zq hu;rw[hu]at d0;clear hx hu;by_cases hui:u=id
 ·subst hui
  have HF:=zq (show qaR t u=some x from qfe HX.out (by show(x.id==u)=true;rw[HU.out];simp) HNO.out);have HR:=zq (qab HZ.out #[.int .i64 u,.slice PA x.path.length pc,.int .i64 x.gap,.int .i64 x.timer]);have HBF:=zq (qac (g:=w.heap.size+1) HBWA.out (by omega) #[.int .i64 u,.slice PA x.path.length pc,.int .i64 x.gap,.int .i64 x.timer]);go_wp2_with (with_reducible refine stZ #[.int .i64 u,.slice PA x.path.length pc,.int .i64 x.gap,.int .i64 x.timer] HZ.out ?_);refine rtZ HR.out ?_;have e1_:qbd t u=x:=by unfold qbd;rw[HF.out];rfl
  have e2_:(qaR t u).isSome=true:=by rw[HF.out];rfl
  rw[e1_,e2_];unfold rtA;rw[HU.out];exact⟨.slice PA x.path.length pc,⟨PA,pc,rfl,HPA.out.under HBF.out⟩,rfl,HBF.out⟩
 have e1:(u==id)=false:=by simp[hui]
 go_wp2;go_roundg (gk-1)
 case measure=>omega
 case rel=>
  refine⟨i+1,by omega,by omega,by go_num,zq (fun m y hm hy=>?_),rfl⟩;by_cases hmi:m=i
  ·subst hmi
   rw[HX.out]at hy;injection hy with hy
   rw[<-hy,HU.out];exact e1
  ·exact HNO.out m y (by omega) hy
theorem rsteps_any (A B:Option Addr)(n c m d:Nat)(la lb:List St3)(w:World)(ha:SlO stC 2 w A n c la)(hb:SlO stC 2 w B m d lb)(hn:n<=1048576):
  Calls Tryz.prog 30 #[.slice A n c,.slice B m d] w fun e w'=>e= .returned (.bool (decide (la=lb)))/\Below w.heap.size w w':=by
 have HA:=zq ha;have HB:=zq hb;clear ha hb;obtain⟨q,hq⟩:=geZ (decide (la=lb));have HQ:=zq hq;rw[hq];clear hq;by_cases hnm:n=m;rotate_left
 ·have hqf:q=false:=by
   rw[<-HQ.out];refine decide_eq_false fun h=>hnm ?_;rw[<-HA.out.1,<-HB.out.1,h]
  have e1:((n:Int)==(m:Int))=false:=by simp;omega
  have e2:((n:Int) !=(m:Int))=true:=by simp;omega
  go_enter Tryz.func30,Tryz.ntmps30;go_wp2;go_ret
  exact⟨by first|rfl|(rw[hqf];rfl)|rw[hqf],Below.refl _ _⟩
 subst hnm;have HBA:=zq (Below.refl w.heap.size w);go_enter Tryz.func30,Tryz.ntmps30;go_wp2;go_loopg [5] n (fun kk v wl=> ∃i k:Nat,i<=n/\n-i<=kk/\v= .int .i64 i/\Hid (∀j,j<i->la[j]?=lb[j]?)/\wl=w.drewN k)
 case atStart=>exact⟨0,0,by omega,by omega,rfl,zq fun j h=>absurd h (by omega),rfl⟩
 obtain⟨i,k,hi,hik,rfl,HEQ,rfl⟩:=hrel;by_cases hlt:i<n;rotate_left
 ·have hqf:q=true:=by
   rw[<-HQ.out];refine decide_eq_true (List.ext_getElem? fun j=>?_);by_cases hj:j<i
   ·exact HEQ.out j hj
   ·rw[List.getElem?_eq_none (by rw[HA.out.1];omega),List.getElem?_eq_none (by rw[HB.out.1];omega)]
  have x1: ¬(i:Int)<n:=by omega
  go_wp2;go_ret
  exact⟨by first|rfl|(rw[hqf];rfl)|rw[hqf],qaa (Below.refl _ _) k⟩
 obtain⟨x,hx⟩:=glZ la (i) (by rw[HA.out.1];omega);obtain⟨y,hy⟩:=glZ lb (i) (by rw[HB.out.1];omega);have HX:=zq hx;have HY:=zq hy;obtain⟨b1,o1,rfl,d0,d1⟩:=HA.out.step hx;obtain⟨b2,o2,rfl,f0,f1⟩:=HB.out.step hy;clear hx hy;have y0:(0:Int)<=i:=by omega
 have y1:(i:Int)<n:=by omega
 have q1:=eq_st13 x y;obtain⟨e1,he1⟩: ∃e,eqS x y=e:=⟨_,rfl⟩
 have HE:=zq he1;rw[he1]at q1;clear he1;unfold stA13 at q1;go_upto_region 6 with fail
 cases e1 with
 |false=>
  go_quiet (fail);go_wp2;go_ret
  have hqf:q=false:=by
   rw[<-HQ.out];refine decide_eq_false fun h=>?_;have h_:=HX.out;rw[h,HY.out]at h_;injection h_ with h_
   have he:=HE.out;rw[h_,(qaI x x).2 rfl]at he
   cases he
  exact⟨by first|rfl|(rw[hqf];rfl)|rw[hqf],by first|exact qaa (Below.refl _ _) _|(rw[World.drewN_drewN];exact qaa (Below.refl _ _) _)⟩
 |true=>
  go_quiet (fail);go_wp2;go_roundg (gk-1)
  case measure=>omega
  case rel=>
   refine⟨i+1,_,by omega,by omega,by go_num,zq (fun j hj=>?_),by first|rfl|rw[World.drewN_drewN]⟩;by_cases hji:j=i
   ·rw[hji,HX.out,HY.out,(qaI x y).1 HE.out]
   ·exact HEQ.out j (by omega)
theorem rlight_any13 (t:Tp3)(a:TpA)(w:World)(ht:TopR w t a):
  Calls Tryz.prog 10 #[.agg (tpC t a)] w fun e w'=>e= .returned (.bool (qaJ t))/\Below w.heap.size w w':=by
 obtain⟨wa,hwa,hbwa,HWA,HBWA,h0⟩:=bx1Z w 27 (tpC t a);have HS:=zq (ht.under hbwa).r;have c0:wa.cell? ⟨w.heap.size,0,none⟩=some (.slice a.ae t.edges.length a.ce):=h0.cell 0;have c1:wa.cell? ⟨w.heap.size,1,none⟩=some (.slice a.aj t.joints.length a.cj):=h0.cell 1;have c2:wa.cell? ⟨w.heap.size,2,none⟩=some (.slice a.ab t.bals.length a.cb):=h0.cell 2;have c3:wa.cell? ⟨w.heap.size,3,none⟩=some (.slice a.ar t.routes.length a.cr):=h0.cell 3;clear hwa hbwa h0 ht;obtain⟨q,hq⟩:=geZ (qaJ t);have HQ:=zq hq;rw[hq];unfold qaJ at hq;obtain⟨n0,hn0⟩: ∃n,t.edges.length=n:=⟨_,rfl⟩
 rw[hn0]at c0 hq;obtain⟨n1,hn1⟩: ∃n,t.joints.length=n:=⟨_,rfl⟩
 rw[hn1]at c1 hq;obtain⟨n2,hn2⟩: ∃n,t.bals.length=n:=⟨_,rfl⟩
 rw[hn2]at c2 hq;obtain⟨n3,hn3⟩: ∃n,t.routes.length=n:=⟨_,rfl⟩
 rw[hn3]at c3 hq;have HN:=zq hn3;clear hn0 hn1 hn2 hn3;by_cases k0:100<n0
 ·have hqf:q=false:=by rw[<-hq,decide_eq_false (show¬n0<=100 by omega)];simp
  have x0:(100:Int)<n0:=by omega
  clear hq;go_enter Tryz.func10,Tryz.ntmps10;go_upto_region 1 with fail;rw[HWA.out];clear HWA;go_wp2;go_ret
  exact⟨by first|rfl|(rw[hqf];rfl)|rw[hqf],HBWA.out⟩
 have x0: ¬(100:Int)<n0:=by omega
 by_cases k1:100<n1
 ·have hqf:q=false:=by rw[<-hq,decide_eq_false (show¬n1<=100 by omega)];simp
  have x1:(100:Int)<n1:=by omega
  clear hq;go_enter Tryz.func10,Tryz.ntmps10;go_upto_region 1 with fail;rw[HWA.out];clear HWA;go_wp2;go_ret
  exact⟨by first|rfl|(rw[hqf];rfl)|rw[hqf],HBWA.out⟩
 have x1: ¬(100:Int)<n1:=by omega
 by_cases k2:100<n2
 ·have hqf:q=false:=by rw[<-hq,decide_eq_false (show¬n2<=100 by omega)];simp
  have x2:(100:Int)<n2:=by omega
  clear hq;go_enter Tryz.func10,Tryz.ntmps10;go_upto_region 1 with fail;rw[HWA.out];clear HWA;go_wp2;go_ret
  exact⟨by first|rfl|(rw[hqf];rfl)|rw[hqf],HBWA.out⟩
 have x2: ¬(100:Int)<n2:=by omega
 by_cases k3:100<n3
 ·have hqf:q=false:=by rw[<-hq,decide_eq_false (show¬n3<=100 by omega)];simp
  have x3:(100:Int)<n3:=by omega
  clear hq;go_enter Tryz.func10,Tryz.ntmps10;go_upto_region 1 with fail;rw[HWA.out];clear HWA;go_wp2;go_ret
  exact⟨by first|rfl|(rw[hqf];rfl)|rw[hqf],HBWA.out⟩
 have x3: ¬(100:Int)<n3:=by omega
 rw[decide_eq_true (show n0<=100 by omega),decide_eq_true (show n1<=100 by omega),decide_eq_true (show n2<=100 by omega),decide_eq_true (show n3<=100 by omega),Bool.true_and,Bool.true_and,Bool.true_and,Bool.true_and]at hq;have HQ2:=zq hq;clear hq k0 k1 k2;go_enter Tryz.func10,Tryz.ntmps10;go_upto_region 1 with fail;rw[HWA.out];clear HWA;go_upto_region 3 with fail;clear x0 x1 x2 x3 c0 c1 c2;go_wp2;go_loopg [3] n3 (fun kk v wl=> ∃i:Nat,i<=n3/\n3-i<=kk/\v= .int .i64 i/\Hid (∀m y,m<i->t.routes[m]?=some y->y.path.length<=100)/\wl=wa)
 case atStart=>exact⟨0,by omega,by omega,rfl,zq fun m y h=>absurd h (by omega),rfl⟩
 obtain⟨i,hi,hik,rfl,HNO,rfl⟩:=hrel;by_cases hlt:i<n3;rotate_left
 ·have x1: ¬(i:Int)<n3:=by omega
  have hqf:q=true:=by
   rw[<-HQ2.out,List.all_eq_true];intro r hr;obtain⟨m,hm,rfl⟩:=List.getElem_of_mem hr;exact decide_eq_true (HNO.out m _ (by have:=HN.out;omega) (List.getElem?_eq_getElem hm))
  go_wp2;go_ret
  exact⟨by first|rfl|(rw[hqf];rfl)|rw[hqf],HBWA.out⟩
 obtain⟨x,hx⟩: ∃x,t.routes[i]?=some x:=⟨_,List.getElem?_eq_getElem (by rw[HN.out];omega)⟩
 have HX:=zq hx;obtain⟨bk,off,PA,pc,hab,-,-,d1,-,-⟩:=HS.out.at_ hx;rw[hab]at c3;have y0:(0:Int)<=i:=by omega
 have y1:(i:Int)<n3:=by omega
 obtain⟨u,hu⟩:=geZ (x.path.length);have HU:=zq hu;rw[hu]at d1;clear hx hu hab;by_cases hu:100<u
 ·have x1:(100:Int)<u:=by omega
  have hqf:q=false:=by
   rw[<-HQ2.out,List.all_eq_false];exact⟨x,List.mem_of_getElem? HX.out,by rw[HU.out];simp;omega⟩
  go_wp2;go_ret
  exact⟨by first|rfl|(rw[hqf];rfl)|rw[hqf],HBWA.out⟩
 have x1: ¬(100:Int)<u:=by omega
 go_wp2;go_roundg (gk-1)
 case measure=>omega
 case rel=>
  refine⟨i+1,by omega,by omega,by go_num,zq (fun m y hm hy=>?_),rfl⟩;by_cases hmi:m=i
  ·rw[hmi,HX.out]at hy
   injection hy with hy
   rw[<-hy,HU.out];omega
  ·exact HNO.out m y (by omega) hy
end
section
open Go.ChangeShapes Go.WideShapes Go.ChangeAt Go.RowKit Go.Deep Go.Joins
instance inhO13 : Inhabited St3 := ⟨⟨0, false⟩⟩
instance : Inhabited Jt3 := ⟨⟨(0, 0), (0, 0)⟩⟩
instance : Inhabited Bl3 := ⟨⟨0, 0, 0⟩⟩
instance : Inhabited (Rt3 × Value) := ⟨(⟨0, [], 0, 0⟩, .bool false)⟩
theorem qcK {α:Type}[Inhabited α]{f:α->List Value}{k:Nat}(hk:0<k)(hfl: ∀x,(f x).length=k){ts te:TypeId}(hu:Tryz.prog.underlying ts=some (.slice te))(hc:Tryz.prog.cellsOf te=k){H:Type}{enc:TypeId×Value->H}{W:World}{Q:α->Prop}
  (hel: ∀fuel cs y,cs.length=k->DataW.trod enc Tryz.prog W 0 (fun _=>true) true fuel te cs=some y-> ∃x:α,cs=f x/\Q x) {fuel:Nat} {v:Value} {y:DataW H×List MemPlace} (h:DataW.trod enc Tryz.prog W 0 (fun _=>true) true fuel ts [v]=some y):
  ∃(A:Option Addr) (c:Nat) (l:List α),v= .slice A l.length c/\SlO f k W A l.length c l/\l.length<=c/\ ∀x∈l,Q x:=by
 rcases open_slice hu h with⟨hcs,_⟩|⟨a,len,cap,m,q,D,Pl,hcs,_,hl,hm,hmm,_,hx⟩
 ·simp at hcs
  exact⟨none,0,[],hcs,SlO.nil f k W,Nat.le_refl _,fun x h=>by cases h⟩
 ·simp at hcs
  have hlm:len<=m:=by rw[hmm];split<;>omega
  have each: ∀i,i<len-> ∃x:α,(∀j u,(f x)[j]?=some u->W.cell? (a.add (i*k+j))=some u)/\Q x:=by
   intro i hi;obtain⟨cs',h1,h2⟩:=hx i (by omega);rw[hc]at h1;obtain⟨_,hlen,hcell⟩:=World.cells?_some h1;obtain⟨x,rfl,hq⟩:=hel _ cs' _ hlen h2;refine⟨x,fun j u hu=>?_,hq⟩;have hj:j<k:=by rw[<-hfl x];exact(List.getElem?_eq_some_iff.1 hu).1
   have hc2:=hcell j (by omega);rw[add_add]at hc2;rw[hc2,<-hu]
  obtain⟨g,hg⟩:=choose_lt (α:=α) each;have hln:((List.range len).map g).length=len:=by simp
  have hsl:Sl W k (some a) len cap (((List.range len).map g).flatMap f):=by
   refine⟨by rw[qbJ hfl,hln],(fun e=>by cases e),fun ad ha j u hu=>?_⟩
   cases ha
   have hjl:j<len*k:=by
    have:=(List.getElem?_eq_some_iff.1 hu).1;rw[qbJ hfl,hln]at this;exact this
   have hi:j/k<len:=Nat.div_lt_of_lt_mul (by rw[Nat.mul_comm];exact hjl);have e:j/k*k+j %k=j:=by rw[Nat.mul_comm];exact Nat.div_add_mod j k
   have hmk:j %k<k:=Nat.mod_lt _ hk;have hgi:((List.range len).map g)[j/k]?=some (g (j/k)):=by simp[hi]
   rw[<-e]at hu⊢;rw[flat_at hfl hgi hmk]at hu;exact(hg (j/k) hi).1 _ _ hu
  refine⟨some a,cap,(List.range len).map g,by rw[hln];exact hcs,by rw[hln];exact⟨hln,hsl⟩,by rw[hln];exact hl,fun x hx=>?_⟩;obtain⟨i,hi,rfl⟩:=List.mem_map.1 hx;exact(hg i (by simpa using hi)).2
section
variable {H:Type} {enc:TypeId×Value->H} {W:World}
theorem el_int13 (fuel:Nat)(cs:List Value)(y:DataW H×List MemPlace)(hl:cs.length=1)(h:DataW.trod enc Tryz.prog W 0 (fun _=>true) true fuel 3 cs=some y): ∃x:Int,cs=inC x/\True:=by
 match cs,hl with
 |[v],_=>
  obtain⟨a,e,_,_⟩:=DataW.trod_int Tryz.underlying3 h;simp at e;subst e;exact⟨a,rfl,trivial⟩
theorem el_end13 (fuel:Nat)(cs:List Value)(y:DataW H×List MemPlace)(hl:cs.length=2)(h:DataW.trod enc Tryz.prog W 0 (fun _=>true) true fuel 147 cs=some y): ∃x:Int×Int,cs=[.int .i64 x.1,.int .i64 x.2]:=by
 have kI:Tryz.prog.cellsOf 3=1:=by kernel_rfl
 obtain⟨xs,n,_,_,_,hxl,hg⟩:=DataW.trod_struct Tryz.underlying147 h
 match cs,hl,xs,hxl with
 |[v0,v1],_,[y0,y1],_=>
  have g0:DataW.trod enc Tryz.prog W 0 (fun _=>true) true n 3 [v0]=some y0:=by simpa[kI]using hg 0 _ rfl
  have g1:DataW.trod enc Tryz.prog W 0 (fun _=>true) true n 3 [v1]=some y1:=by simpa[kI]using hg 1 _ rfl
  obtain⟨a0,e0,_,_⟩:=DataW.trod_int Tryz.underlying3 g0;obtain⟨a1,e1,_,_⟩:=DataW.trod_int Tryz.underlying3 g1;simp at e0 e1;subst e0 e1;exact⟨(a0,a1),rfl⟩
theorem el_joint13 (fuel:Nat)(cs:List Value)(y:DataW H×List MemPlace)(hl:cs.length=4)(h:DataW.trod enc Tryz.prog W 0 (fun _=>true) true fuel 149 cs=some y): ∃x:Jt3,cs=jtC x/\True:=by
 have kE:Tryz.prog.cellsOf 147=2:=by kernel_rfl
 obtain⟨xs,n,_,_,_,hxl,hg⟩:=DataW.trod_struct Tryz.underlying149 h
 match cs,hl,xs,hxl with
 |[v0,v1,v2,v3],_,[y0,y1],_=>
  have g0:DataW.trod enc Tryz.prog W 0 (fun _=>true) true n 147 [v0,v1]=some y0:=by simpa[kE]using hg 0 _ rfl
  have g1:DataW.trod enc Tryz.prog W 0 (fun _=>true) true n 147 [v2,v3]=some y1:=by simpa[kE]using hg 1 _ rfl
  obtain⟨a0,e0⟩:=el_end13 _ _ _ rfl g0;obtain⟨a1,e1⟩:=el_end13 _ _ _ rfl g1;simp at e0 e1;obtain⟨rfl,rfl⟩:=e0;obtain⟨rfl,rfl⟩:=e1;exact⟨⟨a0,a1⟩,rfl,trivial⟩
theorem el_bal13 (fuel:Nat)(cs:List Value)(y:DataW H×List MemPlace)(hl:cs.length=3)(h:DataW.trod enc Tryz.prog W 0 (fun _=>true) true fuel 151 cs=some y): ∃x:Bl3,cs=blC x/\True:=by
 have kI:Tryz.prog.cellsOf 3=1:=by kernel_rfl
 obtain⟨xs,n,_,_,_,hxl,hg⟩:=DataW.trod_struct Tryz.underlying151 h
 match cs,hl,xs,hxl with
 |[v0,v1,v2],_,[y0,y1,y2],_=>
  have g0:DataW.trod enc Tryz.prog W 0 (fun _=>true) true n 3 [v0]=some y0:=by simpa[kI]using hg 0 _ rfl
  have g1:DataW.trod enc Tryz.prog W 0 (fun _=>true) true n 3 [v1]=some y1:=by simpa[kI]using hg 1 _ rfl
  have g2:DataW.trod enc Tryz.prog W 0 (fun _=>true) true n 3 [v2]=some y2:=by simpa[kI]using hg 2 _ rfl
  obtain⟨a0,e0,_,_⟩:=DataW.trod_int Tryz.underlying3 g0;obtain⟨a1,e1,_,_⟩:=DataW.trod_int Tryz.underlying3 g1;obtain⟨a2,e2,_,_⟩:=DataW.trod_int Tryz.underlying3 g2;simp at e0 e1 e2;subst e0 e1 e2;exact⟨⟨a0,a1,a2⟩,rfl,trivial⟩
theorem el_step13 (fuel:Nat)(cs:List Value)(y:DataW H×List MemPlace)(hl:cs.length=2)(h:DataW.trod enc Tryz.prog W 0 (fun _=>true) true fuel 30 cs=some y): ∃x:St3,cs=stC x/\True:=by
 have kI:Tryz.prog.cellsOf 3=1:=by kernel_rfl
 have kB:Tryz.prog.cellsOf 4=1:=by kernel_rfl
 obtain⟨xs,n,_,_,_,hxl,hg⟩:=DataW.trod_struct Tryz.underlying30 h
 match cs,hl,xs,hxl with
 |[v0,v1],_,[y0,y1],_=>
  have g0:DataW.trod enc Tryz.prog W 0 (fun _=>true) true n 3 [v0]=some y0:=by simpa[kI]using hg 0 _ rfl
  have g1:DataW.trod enc Tryz.prog W 0 (fun _=>true) true n 4 [v1]=some y1:=by simpa[kB]using hg 1 _ rfl
  obtain⟨a0,e0,_,_⟩:=DataW.trod_int Tryz.underlying3 g0;obtain⟨a1,e1,_⟩:=DataW.trod_bool Tryz.underlying4 g1;simp at e0 e1;subst e0 e1;exact⟨⟨a0,a1⟩,rfl,trivial⟩
theorem el_route13 (fuel:Nat)(cs:List Value)(y:DataW H×List MemPlace)(hl:cs.length=4)(h:DataW.trod enc Tryz.prog W 0 (fun _=>true) true fuel 75 cs=some y): ∃x:Rt3×Value,cs=rtC x/\(PathV W x.2 x.1.path/\CapV x.2):=by
 have kI:Tryz.prog.cellsOf 3=1:=by kernel_rfl
 have kS:Tryz.prog.cellsOf 35=1:=by kernel_rfl
 obtain⟨xs,n,_,_,_,hxl,hg⟩:=DataW.trod_struct Tryz.underlying75 h
 match cs,hl,xs,hxl with
 |[v0,v1,v2,v3],_,[y0,y1,y2,y3],_=>
  have g0:DataW.trod enc Tryz.prog W 0 (fun _=>true) true n 3 [v0]=some y0:=by simpa[kI]using hg 0 _ rfl
  have g1:DataW.trod enc Tryz.prog W 0 (fun _=>true) true n 35 [v1]=some y1:=by simpa[kS]using hg 1 _ rfl
  have g2:DataW.trod enc Tryz.prog W 0 (fun _=>true) true n 3 [v2]=some y2:=by simpa[kI]using hg 2 _ rfl
  have g3:DataW.trod enc Tryz.prog W 0 (fun _=>true) true n 3 [v3]=some y3:=by simpa[kI]using hg 3 _ rfl
  obtain⟨a0,e0,_,_⟩:=DataW.trod_int Tryz.underlying3 g0;obtain⟨A,c,l,rfl,hs,hcap,_⟩:=qcK (f:=stC) (k:=2) (by decide) (fun _=>rfl) Tryz.underlying35 (by kernel_rfl) el_step13 g1;obtain⟨a2,e2,_,_⟩:=DataW.trod_int Tryz.underlying3 g2;obtain⟨a3,e3,_,_⟩:=DataW.trod_int Tryz.underlying3 g3;simp at e0 e2 e3;subst e0 e2 e3;exact⟨(⟨a0,l,a2,a3⟩,.slice A l.length c),rfl,⟨A,c,rfl,hs⟩,fun A' n' c' e=>by cases e;exact hcap⟩
end
theorem topo_open {H:Type}{enc:TypeId×Value->H}{W:World}{r:Reach}{b0:Nat}{v:Value}{d:DataW H}{p:List MemPlace}(hv:Value.okWide Tryz.prog W r b0 27 v)
  (h:DataW.Trod enc Tryz.prog W 0 (fun _=>true) true 27 v d p): ∃(t:Tp3) (a:TpA),v= .agg (tpC t a)/\TopR W t a/\t.joints.length<=a.cj:=by
 obtain⟨v0,v1,v2,v3,y0,y1,y2,y3,n,rfl,_,_,h0,h1,h2,h3⟩:=open_agg4 Tryz.underlying27 (by kernel_rfl) (by kernel_rfl) hv h;obtain⟨A0,c0,l0,rfl,s0,_,_⟩:=qcK (f:=inC) (k:=1) (by decide) (fun _=>rfl) Tryz.underlying22 (by kernel_rfl) el_int13 h0;obtain⟨A1,c1,l1,rfl,s1,hc1,_⟩:=qcK (f:=jtC) (k:=4) (by decide) (fun _=>rfl) Tryz.underlying23 (by kernel_rfl) el_joint13 h1;obtain⟨A2,c2,l2,rfl,s2,_,_⟩:=qcK (f:=blC) (k:=3) (by decide) (fun _=>rfl) Tryz.underlying24 (by kernel_rfl) el_bal13 h2;obtain⟨A3,c3,l3,rfl,s3,_,hq⟩:=qcK (f:=rtC) (k:=4) (by decide) (fun _=>rfl) Tryz.underlying25 (by kernel_rfl) el_route13 h3;have hln:(l3.map (·.1)).length=l3.length:=by simp
 refine⟨⟨l0,l1,l2,l3.map (·.1)⟩,⟨A0,c0,A1,c1,A2,c2,A3,c3⟩,by unfold tpC;simp only[hln],⟨s0,s1,s2,?_⟩,hc1⟩;show RtsR W A3 (l3.map (·.1)).length c3 (l3.map (·.1))
 rw[hln];exact⟨l3,rfl,s3,hq⟩
end
section
open Go.RowKit
open Go.Great Go.ChangeShapes Go.WideShapes Go.ChangeAt Go.Deep Go.Joins
instance : Inhabited Sc3 := ⟨⟨0, 0⟩⟩
def scC17 (s:Sc3):List Value:=[.int .i64 s.to_,.int .i64 s.timer]
def scA17 (s:Sc3):Array Value:=#[.int .i64 s.to_,.int .i64 s.timer]
structure MaA where
 ap:Option Addr
 cp:Nat
 aq:Option Addr
 cs:Nat
def maC (m:Ma3)(a:MaA):Array Value:=#[.int .i64 m.ref,.bool m.rev,.slice a.ap m.path.length a.cp,.slice a.aq m.sects.length a.cs,.int .i64 m.gap]
structure MaR (w:World) (m:Ma3) (a:MaA):Prop where
 path:SlO stC 2 w a.ap m.path.length a.cp m.path
 sects:SlO scC17 2 w a.aq m.sects.length a.cs m.sects
 capP:m.path.length<=a.cp
 capS:m.sects.length<=a.cs
 top: ∀s∈m.sects,s.to_<=9223372036854775807
theorem MaR.under {w w':World}{m:Ma3}{a:MaA}(h:MaR w m a)(hb:Below w.heap.size w w'):MaR w' m a:=⟨h.path.under hb,h.sects.under hb,h.capP,h.capS,h.top⟩
end
section
open Go.RowKit
open Go.Great
theorem qeF {t:Tp3}{r:Rt3}(h:r.id<1\/r.path.length=0\/8<r.path.length):qbv t r=1:=by
 unfold qbv;rw[if_pos h]
theorem route_edge {t:Tp3}{r:Rt3}{m:Nat}{s:St3}(hm:r.path[m]?=some s)(h:edgeB t s.edge=false):qbv t r=1:=by
 unfold qbv;split
 ·rfl
 ·rw[if_neg]
  intro hc;rw[Bool.and_eq_true,List.all_eq_true]at hc;have:=hc.1 s (List.mem_of_getElem? hm);rw[h]at this
  cases this
theorem twice_iff {path:List St3}:qa6 path=false↔ ∀(m k:Nat) (x y:St3),m<k->path[m]?=some x->path[k]?=some y->x.edge≠y.edge:=by
 unfold qa6;rw[decide_eq_false_iff_not,Classical.not_not];unfold List.Nodup;rw[List.pairwise_iff_getElem]
 constructor
 ·intro h m k x y hmk hx hy he
  obtain⟨hm,ex⟩:=List.getElem?_eq_some_iff.1 hx;obtain⟨hk,ey⟩:=List.getElem?_eq_some_iff.1 hy;refine h m k (by simpa using hm) (by simpa using hk) hmk ?_;rw[List.getElem_map,List.getElem_map,ex,ey,he]
 ·intro h m k hm hk hmk he
  rw[List.getElem_map,List.getElem_map]at he;exact h m k _ _ hmk (List.getElem?_eq_getElem (by simpa using hm)) (List.getElem?_eq_getElem (by simpa using hk)) he
theorem route_twice {t:Tp3}{r:Rt3}{m k:Nat}{x y:St3}(hmk:m<k)(hx:r.path[m]?=some x)(hy:r.path[k]?=some y)(he:x.edge=y.edge):qbv t r=1:=by
 unfold qbv;split
 ·rfl
 ·rw[if_neg]
  intro hc;rw[Bool.and_eq_true]at hc;have h2:qa6 r.path=false:=by simpa using hc.2
  exact twice_iff.1 h2 m k x y hmk hx hy he
theorem route_rest {t:Tp3}{r:Rt3}(h1: ¬(r.id<1\/r.path.length=0\/8<r.path.length))(h2: ∀(m:Nat) (s:St3),r.path[m]?=some s->edgeB t s.edge=true)(h3: ∀(m k:Nat) (x y:St3),m<k->r.path[m]?=some x->r.path[k]?=some y->x.edge≠y.edge):
  qbv t r=if lenE t r.path=0 then(if r.gap<0\/lenN t r.path-1<r.gap\/r.timer<1\/1000<r.timer then 1 else if(r.path.all (qcp t))=true then 0 else 4)else lenE t r.path:=by
 have h4:(r.path.all fun s=>edgeB t s.edge)=true:=by
  rw[List.all_eq_true];intro s hs;obtain⟨m,hm,rfl⟩:=List.getElem_of_mem hs;exact h2 m _ (List.getElem?_eq_getElem hm)
 unfold qbv;rw[if_neg h1,h4,twice_iff.2 h3,if_pos (by decide)]
theorem qeH {l:List Bl3}{f:Bl3->Bool}{k:Nat}{b:Bl3}(hb:l[k]?=some b):(l.take (k+1)).any f=((l.take k).any f||f b):=by
 rw[List.take_add_one,hb,List.any_append];simp
theorem rroute1_any (t:Tp3)(a:TpA)(r:Rt3)(v:Value)(w:World)(ht:TopR w t a)(hv:PathV w v r.path)(hok:qaF t=true)(hj:t.joints.length<=100)(hb:t.bals.length<=100)(hl:r.path.length<=1048576):
  Calls Tryz.prog 114 #[.agg (tpC t a),.agg (rtA r v)] w fun e w'=>e= .returned (.int .i64 (qbv t r))/\Below w.heap.size w w':=by
 obtain⟨A,c,rfl,hp⟩:=hv;obtain⟨rE,hrE⟩: ∃e,qbv t r=e:=⟨_,rfl⟩
 have HRE:=zq hrE;rw[hrE];clear hrE;obtain⟨rid,path,gap,timer⟩:=r;unfold rtA;dsimp only at*;obtain⟨n,hnn⟩:=geZ (path.length);have HL:=zq hnn;rw[hnn]at hp hl;rw[hnn];clear hnn;obtain⟨wa,hwa,hbwa,HWA,HBWA,h0,h1⟩:=bx2Z w 27 (tpC t a) 75 #[.int .i64 rid,.slice A n c,.int .i64 gap,.int .i64 timer];have H0:=zH h0;have H1:=zH h1;have HT:=zq (fun W (hW:Below w.heap.size w W)=>ht.under hW);have HP:=zq (fun W (hW:Below w.heap.size w W)=>hp.under hW);have HBA:=zq (fun W (hW:Below wa.heap.size wa W)=>hbwa.trans (hW.mono hbwa.size));have HOK:=zq hok;have c0:wa.cell? ⟨w.heap.size+1,0,none⟩=some (.int .i64 rid):=h1.cell 0;have c1:wa.cell? ⟨w.heap.size+1,1,none⟩=some (.slice A n c):=h1.cell 1;clear hwa hbwa h0 h1 ht hp hok;by_cases k0:rid<1
 ·have x0:rid<1:=by omega
  have HK:=zq k0;clear k0;go_enter Tryz.func114,Tryz.ntmps114;go_upto_region 1 with fail;rw[HWA.out];clear HWA;go_wp2;go_ret
  have hE:rE=1:=by rw[<-HRE.out];exact qeF (by have h_:=HL.out;have h2_:=HK.out;simp only;omega)
  subst hE;exact⟨by first|rfl|simp,HBWA.out⟩
 have x0: ¬rid<1:=by omega
 by_cases k1:n=0
 ·have x1:(n:Int)=0:=by omega
  have HK:=zq k1;clear k1;go_enter Tryz.func114,Tryz.ntmps114;go_upto_region 1 with fail;rw[HWA.out];clear HWA;go_wp2;go_ret
  have hE:rE=1:=by rw[<-HRE.out];exact qeF (by have h_:=HL.out;have h2_:=HK.out;simp only;omega)
  subst hE;exact⟨by first|rfl|simp,HBWA.out⟩
 have x1: ¬(n:Int)=0:=by omega
 by_cases k2:8<n
 ·have x2:(8:Int)<n:=by omega
  have HK:=zq k2;clear k2;go_enter Tryz.func114,Tryz.ntmps114;go_upto_region 1 with fail;rw[HWA.out];clear HWA;go_wp2;go_ret
  have hE:rE=1:=by rw[<-HRE.out];exact qeF (by have h_:=HL.out;have h2_:=HK.out;simp only;omega)
  subst hE;exact⟨by first|rfl|simp,HBWA.out⟩
 have x2: ¬(8:Int)<n:=by omega
 have HNZ:=zq (show¬rid<1/\n≠0/\n<=8 from⟨k0,k1,by omega⟩);have hn8:n<=8:=by omega
 have hz2:((n:Int)==0)=false:=by simp[k1]
 go_enter Tryz.func114,Tryz.ntmps114;go_upto_region 1 with fail;rw[HWA.out];clear HWA;go_upto_region 3 with fail;clear x0 x1 x2 k0 k1 k2 hz2 c0 c1;go_wp2;go_loopg [5] n (fun kk v wl=> ∃i:Nat,i<=n/\n-i<=kk/\v= .int .i64 i/\Hid (∀(m:Nat) (s:St3),m<i->path[m]?=some s->edgeB t s.edge=true)/\Hid (∀(m k:Nat) (x y:St3),m<k->k<i->path[m]?=some x->path[k]?=some y->x.edge≠y.edge)/\Below wa.heap.size wa wl)
 case atStart=>exact⟨0,by omega,by omega,rfl,zq (fun m s h=>absurd h (by omega)),zq (fun m k x y _ h=>absurd h (by omega)),Below.refl _ _⟩
 obtain⟨i,hi,hik,rfl,HED,HTW,hwr⟩:=hrel;have HWR:=zq hwr;have c1:wr.cell? ⟨w.heap.size+1,1,none⟩=some (.slice A n c):=(H1.out wr hwr).cell 1;clear hwr;by_cases hlt:i<n;rotate_left
 ·obtain rfl:i=n:=by omega
  have x1: ¬(i:Int)<i:=by omega
  have HREST:=zq (route_rest (t:=t) (r:=⟨rid,path,gap,timer⟩) (by have h1_:=HL.out;have h2_:=HNZ.out;simp only;omega) (fun m s hm=>HED.out m s (by have h1_:=HL.out;have h2_:m<path.length:=(List.getElem?_eq_some_iff.1 hm).1;omega) hm) (fun m k x y hmk hx hy=>HTW.out m k x y hmk (by have h1_:=HL.out;have h2_:k<path.length:=(List.getElem?_eq_some_iff.1 hy).1;omega) hx hy));have HALL:=zq (fun s (hs:s∈path)=>(show edgeB t s.edge=true from by obtain⟨m,hm,rfl⟩:=List.getElem_of_mem hs;exact HED.out m _ (by have h1_:=HL.out;omega) (List.getElem?_eq_getElem hm)));clear HED HTW hi hik;go_upto_region 14 with fail;clear x1;go_wp2_with (with_reducible refine ldZ 64 (H0.out wr HWR.out) ?_);have hlo:=HBA.out _ HWR.out;refine(qdT t a path A i c wr (HT.out _ hlo) (HP.out _ hlo) (by omega) hj HOK.out).mono ?_;rintro e w4 ⟨rfl,hb4⟩;have HW4:=tB HWR hb4;clear hb4 hlo c1;obtain⟨lE,hlE⟩: ∃e,lenE t path=e:=⟨_,rfl⟩
  obtain⟨lN,hlN⟩: ∃e,lenN t path=e:=⟨_,rfl⟩
  have HLE:=zq hlE;have HLN:=zq hlN;rw[hlE,hlN];clear hlE hlN;by_cases hz:lE=0;rotate_left
  ·have e1:(lE==0)=false:=by simp[hz]
   have e2:(lE !=0)=true:=by simp[hz]
   go_wp2;go_ret
   have hE:rE=lE:=by rw[<-HRE.out,HREST.out,if_neg (by rw[HLE.out];exact hz)];exact HLE.out
   subst hE;exact⟨by first|rfl|simp,HBA.out _ HW4.out⟩
  subst hz;have d2:w4.cell? ⟨w.heap.size+1,2,none⟩=some (.int .i64 gap):=(H1.out w4 HW4.out).cell 2;have d3:w4.cell? ⟨w.heap.size+1,3,none⟩=some (.int .i64 timer):=(H1.out w4 HW4.out).cell 3;have hln: -1000<=lN/\lN<=8000000:=by have h_:=HLN.out;unfold lenN at h_;rw[if_pos HLE.out]at h_;have h2_:=qcw HOK.out HALL.out;rw[h_,HL.out]at h2_;omega
  have hw1:IntKind.i64.wrap (lN-1)=lN-1:=by rw[IntKind.wrap_i64];omega
  have HR2:=zq (show rE=if gap<0\/lN-1<gap\/timer<1\/1000<timer then 1 else if(path.all (qcp t))=true then 0 else 4 from by rw[<-HRE.out,HREST.out,if_pos HLE.out,HLN.out]);clear HREST hln;by_cases z0:gap<0
  ·go_upto_region 17 with fail
   go_wp2;go_ret
   have hE:rE=1:=by rw[HR2.out,if_pos (by omega)]
   subst hE;exact⟨by first|rfl|simp,HBA.out _ HW4.out⟩
  by_cases z1:lN-1<gap
  ·go_upto_region 17 with fail
   go_wp2;go_ret
   have hE:rE=1:=by rw[HR2.out,if_pos (by omega)]
   subst hE;exact⟨by first|rfl|simp,HBA.out _ HW4.out⟩
  by_cases z2:timer<1
  ·go_upto_region 17 with fail
   go_wp2;go_ret
   have hE:rE=1:=by rw[HR2.out,if_pos (by omega)]
   subst hE;exact⟨by first|rfl|simp,HBA.out _ HW4.out⟩
  by_cases z3:1000<timer
  ·go_upto_region 17 with fail
   go_wp2;go_ret
   have hE:rE=1:=by rw[HR2.out,if_pos (by omega)]
   subst hE;exact⟨by first|rfl|simp,HBA.out _ HW4.out⟩
  have HR3:=zq (show rE=if(path.all (qcp t))=true then 0 else 4 from by rw[HR2.out,if_neg (by omega)]);clear HR2;go_upto_region 19 with fail;clear z0 z1 z2 z3 hw1 d2 d3;go_wp2;go_loopg [10] i (fun kk v wl=> ∃j:Nat,j<=i/\i-j<=kk/\v= .int .i64 j/\Hid (∀(m:Nat) (s:St3),m<j->path[m]?=some s->qcp t s=true)/\Below wa.heap.size wa wl)
  case atStart=>exact⟨0,by omega,by omega,rfl,zq (fun m s h=>absurd h (by omega)),HW4.out⟩
  obtain⟨j,hj1,hjk,rfl,HHB,hwr⟩:=hrel;have HW5:=zq hwr;have c1:wr.cell? ⟨w.heap.size+1,1,none⟩=some (.slice A i c):=(H1.out wr hwr).cell 1;clear hwr;by_cases hjl:j<i;rotate_left
  ·have x1: ¬(j:Int)<i:=by omega
   go_wp2;go_ret
   have hE:rE=0:=by rw[HR3.out,if_pos (List.all_eq_true.2 fun s hs=>by obtain⟨m,hm,rfl⟩:=List.getElem_of_mem hs;exact HHB.out m _ (by have h1_:=HL.out;omega) (List.getElem?_eq_getElem hm))]
   subst hE;exact⟨by first|rfl|simp,HBA.out _ HW5.out⟩
  obtain⟨x,hx⟩:=glZ path (j) (by have:=HL.out;omega);have HX:=zq hx;obtain⟨bk,off,rfl,d0,-⟩:=(HP.out wr (HBA.out wr HW5.out)).step hx;clear hx;obtain⟨ex,hex⟩: ∃e,x.edge=e:=⟨_,rfl⟩
  have HEX:=zq hex;rw[hex]at d0;clear hex;obtain⟨nb,hnb⟩: ∃m,t.bals.length=m:=⟨_,rfl⟩
  have HNB:=zq hnb;have f2:wr.cell? ⟨w.heap.size,2,none⟩=some (.slice a.ab nb a.cb):=by have h_:=(H0.out wr HW5.out).cell 2;rw[<-hnb];exact h_
  have HBL:=zq (HT.out wr (HBA.out wr HW5.out)).b;have hnb2:nb<=100:=by omega
  clear hnb;obtain⟨k1,hk1⟩: ∃k1,k1=gk:=⟨_,rfl⟩
  subst hk1;obtain⟨w5,hw5⟩: ∃w5,w5=wr:=⟨_,rfl⟩
  subst hw5;have y0:(0:Int)<=j:=by omega
  have y1:(j:Int)<i:=by omega
  go_upto_region 23 with fail;go_wp2;go_loopg [11,12] nb (fun kk vh v wl=> ∃k q:Nat,k<=nb/\nb-k<=kk/\v= .int .i64 k/\vh= .bool ((t.bals.take k).any fun b=>b.edge==ex)/\wl=w5.drewN q)
  case atStart=>exact⟨0,0,by omega,by omega,rfl,rfl,rfl⟩
  obtain⟨k,q,hk,hkk,rfl,rfl,rfl⟩:=hrel;obtain⟨hb0,hhb⟩: ∃b,((t.bals.take k).any fun b=>b.edge==ex)=b:=⟨_,rfl⟩
  have HB0:=zq hhb;simp only[hhb];clear hhb;by_cases hkl:k<nb;rotate_left
  ·have x1: ¬(k:Int)<nb:=by omega
   have hhas:qcp t x=hb0:=by rw[<-HB0.out,List.take_of_length_le (by have:=HNB.out;omega),<-HEX.out];rfl
   cases hb0 with
   |false=>
    go_wp2;go_ret
    have hE:rE=4:=by rw[HR3.out,if_neg (fun h=>by have h_:=List.all_eq_true.1 h x (List.mem_of_getElem? HX.out);rw[hhas]at h_;cases h_)]
    subst hE;exact⟨by first|rfl|simp,HBA.out _ (qaa HW5.out q)⟩
   |true=>
    go_wp2;go_roundg (k1-1)
    case measure=>omega
    case rel=>
     refine⟨j+1,by omega,by omega,by go_num,zq (fun m s hm hs=>?_),qaa HW5.out q⟩;by_cases hmj:m=j
     ·rw[hmj,HX.out]at hs
      injection hs with hs
      rw[<-hs];exact hhas
     ·exact HHB.out m s (by omega) hs
  obtain⟨b,hbx⟩: ∃b,t.bals[k]?=some b:=⟨_,List.getElem?_eq_getElem (by have:=HNB.out;omega)⟩
  have HBX:=zq hbx;obtain⟨b2,o2,hab,-,g1,-⟩:=HBL.out.bal hbx;rw[hab]at f2;have z0:(0:Int)<=k:=by omega
  have z1:(k:Int)<nb:=by omega
  obtain⟨eb,heb⟩: ∃e,b.edge=e:=⟨_,rfl⟩
  have HEB:=zq heb;rw[heb]at g1;clear heb hbx hab
  cases hb0 with
  |true=>
   go_upto_region 26 with fail;go_quiet (fail);go_wp2;go_roundg (gk-1)
   case measure=>omega
   case rel=>
    refine⟨k+1,_,by omega,by omega,by go_num,?_,by first|rfl|rw[World.drewN_drewN]⟩;rw[qeH HBX.out,HB0.out,HEB.out]
    first|rfl|simp
  |false=>
   by_cases hee:eb=ex
   ·subst hee
    go_upto_region 26 with fail;go_quiet (fail);go_wp2;go_roundg (gk-1)
    case measure=>omega
    case rel=>
     refine⟨k+1,_,by omega,by omega,by go_num,?_,by first|rfl|rw[World.drewN_drewN]⟩;rw[qeH HBX.out,HB0.out,HEB.out]
     first|rfl|simp
   ·have e1:(eb==ex)=false:=by simp[hee]
    go_upto_region 26 with fail;go_quiet (fail);go_wp2;go_roundg (gk-1)
    case measure=>omega
    case rel=>
     refine⟨k+1,_,by omega,by omega,by go_num,?_,by first|rfl|rw[World.drewN_drewN]⟩;rw[qeH HBX.out,HB0.out,HEB.out];rw[e1];rfl
 obtain⟨x,hx⟩:=glZ path (i) (by have:=HL.out;omega);have HX:=zq hx;obtain⟨bk,off,rfl,-,-⟩:=(HP.out w (Below.refl _ _)).step hx;obtain⟨ex,hex⟩: ∃e,x.edge=e:=⟨_,rfl⟩
 have HEX:=zq hex;have HCX:=zq (fun W (hW:Below w.heap.size w W)=>(show W.cell? ⟨bk,off+i*2,none⟩=some (.int .i64 ex)from by rw[<-hex];obtain⟨b_,o_,e_,h1_,h2_⟩:=(HP.out W hW).step hx;injection e_ with e_;injection e_ with e1_ e2_ _;subst e1_ e2_;exact h1_));obtain⟨bq,hbq⟩: ∃b,edgeB t ex=b:=⟨_,rfl⟩
 have HBQ:=zq hbq;have y0:(0:Int)<=(i:Int):=by omega
 have y1:(i:Int)<n:=by omega
 clear hx hbq hex;go_upto_region 6 with fail;clear c1;refine wp_region_held_drew (S:=(fun W_=>Has W_ (w.heap.size) 27 (tpC t a)/\Has W_ (w.heap.size+1) 75 #[.int .i64 rid,.slice (some ⟨bk,off,none⟩) n c,.int .i64 gap,.int .i64 timer]/\Below wr.heap.size wr W_)) (by kernel_rfl) ?_ (fun hHeld=>?_)
 ·exact⟨(H0.out _ HWR.out).draw,(H1.out _ HWR.out).draw,qah (Below.refl _ _)⟩
 refine tlZ 0 35 w.heap.size (tpC t a) (fun _ ⟨h_,_,_⟩=>h_) (h:=?_);simp only[lyZ];refine tkZ 1 36 (h:=?_);simp only[lyZ];refine tqZ 2 37 (fun w_ hSw=>(show w_.cell? ⟨w.heap.size+1,1,none⟩=some (.slice (some ⟨bk,off,none⟩) n c:Value)from by have h_:=hSw.2.1.cell 1;exact h_)) (h:=?_);simp only[lyZ];refine tkZ 3 38 (h:=?_);simp only[lyZ];refine tkZ 4 39 (h:=?_);simp only[lyZ];refine tkZ 5 40 (h:=?_);simp only[lyZ];refine tqZ 6 41 (fun w_ hSw=>HCX.out w_ (HBA.out w_ (HWR.out.trans (hSw.2.2.mono HWR.out.size)))) (h:=?_);simp only[lyZ];refine rdZ [7] ?_;refine acZ (some 42) (fun K hK=>?_) ?_
 ·go_simp
  obtain⟨s0,s1,s2⟩:=hHeld;refine(qdl t a ex _).mono ?_;rw[HBQ.out];rintro e_ vs ⟨rfl,hbs⟩;go_wp2_with fail;refine hK.out _ _ ?_ (fun hHeld=>?_)
  ·exact⟨s0.u hbs,s1.u hbs,bu s2 hbs⟩
  clear hK K s0 s1 s2
  try simp only[lyZ]
  refine tkZ 8 6 (h:=?_);simp only[lyZ];refine dnZ ?_;have HBE:=zq (HWR.out.trans (hHeld.2.2.mono HWR.out.size));clear hHeld
  cases bq with
  |false=>
   go_wp2;go_ret
   have hE:rE=1:=by rw[<-HRE.out];exact route_edge (m:=i) HX.out (by rw[HEX.out];exact HBQ.out)
   subst hE;exact⟨by first|rfl|simp,HBA.out _ HBE.out⟩
  |true=>
   have c1:vs.cell? ⟨w.heap.size+1,1,none⟩=some (.slice (some ⟨bk,off,none⟩) n c):=(H1.out vs HBE.out).cell 1;have d0:=HCX.out vs (HBA.out vs HBE.out);obtain⟨k1,hk1⟩: ∃k1,k1=gk:=⟨_,rfl⟩
   subst hk1;go_upto_region 9 with fail;go_wp2;go_loopg [7] i (fun kk v wl=> ∃k q:Nat,k<=i/\i-k<=kk/\v= .int .i64 k/\Hid (∀(m:Nat) (y:St3),m<k->path[m]?=some y->y.edge≠ex)/\wl=vs.drewN q)
   case atStart=>exact⟨0,0,by omega,by omega,rfl,zq (fun m y h=>absurd h (by omega)),rfl⟩
   obtain⟨k,q,hk,hkk,rfl,HN2,rfl⟩:=hrel;by_cases hkl:k<i;rotate_left
   ·have x1: ¬(k:Int)<i:=by omega
    go_wp2;go_roundg (k1-1)
    case measure=>omega
    case rel=>
     refine⟨i+1,by omega,by omega,by go_num,zq (fun m s hm hs=>?_),zq (fun m l u v hml hl hu hv=>?_),qaa HBE.out q⟩
     ·by_cases hmi:m=i
      ·rw[hmi,HX.out]at hs
       injection hs with hs
       rw[<-hs,HEX.out];exact HBQ.out
      ·exact HED.out m s (by omega) hs
     ·by_cases hli:l=i
      ·rw[hli,HX.out]at hv
       injection hv with hv
       rw[<-hv,HEX.out];exact HN2.out m u (by omega) hu
      ·exact HTW.out m l u v hml (by omega) hu hv
   obtain⟨y,hy⟩:=glZ path (k) (by have:=HL.out;omega);have HY:=zq hy;obtain⟨b2,o2,hb2,g0,-⟩:=(HP.out vs (HBA.out vs HBE.out)).step hy;injection hb2 with hb2
   injection hb2 with hb3 hb4 _
   subst hb3 hb4;obtain⟨ey,hey⟩: ∃e,y.edge=e:=⟨_,rfl⟩
   have HEY:=zq hey;rw[hey]at g0;clear hy hey;have z0:(0:Int)<=k:=by omega
   have z1:(k:Int)<n:=by omega
   by_cases hee:ey=ex
   ·subst hee
    go_upto_region 12 with fail;go_quiet (fail);go_wp2;go_ret
    have hE:rE=1:=by rw[<-HRE.out];exact route_twice (m:=k) (k:=i) hkl HY.out HX.out (by rw[HEY.out,HEX.out])
    subst hE;exact⟨by first|rfl|simp,HBA.out _ (by first|exact qaa HBE.out _|(rw[World.drewN_drewN];exact qaa HBE.out _))⟩
   ·have e1:(ey==ex)=false:=by simp[hee]
    go_upto_region 12 with fail;go_quiet (fail);go_wp2;go_roundg (gk-1)
    case measure=>omega
    case rel=>
     refine⟨k+1,_,by omega,by omega,by go_num,zq (fun m z hm hz=>?_),by first|rfl|rw[World.drewN_drewN]⟩;by_cases hmk:m=k
     ·rw[hmk,HY.out]at hz
      injection hz with hz
      rw[<-hz,HEY.out];exact hee
     ·exact HN2.out m z (by omega) hz
 exact AllReadyH.nil
end
end Go.Proofs.YtahadmeilajdgaaGreatDoor
