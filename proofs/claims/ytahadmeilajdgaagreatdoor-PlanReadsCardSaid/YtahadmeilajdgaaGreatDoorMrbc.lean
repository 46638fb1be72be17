/-
  Our own text, joined.
-/
import Derived.Test.YtahadmeilajdgaaGreatDoorMrbb
import Derived.Test.YtahadmeilajdgaaGreatDoorMrba
import Derived.Test.YtahadmeilajdgaaGreatDoorMrax
import Derived.Test.YtahadmeilajdgaaGreatDoorMrak
import Derived.BigQuiet
import Derived.IntWalk
import Derived.Test.YtahadmeilajdgaaGreatDoorMraa
import Derived.Test.YtahadmeilajdgaaGreatDoorMrad
import Derived.Test.YtahadmeilajdgaaGreatDoorMrat
import Derived.Deep.Slices
import Derived.Deep.SlicePairs
namespace Go.Proofs.YtahadmeilajdgaaGreatDoor
set_option maxRecDepth 100000
set_option maxHeartbeats 80000000
section
open Go.RowKit
open Go.Great
theorem read_chk17 {t:Tp3}{ref:Int}{rev:Bool}{L:List (Int×List Int)}(h:qax t≠0):readE t qay ref rev L=(noMa,1):=by
 unfold readE;rw[if_pos h]
theorem read_bal17 {t:Tp3}{ref:Int}{rev:Bool}{L:List (Int×List Int)}(h:qax t=0)(hb:balF t ref=none):readE t qay ref rev L=(noMa,4):=by
 unfold readE;rw[if_neg (fun h2=>h2 h),hb]
theorem sli_slo17 {base:Nat}{w:World}{A:Option Addr}{n c:Nat}{V:List Int}(h:SlI base w A n c V):SlO inC 1 w A n c V:=⟨h.len,by rw[qcV];exact h.sl⟩
theorem rep_len17 {k:Nat}{V U:List Int}(h:ShRep SecSh k V U):U.length<=V.length:=by
 induction k generalizing V with
 |zero=>exact Nat.le_of_eq (congrArg List.length (show U=V from h))
 |succ k ih=>
  obtain⟨W,⟨x,q,_,⟨_,rfl⟩|⟨_,a,b,_,rfl⟩⟩,h2⟩:=h
  ·have:=ih h2;simp only[List.length_cons];omega
  ·have:=ih h2;simp only[List.length_cons];omega
theorem rsec_shape17 (d u a b:Int)(nk:Nat)(R0:List Int)(rev:Bool):rsecE (d::u::a::b::(nk:Int)::R0) rev=if d≠dirB rev then([],0,20)else if 7<(nk:Int)then([],0,2)else(if(qaf u (nk+1) 0 R0).2.2≠0 then([],0,(qaf u (nk+1) 0 R0).2.2)else((qaf u (nk+1) 0 R0).1,(gapE (qaf u (nk+1) 0 R0).2.1 u).1,(gapE (qaf u (nk+1) 0 R0).2.1 u).2)):=by
 have e:((nk:Int)+1).toNat=nk+1:=by omega
 show(if d≠dirB rev then([],0,20)else if 7<(nk:Int)then([],0,2)else(if(qaf u ((nk:Int)+1).toNat 0 R0).2.2≠0 then([],0,(qaf u ((nk:Int)+1).toNat 0 R0).2.2)else((qaf u ((nk:Int)+1).toNat 0 R0).1,(gapE (qaf u ((nk:Int)+1).toNat 0 R0).2.1 u).1,(gapE (qaf u ((nk:Int)+1).toNat 0 R0).2.1 u).2)))=_
 rw[e]
theorem own_lowB17 {α:Type}{f:α->List Value}{k:Nat}{e:TypeId}{base B:Nat}{w w':World}{A:Option Addr}{n c:Nat}{l:List α}(h:OwR f k e base w A n c l)(hlt: ∀ad,A=some ad->ad.block<B)(hb:Below B w w'):OwR f k e base w' A n c l:=by
 refine⟨⟨h.1.1,?_⟩,h.2⟩
 rcases h.1.2 with h1|⟨g,cap,cur,h1,h2,h3,h4⟩
 ·exact .inl h1
 ·refine .inr ⟨g,cap,cur,h1,h2,?_,h4⟩
  injection h1 with e1 _ _
  exact Has.under (show Has w g e cur from h3) hb (hlt _ e1)
theorem secs_few17x {u to_:Int}{k:Nat}{V SR:List Int}{SL:List Sc3}{e:Int}(h:qaf u k to_ V=(SL,SR,e)):SL.length<=k:=by
 induction k generalizing to_ V SL SR e with
 |zero=>rw[qaf]at h;injection h with h1 _;subst h1;exact Nat.le_refl _
 |succ k ih=>
  rw[qaf]at h;split at h
  ·injection h with h1 _;subst h1;exact Nat.zero_le _
  ·split at h
   ·injection h with h1 _;subst h1;exact Nat.zero_le _
   ·split at h
    ·injection h with h1 _;subst h1;exact Nat.zero_le _
    ·dsimp only at h
     split at h
     ·injection h with h1 _;subst h1;exact Nat.zero_le _
     ·injection h with h1 _
      subst h1;have h2:=ih (to_:=to_+(dmOf (V.getD 0 0) u).1) (V:=V.drop 4) (SL:=_) (SR:=_) (e:=_) rfl;rw[List.length_cons];omega
theorem gap_fit17 {V:List Int}(h:GapSh V):2<=V.length/\(V.getD 0 0≠1->V.getD 1 0=1->3<=V.length)/\(V.getD 0 0=1->4<=V.length/\((V.drop 2).getD 1 0=1->5<=V.length)):=by
 obtain⟨q,p,R,_,⟨rfl,rfl⟩|⟨rfl,a,b,rfl⟩,h2⟩:=h
 ·refine⟨by simp,fun _ hp=>?_,fun h=>by simp at h⟩
  obtain⟨g,z,S,_,rfl⟩:=h2 (by simpa using hp);simp
 ·refine⟨by simp,fun h=>by simp at h,fun _=>⟨by simp,fun hp=>?_⟩⟩
  obtain⟨g,z,S,_,rfl⟩:=h2 (by simpa using hp);simp
theorem rread17 (t:Tp3)(a:TpA)(ref:Int)(rev:Bool)(l:List PkE)(A:Option Addr)(n c:Nat)(w:World)(ht:TopR w t a)(hl:qaJ t=true)(hcj:t.joints.length<=a.cj)(hs:SlK w A n c l)(hn:n<=30)(hv: ∀p∈l,p.n<=3000)(_:Wd w):Calls Tryz.prog 19 #[.agg (tpC t a),.int .i64 ref,.bool rev,.slice A n c] w fun r w'=> ∃b,r= .returned (.tuple #[.agg (maC (readE t qay ref rev (qaM l)).1 b),.int .i64 (readE t qay ref rev (qaM l)).2])/\MaR w' (readE t qay ref rev (qaM l)).1 b/\Below w.heap.size w w':=by
 have HRC:=zq (fun W (hW:Below w.heap.size w W)=>qeE t a W (ht.under hW) hl hcj);have HPL:=zq (fun W (hW:Below w.heap.size w W)=>rplace17 t a ⟨ref,rev,[],[],0⟩ ⟨none,0,none,0⟩ W (ht.under hW) hl);have HSK:=zq (fun W (hW:Below w.heap.size w W)=>hs.under hW);have HMY:=zq (fun W (hW:Below w.heap.size w W) m b hm h1 h2=>rmay17 t a m b W (ht.under hW) hl hcj hm h1 h2);have HTP:=zq (fun W (hW:Below w.heap.size w W)=>ht.under hW);have HLT:=zq hl;have HV:=zq hv;have HNN:=zq hn;obtain⟨R,hR⟩:=geZ (readE t qay ref rev (qaM l));have HR:=zq hR;rw[hR];obtain⟨M,E⟩:=R;dsimp only;clear hR;obtain⟨wa,hwa,hbwa,HWA,HBWA,h0,h1⟩:=bx2Z w 27 (tpC t a) 38 #[.int .i64 0,.bool false,.slice none 0 0,.slice none 0 0,.int .i64 0];have H0:=zH h0;have H1:=zH h1;have HUP:=zq (fun W (hW:Below wa.heap.size wa W)=>HBWA.out.trans (hW.mono HBWA.out.size));have hg0:w.heap.size<wa.heap.size:=h0.lt;have hg1:w.heap.size+1<wa.heap.size:=h1.lt;clear hwa hbwa h0 h1 ht hl hcj hs hn hv;go_enter Tryz.func19,Tryz.ntmps19;go_upto_region 1 with fail;rw[HWA.out];clear HWA;go_wp2_with (with_reducible refine ldZ 26 (H0.out wa (Below.refl _ _)) ?_);refine(HRC.out wa HBWA.out).mono ?_;rintro e_ w1 ⟨rfl,hb1⟩;have HB1:=zq hb1;clear hb1 HRC;by_cases z0:qax t=0;rotate_left
 ·have q0:(qax t !=0)=true:=by simp[z0]
  obtain⟨rfl,rfl⟩:M=noMa/\E=1:=by have h_:=HR.out;rw[read_chk17 z0]at h_;injection h_ with h1_ h2_;exact⟨h1_.symm,h2_.symm⟩
  have HZ:=zq (H1.out w1 HB1.out);have HRR:=zq (qab HZ.out #[.int .i64 0,.bool false,.slice none 0 0,.slice none 0 0,.int .i64 0]);have HBF:=zq (qac (g:=w.heap.size+1) (HBWA.out.trans (HB1.out.mono HBWA.out.size)) (by omega) #[.int .i64 0,.bool false,.slice none 0 0,.slice none 0 0,.int .i64 0]);go_wp2_with (with_reducible refine stZ #[.int .i64 0,.bool false,.slice none 0 0,.slice none 0 0,.int .i64 0] HZ.out ?_);refine rtZ HRR.out ?_;exact⟨⟨none,0,none,0⟩,rfl,⟨SlO.nil _ _ _,SlO.nil _ _ _,Nat.le_refl _,Nat.le_refl _,fun s hs=>by cases hs⟩,HBF.out⟩
 have HCK:=zq z0;rw[z0];clear z0;obtain⟨w2,hw2⟩: ∃u,w1.alloc (.cells #[.int .i64 ref,.bool rev,.slice none 0 0,.slice none 0 0,.int .i64 0] 38)=u:=⟨_,rfl⟩
 have hb2:Below w1.heap.size w1 w2:=by rw[<-hw2];exact bA
 have hH2:Has w2 w1.heap.size 38 #[.int .i64 ref,.bool rev,.slice none 0 0,.slice none 0 0,.int .i64 0]:=by rw[<-hw2];exact Has.made _ _ _
 obtain⟨gm,hgm⟩: ∃g,w1.heap.size=g:=⟨_,rfl⟩
 rw[hgm]at hH2;have hgm2:wa.heap.size<=gm:=by rw[<-hgm];exact HB1.out.size
 have HB2:=tB HB1 hb2;have HM2:=zq hH2;have HW2:=zq hw2;have HGM:=zq hgm;clear hw2 hb2 hH2 hgm HB1;go_upto_region 4 with fail;rw[HW2.out];simp only[HGM.out];clear HW2 HGM;have hpl:=HPL.out w2 (HUP.out _ HB2.out);rw[place17]at hpl;dsimp only at hpl;obtain⟨bq,hbq⟩: ∃q,balR t ref=q:=⟨_,rfl⟩
 obtain⟨ok,hok⟩: ∃q,(balF t ref).isSome=q:=⟨_,rfl⟩
 rw[hbq,hok]at hpl;have HBQ:=zq hbq;have HOK:=zq hok;obtain⟨bi,be,ba⟩:=bq;unfold psA maC at hpl;dsimp only at hpl;simp only[List.length_nil]at hpl;have HPLX:=zq hpl;clear hbq hok hpl HPL;go_wp2_with (first|(with_reducible refine ldZ 34 (H0.out w2 HB2.out) ?_)|(with_reducible refine ldZ 35 HM2.out ?_));refine HPLX.out.mono ?_;rintro e_ w3 ⟨rfl,hb3⟩;have HB3:=tB HB2 hb3;have HM3:=uH HM2 hb3;clear hb3 HPLX HB2 HM2;go_upto_region 5 with fail;obtain⟨w4,hw4⟩: ∃u,w3.alloc (.cells #[.int .i64 be,.int .i64 ba,.bool rev] 51)=u:=⟨_,rfl⟩
 rw[hw4];have hb4:Below w3.heap.size w3 w4:=by rw[<-hw4];exact bA
 have hH:Has w4 w3.heap.size 51 #[.int .i64 be,.int .i64 ba,.bool rev]:=by rw[<-hw4];exact Has.made _ _ _
 obtain⟨gP,hgP⟩: ∃g,w3.heap.size=g:=⟨_,rfl⟩
 have hgp2:gm<gP:=by rw[<-hgP];exact HM3.out.lt
 rw[hgP]at hH;simp only[hgP];have HB4:=tB HB3 hb4;have HM4:=uH HM3 hb4;have HP4:=zq hH;clear hw4 hb4 hH hgP HB3 HM3
 cases hbf:balF t ref with
 |none=>
  obtain rfl:ok=false:=by rw[<-HOK.out,hbf];rfl
  obtain⟨rfl,rfl⟩:M=noMa/\E=4:=by have h_:=HR.out;rw[read_bal17 HCK.out hbf]at h_;injection h_ with h1_ h2_;exact⟨h1_.symm,h2_.symm⟩
  clear hbf;have HZ:=zq (H1.out w4 HB4.out);have HRR:=zq (qab HZ.out #[.int .i64 0,.bool false,.slice none 0 0,.slice none 0 0,.int .i64 0]);have HBF:=zq (qac (g:=w.heap.size+1) (HBWA.out.trans (HB4.out.mono HBWA.out.size)) (by omega) #[.int .i64 0,.bool false,.slice none 0 0,.slice none 0 0,.int .i64 0]);go_wp2_with (with_reducible refine stZ #[.int .i64 0,.bool false,.slice none 0 0,.slice none 0 0,.int .i64 0] HZ.out ?_);refine rtZ HRR.out ?_;exact⟨⟨none,0,none,0⟩,rfl,⟨SlO.nil _ _ _,SlO.nil _ _ _,Nat.le_refl _,Nat.le_refl _,fun s hs=>by cases hs⟩,HBF.out⟩
 |some bz=>
 obtain rfl:ok=true:=by rw[<-HOK.out,hbf];rfl
 obtain rfl:bz=⟨bi,be,ba⟩:=by rw[<-HBQ.out];unfold balR;rw[hbf];rfl
 have hloc:locE t ref rev 0=(⟨be,ba,rev⟩,0):=by rw[qb8,if_pos HCK.out,hbf]
 have h_:=(read_go17 hloc).symm.trans HR.out;have HR:=zq h_;clear h_ hloc hbf HBQ HOK;obtain⟨rb,hrb⟩: ∃q,qch l=q:=⟨_,rfl⟩
 rw[hrb]at HR;have HRB:=zq hrb;clear hrb;go_upto_region 7 with fail;have HS4:=zq (HSK.out w4 (HUP.out _ HB4.out))
 cases l with
 |nil=>
  obtain rfl:n=0:=HS4.out.len.symm;obtain rfl:rb=false:=HRB.out.symm;obtain⟨rfl,rfl⟩:M=noMa/\E=50:=by have h_:=HR.out;rw[if_pos rfl]at h_;injection h_ with h1_ h2_;exact⟨h1_.symm,h2_.symm⟩
  have HZ:=zq (H1.out w4 HB4.out);have HRR:=zq (qab HZ.out #[.int .i64 0,.bool false,.slice none 0 0,.slice none 0 0,.int .i64 0]);have HBF:=zq (qac (g:=w.heap.size+1) (HBWA.out.trans (HB4.out.mono HBWA.out.size)) (by omega) #[.int .i64 0,.bool false,.slice none 0 0,.slice none 0 0,.int .i64 0]);go_wp2_with (with_reducible refine stZ #[.int .i64 0,.bool false,.slice none 0 0,.slice none 0 0,.int .i64 0] HZ.out ?_);refine rtZ HRR.out ?_;exact⟨⟨none,0,none,0⟩,rfl,⟨SlO.nil _ _ _,SlO.nil _ _ _,Nat.le_refl _,Nat.le_refl _,fun s hs=>by cases hs⟩,HBF.out⟩
 |cons p r=>
 have hmem:p∈p::r:=List.mem_cons_self ..;obtain⟨m,hm⟩: ∃m,n=m+1:=⟨r.length,by rw[<-HS4.out.len];rfl⟩
 subst hm;obtain⟨bk,off,hA,d0,d1⟩:=HS4.out.pk17 (j:=0) (x:=p) rfl;subst hA;have d0':w4.cell? ⟨bk,off,none⟩=some (.int .i64 p.id):=by rw[show off=off+0*2 by omega];exact d0
 have u1:(0:Int)<((m+1:Nat):Int):=by omega
 have u2: ¬((m+1:Nat):Int)=0:=by omega
 have u3:(((m+1:Nat):Int)==0)=false:=by simp;omega
 obtain⟨pi,hpi⟩: ∃q,p.id=q:=⟨_,rfl⟩
 rw[hpi]at d0';have HPI:=zq hpi;clear hpi d0 d1;by_cases z:pi=15;rotate_left
 ·have z1:(pi !=15)=true:=by simp[z]
  obtain rfl:rb=false:=by rw[<-HRB.out];unfold qch;dsimp only;rw[HPI.out,beq_eq_false_iff_ne.2 z];rfl
  clear z;obtain⟨rfl,rfl⟩:M=noMa/\E=50:=by have h_:=HR.out;rw[if_pos rfl]at h_;injection h_ with h1_ h2_;exact⟨h1_.symm,h2_.symm⟩
  have HZ:=zq (H1.out w4 HB4.out);have HRR:=zq (qab HZ.out #[.int .i64 0,.bool false,.slice none 0 0,.slice none 0 0,.int .i64 0]);have HBF:=zq (qac (g:=w.heap.size+1) (HBWA.out.trans (HB4.out.mono HBWA.out.size)) (by omega) #[.int .i64 0,.bool false,.slice none 0 0,.slice none 0 0,.int .i64 0]);go_wp2_with (with_reducible refine stZ #[.int .i64 0,.bool false,.slice none 0 0,.slice none 0 0,.int .i64 0] HZ.out ?_);refine rtZ HRR.out ?_;exact⟨⟨none,0,none,0⟩,rfl,⟨SlO.nil _ _ _,SlO.nil _ _ _,Nat.le_refl _,Nat.le_refl _,fun s hs=>by cases hs⟩,HBF.out⟩
 have z1:(pi !=15)=false:=by simp[z]
 have HP15:=zq (HPI.out.trans z);clear z HPI;go_upto_region 9 with fail;clear z1 d0' u2 u3;go_wp2;skip;go_loopg [13] (m+1) (fun kk v13 wl=> ∃(i:Nat),i<=m+1/\m+1-i<=kk/\v13= .int .i64 i/\Hid (∀j q,j<i->(p::r)[j]?=some q->qay (q.id,q.V)=true)/\Hid (Below w4.heap.size w4 wl))
 case atStart=>exact⟨0,by omega,by omega,rfl,zq (fun j q h=>absurd h (by omega)),zq (Below.refl _ _)⟩
 obtain⟨i,hi,hik,rfl,HALL,HBL⟩:=hrel;obtain⟨k1,hk1⟩: ∃k1,k1=gk:=⟨_,rfl⟩
 subst hk1;obtain⟨wv,hwv⟩: ∃wv,wv=wr:=⟨_,rfl⟩
 subst hwv;have HBV:=zq (HB4.out.trans (HBL.out.mono HB4.out.size));by_cases hlt:i<m+1
 ·obtain⟨x,hx⟩:=glZ (p::r) (i) (by rw[HS4.out.len];exact hlt)
  have HX:=zq hx;have HSV:=zq (HSK.out wv (HUP.out _ HBV.out));obtain⟨b_,o_,e_,d0,d1⟩:=HSV.out.pk17 hx;injection e_ with e_
  injection e_ with e1_ e2_ _
  subst e1_ e2_;have HIT:=zq (items_any x.id x.A x.n x.c x.V wv (HSV.out.each x (List.mem_of_getElem? hx)) (by have:=HV.out x (List.mem_of_getElem? hx);omega));unfold pkV at HIT;obtain⟨q,hq⟩:=geZ ((qcF x.id x.V).2);have HQ:=zq (show qay (x.id,x.V)=decide (q=0)from by rw[<-hq];rfl);rw[hq]at HIT;have x1:(i:Int)<((m+1:Nat):Int):=by omega
  have x2:(0:Int)<=i:=by omega
  have HIN:=zq (show i<m+1/\m+1-i<=k1 from⟨hlt,hik⟩);clear hx hq hlt hik hi;go_upto_region 12 with fail;go_wp2_with fail;refine HIT.out.mono ?_;rintro e_ w5 ⟨A_,m_,c_,rfl,-,hb5⟩;have HB5:=tB HBV hb5;have HL5:=tB HBL hb5;clear hb5 HIT d0 d1 x1 x2 HBV HBL;by_cases z:q=0;rotate_left
  ·have z1:(q !=0)=true:=by simp[z]
   obtain rfl:rb=false:=by
    rw[<-HRB.out];unfold qch;dsimp only;have h1_:((p::r).all fun p=>qay (p.id,p.V))=false:=by rw[List.all_eq_false];exact⟨x,List.mem_of_getElem? HX.out,by rw[HQ.out,decide_eq_false z];decide⟩
    rw[h1_,Bool.and_false]
   clear z;obtain⟨rfl,rfl⟩:M=noMa/\E=50:=by have h_:=HR.out;rw[if_pos rfl]at h_;injection h_ with h1_ h2_;exact⟨h1_.symm,h2_.symm⟩
   have HZ:=zq (H1.out w5 HB5.out);have HRR:=zq (qab HZ.out #[.int .i64 0,.bool false,.slice none 0 0,.slice none 0 0,.int .i64 0]);have HBF:=zq (qac (g:=w.heap.size+1) (HBWA.out.trans (HB5.out.mono HBWA.out.size)) (by omega) #[.int .i64 0,.bool false,.slice none 0 0,.slice none 0 0,.int .i64 0]);go_wp2_with (with_reducible refine stZ #[.int .i64 0,.bool false,.slice none 0 0,.slice none 0 0,.int .i64 0] HZ.out ?_);refine rtZ HRR.out ?_;exact⟨⟨none,0,none,0⟩,rfl,⟨SlO.nil _ _ _,SlO.nil _ _ _,Nat.le_refl _,Nat.le_refl _,fun s hs=>by cases hs⟩,HBF.out⟩
  have z1:(q !=0)=false:=by simp[z]
  have HQT:=zq (HQ.out.trans (decide_eq_true z));clear z;go_wp2;go_roundg (k1-1)
  case measure=>have:=HIN.out;omega
  case rel=>
   refine⟨i+1,by have:=HIN.out;omega,by have:=HIN.out;omega,by first|go_num|(rw[IntWalk.wrap64_in _ (by have h1_:=HIN.out;have h2_:=HNN.out;omega)];go_num),zq fun j x' hj hx'=>?_,HL5⟩;by_cases hji:j=i
   ·subst hji;rw[HX.out]at hx';injection hx' with hx';rw[<-hx'];exact HQT.out
   ·exact HALL.out j x' (by omega) hx'
 obtain rfl:i=m+1:=by omega
 have x1: ¬((m+1:Nat):Int)<((m+1:Nat):Int):=by omega
 have HOKS:=zq (show∀q∈p::r,qay (q.id,q.V)=true from fun q hq=>by obtain⟨j,hj,rfl⟩:=List.getElem_of_mem hq;exact HALL.out j _ (by rw[HS4.out.len]at hj;exact hj) (List.getElem?_eq_getElem hj));obtain rfl:rb=true:=by rw[<-HRB.out];unfold qch;dsimp only;rw[HP15.out,List.all_eq_true.2 HOKS.out];rfl
 have h_:=HR.out;rw[if_neg (by decide)]at h_;have HR:=zq h_;clear h_ hik hlt hi HALL HRB;obtain⟨w5,hw5⟩: ∃u,u=wv:=⟨_,rfl⟩
 subst hw5;have HB5:=HBV;have HM5:=zq (HM4.out.under HBL.out HM4.out.lt);have HP5:=zq (HP4.out.under HBL.out HP4.out.lt);clear HBV HBL HB4 HM4 HP4 HS4;have HS5:=zq (HSK.out w5 (HUP.out _ HB5.out));obtain⟨b_,o_,e_,d0,d1⟩:=HS5.out.pk17 (j:=0) (x:=p) rfl;injection e_ with e_
 injection e_ with e1_ e2_ _
 subst e1_ e2_;have d1':w5.cell? ⟨bk,off+1,none⟩=some (.slice p.A p.n p.c):=by rw[show off+1=off+0*2+1 by omega];exact d1
 have hp15:=HOKS.out p hmem;rw[HP15.out]at hp15;obtain⟨d,u,a_,b2_,nn,R0,R1,hVe,hdb,hub,hnb,hrep,hgap⟩:=qda hp15;have HVE:=zq hVe;have HNB:=zq hnb;have HREP:=zq hrep;have HGAP:=zq hgap;have HVP:=zq (HV.out p hmem);obtain⟨pid,pA,pn,pc,pV⟩:=p;dsimp only at d1' hVe HVE HVP HP15;subst hVe;obtain⟨nk,rfl⟩: ∃k:Nat,nn=k:=⟨nn.toNat,by omega⟩
 skip;have HVS:=zq (fun W (hW:Below wa.heap.size wa W)=>sli_slo17 ((HSK.out W (HUP.out _ hW)).each _ hmem));dsimp only at HVS;have HLN:=zq (show R0.length+5=pn from by have h_:=(HVS.out w5 HB5.out).1;simpa using h_);have HCP:=zq (show pn<=pc from(HS5.out.each _ hmem).cap);obtain⟨bv,ov,hpA,_⟩:=(HVS.out w5 HB5.out).num17 (by have:=HLN.out;omega);subst hpA;have HC:=zq (fun W (hW:Below wa.heap.size wa W)=>show W.cell? ⟨bv,ov,none⟩=some (.int .i64 d)/\W.cell? ⟨bv,ov+1,none⟩=some (.int .i64 u)/\W.cell? ⟨bv,ov+4,none⟩=some (.int .i64 (nk:Int))from by obtain⟨b_,o_,e_,h_⟩:=(HVS.out W hW).num17 (by have:=HLN.out;omega);injection e_ with e_;injection e_ with e1_ e2_ _;subst e1_ e2_;exact⟨h_ 0 (by have:=HLN.out;omega),h_ 1 (by have:=HLN.out;omega),h_ 4 (by have:=HLN.out;omega)⟩);clear hdb hub hnb hrep hgap hp15 d0 d1 hmem HS5;go_upto_region 16 with fail;clear x1 d1';have y0:(0:Int)<pn:=by have:=HLN.out;omega
 have y0n:0<pn:=by have:=HLN.out;omega
 have y1:(1:Int)<pn:=by have:=HLN.out;omega
 have y4:(4:Int)<pn:=by have:=HLN.out;omega
 have HX5:=zq (fun W (hW:Below w5.heap.size w5 W)=>HB5.out.trans (hW.mono HB5.out.size));refine wp_region_held_drew (S:=(fun W_=>(Below w5.heap.size w5 W_))) (by kernel_rfl) ?_ (fun hHeld=>?_)
 ·exact qah (Below.refl _ _)
 refine tkZ 0 74 (h:=?_);simp only[lyZ];refine tkZ 1 75 (h:=?_);simp only[lyZ];refine tkZ 2 76 (hy:=by intro w_ hSw;(try dsimp only at hSw);have s0:=hSw;(have q_:=(HC.out w_ (HX5.out _ s0)).1);go_simp<;>with_reducible rfl) (h:=?_);simp only[lyZ];refine tkZ 3 77 (h:=?_);simp only[lyZ];refine aoZ 4 (some 78) (fun K hK=>?_);go_simp;have s0:=hHeld;refine(rdir17 rev _).mono ?_;rintro e_ q1 ⟨rfl,hq_⟩;have hb_:Below w5.drew.heap.size w5.drew q1:=by rw[<-hq_];exact Below.refl _ _
 go_wp2_with fail;refine hK.out _ _ ?_ (fun hHeld=>?_)
 ·exact s0.trans (hb_.mono s0.size)
 clear hK K s0
 try simp only[lyZ]
 refine tkZ 5 79 (h:=?_);simp only[lyZ];refine dnZ ?_;obtain⟨w6,hw6⟩: ∃u,u=q1:=⟨_,rfl⟩
 subst hw6;have HL6:=zq hHeld;clear hHeld;have HB6:=zq (HB5.out.trans (HL6.out.mono HB5.out.size));have HM6:=zq (HM5.out.under HL6.out HM5.out.lt);have HP6:=zq (HP5.out.under HL6.out HP5.out.lt);clear HL6 HX5 HB5 HM5 HP5;have HR:=zq (show(if(rsecE (d::u::a_::b2_::(nk:Int)::R0) rev).2.2≠0 then(noMa,(rsecE (d::u::a_::b2_::(nk:Int)::R0) rev).2.2)else if(qbh t (stepP ⟨be,ba,rev⟩) ((⟨pid,some ⟨bv,ov,none⟩,pn,pc,d::u::a_::b2_::(nk:Int)::R0⟩:PkE)::r)).2≠0 then(noMa,(qbh t (stepP ⟨be,ba,rev⟩) ((⟨pid,some ⟨bv,ov,none⟩,pn,pc,d::u::a_::b2_::(nk:Int)::R0⟩:PkE)::r)).2)else if mayM t ⟨ref,rev,(qbh t (stepP ⟨be,ba,rev⟩) ((⟨pid,some ⟨bv,ov,none⟩,pn,pc,d::u::a_::b2_::(nk:Int)::R0⟩:PkE)::r)).1,(rsecE (d::u::a_::b2_::(nk:Int)::R0) rev).1,(rsecE (d::u::a_::b2_::(nk:Int)::R0) rev).2.1⟩=true then(⟨ref,rev,(qbh t (stepP ⟨be,ba,rev⟩) ((⟨pid,some ⟨bv,ov,none⟩,pn,pc,d::u::a_::b2_::(nk:Int)::R0⟩:PkE)::r)).1,(rsecE (d::u::a_::b2_::(nk:Int)::R0) rev).1,(rsecE (d::u::a_::b2_::(nk:Int)::R0) rev).2.1⟩,0)else(noMa,7))=(M,E)from HR.out);obtain⟨LK,hLK⟩: ∃q,qbh t (stepP ⟨be,ba,rev⟩) ((⟨pid,some ⟨bv,ov,none⟩,pn,pc,d::u::a_::b2_::(nk:Int)::R0⟩:PkE)::r)=q:=⟨_,rfl⟩
 obtain⟨RS,hRS⟩: ∃q,rsecE (d::u::a_::b2_::(nk:Int)::R0) rev=q:=⟨_,rfl⟩
 have h_:=HR.out;rw[hLK,hRS]at h_;have HR:=zq h_;have HLK:=zq hLK;rw[rsec_shape17]at hRS;have HRS:=zq hRS;clear h_ hLK hRS;by_cases z:d=dirB rev;rotate_left
 ·have z1:(d !=dirB rev)=true:=by simp[z]
  have hrs:RS=([],0,20):=by rw[<-HRS.out,if_pos z]
  obtain⟨rfl,rfl⟩:M=noMa/\E=20:=by have h_:=HR.out;rw[hrs,if_pos (by decide)]at h_;injection h_ with h1_ h2_;exact⟨h1_.symm,h2_.symm⟩
  clear z hrs;have HZ:=zq (H1.out w6 HB6.out);have HRR:=zq (qab HZ.out #[.int .i64 0,.bool false,.slice none 0 0,.slice none 0 0,.int .i64 0]);have HBF:=zq (qac (g:=w.heap.size+1) (HBWA.out.trans (HB6.out.mono HBWA.out.size)) (by omega) #[.int .i64 0,.bool false,.slice none 0 0,.slice none 0 0,.int .i64 0]);go_wp2_with (with_reducible refine stZ #[.int .i64 0,.bool false,.slice none 0 0,.slice none 0 0,.int .i64 0] HZ.out ?_);refine rtZ HRR.out ?_;exact⟨⟨none,0,none,0⟩,rfl,⟨SlO.nil _ _ _,SlO.nil _ _ _,Nat.le_refl _,Nat.le_refl _,fun s hs=>by cases hs⟩,HBF.out⟩
 have z1:(d !=dirB rev)=false:=by simp[z]
 have h_:=HRS.out;rw[if_neg (fun h=>h z)]at h_;have HRS:=zq h_;clear h_ z;have d4:=(HC.out w6 HB6.out).2.2;go_upto_region 18 with fail;clear z1;by_cases z:7<(nk:Int)
 ·have z1:decide (7<(nk:Int))=true:=decide_eq_true z
  have hrs:RS=([],0,2):=by rw[<-HRS.out,if_pos z]
  obtain⟨rfl,rfl⟩:M=noMa/\E=2:=by have h_:=HR.out;rw[hrs,if_pos (by decide)]at h_;injection h_ with h1_ h2_;exact⟨h1_.symm,h2_.symm⟩
  clear hrs;have HZ:=zq (H1.out w6 HB6.out);have HRR:=zq (qab HZ.out #[.int .i64 0,.bool false,.slice none 0 0,.slice none 0 0,.int .i64 0]);have HBF:=zq (qac (g:=w.heap.size+1) (HBWA.out.trans (HB6.out.mono HBWA.out.size)) (by omega) #[.int .i64 0,.bool false,.slice none 0 0,.slice none 0 0,.int .i64 0]);go_wp2_with (with_reducible refine stZ #[.int .i64 0,.bool false,.slice none 0 0,.slice none 0 0,.int .i64 0] HZ.out ?_);refine rtZ HRR.out ?_;exact⟨⟨none,0,none,0⟩,rfl,⟨SlO.nil _ _ _,SlO.nil _ _ _,Nat.le_refl _,Nat.le_refl _,fun s hs=>by cases hs⟩,HBF.out⟩
 have HN7:=zq (show nk<=7 from by omega);have h_:=HRS.out;rw[if_neg z]at h_;have HRS:=zq h_;clear h_;have HRP:=zq (show ShRep SecSh (nk+1) R0 R1 from by have h_:=HREP.out;rw[Int.toNat_natCast]at h_;exact h_);obtain⟨A5,hcu,hv5⟩:=qfZ (p:=5) (HVS.out w6 HB6.out) HCP.out (by have:=HLN.out;omega);have HV5:=zq (fun W (hW:Below wa.heap.size wa W)=>show SlO inC 1 W A5 (pn-5) (pc-5) R0 from hv5 W (HVS.out W hW));obtain⟨n5,hn5⟩: ∃m,pn-5=m:=⟨_,rfl⟩
 obtain⟨c5,hc5⟩: ∃m,pc-5=m:=⟨_,rfl⟩
 rw[hn5,hc5]at hcu HV5;have hcu: ∀W,(Instr.sliceAt 22 (.slice (some ⟨bv,ov,none⟩) pn pc) (some (.int .i64 5)) none none).run Tryz.prog W= .ok (.slice A5 n5 c5) W:=hcu;have HN5:=zq (show n5<=c5/\n5<=1048576 from by have h1_:=HCP.out;have h2_:=HVP.out;omega);clear hv5 hn5 hc5 HREP;obtain⟨SS,hSS⟩: ∃q,qaf u (nk+1) 0 R0=q:=⟨_,rfl⟩
 have HSS:=zq hSS;have HSX:=zq (fun W (hW:Below wa.heap.size wa W)=>rsections17b R0 R1 (nk+1) u A5 n5 c5 W (HV5.out W hW) HN5.out.1 HN5.out.2 (by have:=HN7.out;omega) HRP.out);have HST:=zq (qgs (u:=u) (to_:=0) (k:=nk+1) (V:=R0));rw[hSS]at HSX HST;have h_:=HRS.out;rw[hSS]at h_;have HRS:=zq h_;clear h_ hSS;obtain⟨SL,SR,SE⟩:=SS;dsimp only at HSX HST;have h_:=HRS.out;dsimp only at h_;have HRS:=zq h_;clear h_;go_upto_region 20 with fail;clear d4
 try clear z
 have hw1:IntKind.i64.wrap ((nk:Int)+1)=((nk+1:Nat):Int):=by rw[IntKind.wrap_i64];have:=HN7.out;omega
 have HX6:=zq (fun W (hW:Below w6.heap.size w6 W)=>HB6.out.trans (hW.mono HB6.out.size));obtain⟨sm,hsm⟩: ∃q,SL.length=q:=⟨_,rfl⟩
 rw[hsm]at HSX;have HSM:=zq hsm;obtain⟨rm,hrm⟩: ∃q,SR.length=q:=⟨_,rfl⟩
 rw[hrm]at HSX;have HRM:=zq hrm;clear hsm hrm;go_cut [17,18,19] (fun s17 s18 s19 wx=>s19= .int .i64 SE/\ ∃X x B bd,s17= .slice X sm x/\s18= .slice B rm bd/\OwR scC17 2 66 w6.heap.size wx X sm x SL/\SlO inC 1 wx B rm bd SR/\rm<=bd/\Below w6.heap.size w6 wx)
 case first=>
  refine wp_region_held_drew (S:=(fun W_=>(Below w6.heap.size w6 W_))) (by kernel_rfl) ?_ (fun hHeld=>?_)
  ·exact qah (Below.refl _ _)
  refine tkZ 0 87 (h:=?_);simp only[lyZ];refine tqZ 1 88 (fun w_ hSw=>And.intro (hSw) (hcu w_)) (h:=?_);simp only[lyZ];refine tkZ 2 89 (h:=?_);simp only[lyZ];refine tkZ 3 90 (h:=?_);simp only[lyZ];refine tkZ 4 91 (hy:=by intro w_ hSw;(try dsimp only at hSw);have s0:=hSw;(have q_:=(HC.out w_ (HX6.out _ s0)).2.2);go_simp<;>with_reducible rfl) (h:=?_);simp only[lyZ];refine tkZ 5 92 (h:=?_);simp only[lyZ];refine tkZ 6 93 (h:=?_);simp only[lyZ];refine tkZ 7 94 (h:=?_);simp only[lyZ];refine tkZ 8 95 (hy:=by intro w_ hSw;(try dsimp only at hSw);have s0:=hSw;(have q_:=(HC.out w_ (HX6.out _ s0)).2.1);go_simp<;>with_reducible rfl) (h:=?_);simp only[lyZ];refine aoZ 9 (some 96) (fun K hK=>?_);go_simp;have s0:=hHeld;refine(HSX.out _ (HX6.out _ s0)).mono ?_;rintro e_ q1 ⟨X_,x_,B_,bd_,rfl,hso_,hsr_,hbd_,hb_⟩;have HBD_:=zq hbd_;have hz_:=s0.size;have HSO_:=zq (hso_.to_base hz_);have HSR_:=zq (hsr_);go_wp2_with fail;refine hK.out _ _ ?_ (fun hHeld=>?_)
  ·exact s0.trans (hb_.mono s0.size)
  clear hK K s0
  try simp only[lyZ]
  refine tkZ 10 86 (h:=?_);simp only[lyZ];refine tkZ 11 97 (h:=?_);simp only[lyZ];refine tkZ 12 98 (h:=?_);simp only[lyZ];refine tkZ 13 99 (h:=?_);simp only[lyZ];refine tkZ 14 17 (h:=?_);simp only[lyZ];refine tkZ 15 18 (h:=?_);simp only[lyZ];refine tkZ 16 19 (h:=?_);simp only[lyZ];refine dnZ ?_;go_wp2_with fail;go_meet
  exact⟨rfl,X_,x_,B_,bd_,rfl,rfl,HSO_.out,HSR_.out,HBD_.out,hHeld⟩
 obtain⟨rfl,X,x,B,bd,rfl,rfl,hso_,hsr_,hbd_,hb_⟩:=hcut;obtain⟨w7,hw7⟩: ∃u,u=wc:=⟨_,rfl⟩
 subst hw7;have HSO:=zq hso_;have HSR:=zq hsr_;have HBD:=zq hbd_;have HB7:=tB HB6 hb_;have HM7:=uH HM6 hb_;have HP7:=uH HP6 hb_;have HW67:=zq (show wa.heap.size<=w6.heap.size from HB6.out.size);clear hso_ hsr_ hbd_ hb_ HB6 HM6 HP6 hcu HSX HX6 hw1 HV5 HN5;by_cases z:SE=0;rotate_left
 ·have z1:(SE !=0)=true:=by simp[z]
  have hrs:RS=([],0,SE):=by rw[<-HRS.out,if_pos z]
  obtain⟨rfl,rfl⟩:M=noMa/\E=SE:=by have h_:=HR.out;rw[hrs,if_pos z]at h_;injection h_ with h1_ h2_;exact⟨h1_.symm,h2_.symm⟩
  clear z hrs;have HZ:=zq (H1.out w7 HB7.out);have HRR:=zq (qab HZ.out #[.int .i64 0,.bool false,.slice none 0 0,.slice none 0 0,.int .i64 0]);have HBF:=zq (qac (g:=w.heap.size+1) (HBWA.out.trans (HB7.out.mono HBWA.out.size)) (by omega) #[.int .i64 0,.bool false,.slice none 0 0,.slice none 0 0,.int .i64 0]);go_wp2_with (with_reducible refine stZ #[.int .i64 0,.bool false,.slice none 0 0,.slice none 0 0,.int .i64 0] HZ.out ?_);refine rtZ HRR.out ?_;exact⟨⟨none,0,none,0⟩,rfl,⟨SlO.nil _ _ _,SlO.nil _ _ _,Nat.le_refl _,Nat.le_refl _,fun s hs=>by cases hs⟩,HBF.out⟩
 subst z;have z1:((0:Int) !=0)=false:=rfl;have h_:=HRS.out;rw[if_neg (fun h=>h rfl)]at h_;have HRS:=zq h_;clear h_;have hsr1:SR=R1:=by have h_:=secs_rest17 (u:=u) (to_:=0) HRP.out (by rw[HSS.out]);rw[HSS.out]at h_;exact h_
 subst hsr1;have HFT:=zq (gap_fit17 HGAP.out);have HRL:=zq (rep_len17 HRP.out);have HGX:=zq (rgap17b SR u B rm bd w7 HSR.out HBD.out (by have h1_:=HRL.out;have h2_:=HRM.out;have h3_:=HLN.out;have h4_:=HVP.out;omega) (by have h1_:=HFT.out.1;rw[HRM.out]at h1_;exact h1_) (by have h1_:=HFT.out.2.1;rw[HRM.out]at h1_;exact h1_) (by have h1_:=HFT.out.2.2;rw[HRM.out]at h1_;exact h1_));obtain⟨GG,hGG⟩: ∃q,gapE SR u=q:=⟨_,rfl⟩
 rw[hGG]at HGX;have h_:=HRS.out;rw[hGG]at h_;have HRS:=zq h_;clear h_ hGG;obtain⟨G,GE⟩:=GG;dsimp only at HGX;have h_:=HRS.out;dsimp only at h_;obtain rfl:(SL,G,GE)=RS:=h_;have h_:=HR.out;dsimp only at h_;have HR:=zq h_;clear h_;have d1:=(HC.out w7 HB7.out).2.1;go_upto_region 23 with fail;clear z1;go_wp2_with fail;refine HGX.out.mono ?_;rintro e_ w8 ⟨rfl,hb8⟩;have HB8:=tB HB7 hb8;have HM8:=uH HM7 hb8;have HP8:=uH HP7 hb8;have HSO8:=zq (HSO.out.under hb8);clear hb8 HGX d1 HB7 HM7 HP7 HSO;by_cases z:GE=0;rotate_left
 ·have z1:(GE !=0)=true:=by simp[z]
  obtain⟨rfl,rfl⟩:M=noMa/\E=GE:=by have h_:=HR.out;rw[if_pos z]at h_;injection h_ with h1_ h2_;exact⟨h1_.symm,h2_.symm⟩
  clear z;have HZ:=zq (H1.out w8 HB8.out);have HRR:=zq (qab HZ.out #[.int .i64 0,.bool false,.slice none 0 0,.slice none 0 0,.int .i64 0]);have HBF:=zq (qac (g:=w.heap.size+1) (HBWA.out.trans (HB8.out.mono HBWA.out.size)) (by omega) #[.int .i64 0,.bool false,.slice none 0 0,.slice none 0 0,.int .i64 0]);go_wp2_with (with_reducible refine stZ #[.int .i64 0,.bool false,.slice none 0 0,.slice none 0 0,.int .i64 0] HZ.out ?_);refine rtZ HRR.out ?_;exact⟨⟨none,0,none,0⟩,rfl,⟨SlO.nil _ _ _,SlO.nil _ _ _,Nat.le_refl _,Nat.le_refl _,fun s hs=>by cases hs⟩,HBF.out⟩
 subst z;have z1:((0:Int) !=0)=false:=rfl;have h_:=HR.out;rw[if_neg (fun h=>h rfl)]at h_;have HR:=zq h_;clear h_;have HMa:=zq (qab HM8.out #[.int .i64 ref,.bool rev,.slice none 0 0,.slice X sm x,.int .i64 0]);have HMb:=zq (qab HMa.out #[.int .i64 ref,.bool rev,.slice none 0 0,.slice X sm x,.int .i64 G]);have HBb:=zq (qac (g:=gm) (qac (g:=gm) HB8.out hgm2 #[.int .i64 ref,.bool rev,.slice none 0 0,.slice X sm x,.int .i64 0]) hgm2 #[.int .i64 ref,.bool rev,.slice none 0 0,.slice X sm x,.int .i64 G]);have HPb:=zq (qae (g:=gm) (qae (g:=gm) HP8.out (by omega) #[.int .i64 ref,.bool rev,.slice none 0 0,.slice X sm x,.int .i64 0]) (by omega) #[.int .i64 ref,.bool rev,.slice none 0 0,.slice X sm x,.int .i64 G]);have hoa_:=HSO8.out.kept (qaj w8 gm #[.int .i64 ref,.bool rev,.slice none 0 0,.slice X sm x,.int .i64 0]) (.inr (HSO8.out.apart HM8.out (by decide)));have HSOb:=zq (hoa_.kept (qaj _ gm #[.int .i64 ref,.bool rev,.slice none 0 0,.slice X sm x,.int .i64 G]) (.inr (hoa_.apart HMa.out (by decide))));clear hoa_;obtain⟨w9,hw9⟩: ∃u,(w8.setRow gm #[.int .i64 ref,.bool rev,.slice none 0 0,.slice X sm x,.int .i64 0]).setRow gm #[.int .i64 ref,.bool rev,.slice none 0 0,.slice X sm x,.int .i64 G]=u:=⟨_,rfl⟩
 rw[hw9]at HMb HBb HPb HSOb;have HW9:=zq hw9;clear hw9;go_upto_region 28 with(first|(with_reducible refine qal (o:=⟨none,_,_,_,_,_⟩) rfl 36 _ _ rfl (gm) 3 (.slice X sm x) rfl rfl 38 #[.int .i64 ref,.bool rev,.slice none 0 0,.slice none 0 0,.int .i64 0] HM8.out (Nat.le_of_ble_eq_true rfl) (by kernel_rfl) rfl #[.int .i64 ref,.bool rev,.slice none 0 0,.slice X sm x,.int .i64 0] rfl ?_)|(with_reducible refine qal (o:=⟨none,_,_,_,_,_⟩) rfl 3 _ _ rfl (gm) 4 (.int .i64 G) rfl rfl 38 #[.int .i64 ref,.bool rev,.slice none 0 0,.slice X sm x,.int .i64 0] HMa.out (Nat.le_of_ble_eq_true rfl) (by kernel_rfl) rfl #[.int .i64 ref,.bool rev,.slice none 0 0,.slice X sm x,.int .i64 G] rfl ?_))
 rw[HW9.out];clear HW9 z1 HMa HM8 HB8 HP8 HSO8;have p0:w9.cell? ⟨gP,0,none⟩=some (.int .i64 be):=HPb.out.cell 0;have HMc:=zq (HMb.out.beside (.cells #[.int .i64 be,.bool rev] 30));have HOc:=zq (show OwR stC 2 30 w9.heap.size (w9.alloc (.cells #[.int .i64 be,.bool rev] 30)) (some ⟨w9.heap.size,0,none⟩) 1 1 [⟨be,rev⟩]from⟨World.ownsRow_lit (base:=w9.heap.size) (e:=30) (size:=2) w9 #[.int .i64 be,.bool rev] 1 (Nat.le_refl _) (by unfold maxLen;omega) rfl,rfl⟩);have HBc:=zq (HBb.out.alloc HBb.out.size (.cells #[.int .i64 be,.bool rev] 30));have HSOc:=zq (HSOb.out.under ((Below.refl _ _).alloc (Nat.le_refl _) (.cells #[.int .i64 be,.bool rev] 30)));have hgb:gm<w9.heap.size:=HMb.out.lt;have HMd:=zq (qab HMc.out #[.int .i64 ref,.bool rev,.slice (some ⟨w9.heap.size,0,none⟩) 1 1,.slice X sm x,.int .i64 G]);have HOd:=zq (HOc.out.kept (qaj _ gm #[.int .i64 ref,.bool rev,.slice (some ⟨w9.heap.size,0,none⟩) 1 1,.slice X sm x,.int .i64 G]) (.inr (HOc.out.apart HMc.out (by decide))));have HBd:=zq (qac (g:=gm) HBc.out hgm2 #[.int .i64 ref,.bool rev,.slice (some ⟨w9.heap.size,0,none⟩) 1 1,.slice X sm x,.int .i64 G]);have HSOd:=zq (HSOc.out.kept (qaj _ gm #[.int .i64 ref,.bool rev,.slice (some ⟨w9.heap.size,0,none⟩) 1 1,.slice X sm x,.int .i64 G]) (.inr (HSOc.out.apart HMc.out (by decide))));obtain⟨w10,hw10⟩: ∃u,(w9.alloc (.cells #[.int .i64 be,.bool rev] 30)).setRow gm #[.int .i64 ref,.bool rev,.slice (some ⟨w9.heap.size,0,none⟩) 1 1,.slice X sm x,.int .i64 G]=u:=⟨_,rfl⟩
 have hsz10:w9.heap.size<w10.heap.size:=by rw[<-hw10];simp[World.setRow]
 rw[hw10]at HMd HOd HBd HSOd;have HW10:=zq hw10;clear hw10;go_upto_region 29 with(with_reducible refine qal (o:=⟨none,_,_,_,_,_⟩) rfl 35 _ _ rfl (gm) 2 (.slice (some ⟨w9.heap.size,0,none⟩) 1 1) rfl rfl 38 #[.int .i64 ref,.bool rev,.slice none 0 0,.slice X sm x,.int .i64 G] HMc.out (Nat.le_of_ble_eq_true rfl) (by kernel_rfl) rfl #[.int .i64 ref,.bool rev,.slice (some ⟨w9.heap.size,0,none⟩) 1 1,.slice X sm x,.int .i64 G] rfl ?_)
 rw[HW10.out];clear HW10 p0 HMc HOc HBc HSOc HMb HBb HPb;have HXL:=zq (show∀ad,X=some ad->ad.block<w9.heap.size from fun ad ha=>HSOb.out.lt ha);obtain⟨b0,hb0⟩: ∃q,w9.heap.size=q:=⟨_,rfl⟩
 rw[hb0]at HMd HOd hgb hsz10 HXL;simp only[hb0];clear hb0 HSOb;obtain⟨LP,LE⟩:=LK;have h_:=HR.out;dsimp only at h_;have HR:=zq h_;clear h_;go_upto_block 2 with fail
 go_cut [22] (fun _ wx=> ∃(PB:Option Addr) (pm pd:Nat),LE=0/\pm<=40/\Has wx gm 38 #[.int .i64 ref,.bool rev,.slice PB pm pd,.slice X sm x,.int .i64 G]/\OwR stC 2 30 b0 wx PB pm pd LP/\OwR scC17 2 66 w6.heap.size wx X sm x SL/\Below wa.heap.size wa wx)
 case first=>
  go_wp2_with fail;go_loopg [22] (m+1) (fun kk v22 wl=> ∃(i:Nat),i<=m+1/\m+1-i<=kk/\v22= .int .i64 i/\Hid (∀j q,j<i->((⟨pid,some ⟨bv,ov,none⟩,pn,pc,d::u::a_::b2_::(nk:Int)::R0⟩:PkE)::r)[j]?=some q->(q.id==5)=false)/\wl=w10)
  case atStart=>exact⟨0,by omega,by omega,rfl,zq (fun j q h=>absurd h (by omega)),rfl⟩
  obtain⟨i,hi,hik,rfl,HNO,hwr⟩:=hrel;obtain⟨k1,hk1⟩: ∃k1,k1=gk:=⟨_,rfl⟩
  subst hk1;subst hwr;by_cases hlt:i<m+1;rotate_left
  ·have x1: ¬(i:Int)<((m+1:Nat):Int):=by omega
   have hfn:(qaM ((⟨pid,some ⟨bv,ov,none⟩,pn,pc,d::u::a_::b2_::(nk:Int)::R0⟩:PkE)::r)).find? (fun q=>q.1==5)=none:=find_none17 (fun j y hj hy=>by unfold qaM at hy hj;rw[List.getElem?_map]at hy;obtain⟨q_,hq_,rfl⟩:=Option.map_eq_some_iff.1 hy;rw[List.length_map]at hj;exact HNO.out j q_ (by have h_:=(HSK.out _ (HUP.out _ HBd.out)).len;omega) hq_);have hlk:=HLK.out;unfold qbh at hlk;rw[hfn]at hlk;dsimp only at hlk;injection hlk with hl1 hl2
   have HL1:=zq hl1;have HL2:=zq hl2;clear hfn hl1 hl2 hlt hik hi;go_wp2;go_meet
   exact⟨_,1,1,HL2.out.symm,by omega,HMd.out,by rw[<-HL1.out];exact HOd.out,HSOd.out,HBd.out⟩
  obtain⟨x5,hx⟩: ∃x5,((⟨pid,some ⟨bv,ov,none⟩,pn,pc,d::u::a_::b2_::(nk:Int)::R0⟩:PkE)::r)[i]?=some x5:=⟨_,List.getElem?_eq_getElem (by rw[(HSK.out _ (HUP.out _ HBd.out)).len];exact hlt)⟩
  have HX:=zq hx;have HPK:=zq (fun W (hW:Below wa.heap.size wa W)=>(HSK.out W (HUP.out _ hW)).pk17 hx);obtain⟨b_,o_,e_,d0,d1⟩:=HPK.out _ HBd.out;injection e_ with e_
  injection e_ with e1_ e2_ _
  subst e1_ e2_;have hmx:=List.mem_of_getElem? hx;have HMX:=zq hmx;obtain⟨pi5,hpi5⟩: ∃q,x5.id=q:=⟨_,rfl⟩
  rw[hpi5]at d0;have HPI:=zq hpi5;have x1:(i:Int)<((m+1:Nat):Int):=by omega
  have x2:(0:Int)<=i:=by omega
  have HIN:=zq (show i<m+1/\m+1-i<=k1 from⟨hlt,hik⟩);clear hx d1 hmx hpi5 hlt hik hi;by_cases z:pi5=5;rotate_left
  ·have z1:(pi5==5)=false:=by simp[z]
   have HZ5:=zq z1;clear z;go_wp2;go_roundg (k1-1)
   case measure=>have:=HIN.out;omega
   case rel=>
    refine⟨i+1,by have:=HIN.out;omega,by have:=HIN.out;omega,by first|go_num|(rw[IntWalk.wrap64_in _ (by have h1_:=HIN.out;have h2_:=HNN.out;omega)];go_num),zq fun j x' hj hx'=>?_,rfl⟩;by_cases hji:j=i
    ·subst hji;rw[HX.out]at hx';injection hx' with hx';rw[<-hx',HPI.out];exact HZ5.out
    ·exact HNO.out j x' (by omega) hx'
  have z1:(pi5==5)=true:=by simp[z]
  have HZ5:=zq (HPI.out.trans z);clear z;have hok5:=HOKS.out x5 HMX.out;rw[HZ5.out]at hok5;obtain⟨d5,u5,R05,R15,n5,k5,ks5,hV5,hlk5,hnb5,hks5,hls5⟩:=qeQ hok5;have hlk:qbh t (stepP ⟨be,ba,rev⟩) ((⟨pid,some ⟨bv,ov,none⟩,pn,pc,d::u::a_::b2_::(nk:Int)::R0⟩:PkE)::r)=qdN t [⟨be,rev⟩] x5.V:=by
   have hfs:(qaM ((⟨pid,some ⟨bv,ov,none⟩,pn,pc,d::u::a_::b2_::(nk:Int)::R0⟩:PkE)::r)).find? (fun q=>q.1==5)=some (x5.id,x5.V):=qff (i:=i) (by unfold qaM;rw[List.getElem?_map,HX.out];rfl) (by show(x5.id==5)=true;rw[HZ5.out];rfl) (fun j y hj hy=>by unfold qaM at hy;rw[List.getElem?_map]at hy;obtain⟨q_,hq_,rfl⟩:=Option.map_eq_some_iff.1 hy;exact HNO.out j q_ hj hq_);unfold qbh;rw[hfs]
   rfl
  rw[HLK.out,hV5,<-qdb hlk5 hks5 hls5]at hlk;have HLF:=zq hlk.symm;have HKB:=zq (show ks5.length<=31 from by omega);have HVX:=zq (fun W (hW:Below wa.heap.size wa W)=>(sli_slo17 ((HSK.out W (HUP.out _ hW)).each _ HMX.out)));have HCX:=zq (show x5.n<=x5.c from((HSK.out _ (HUP.out _ HBd.out)).each _ HMX.out).cap);rw[hV5]at HVX;have HRL:=zq (fun W (hW:Below wa.heap.size wa W) (hp_:OwR stC 2 30 b0 W (some ⟨b0,0,none⟩) 1 1 [⟨be,rev⟩]) (hz_:b0<=W.heap.size)=>rlinked17 t a ⟨be,rev⟩ k5 ks5 d5 u5 n5 R05 R15 (some ⟨b0,0,none⟩) 1 b0 x5.A x5.n x5.c W (fun W' hW'=>HTP.out W' (HUP.out _ (hW.trans (hW'.mono (by omega))))) HLT.out (fun W' hW'=>HVX.out W' (hW.trans (hW'.mono (by omega)))) HCX.out hlk5 hnb5 hks5 hls5 hp_ hz_);rw[HLF.out]at HRL;clear hok5 hV5 hlk5 hnb5 hks5 hls5 hlk;go_upto_region 33 with fail;clear z1 d0;go_cut [23,24] (fun s23 s24 wx=>s24= .int .i64 LE/\ ∃PB pm pd,s23= .slice PB pm pd/\Has wx gm 38 #[.int .i64 ref,.bool rev,.slice (some ⟨b0,0,none⟩) 1 1,.slice X sm x,.int .i64 G]/\OwR stC 2 30 b0 wx PB pm pd LP/\OwR scC17 2 66 w6.heap.size wx X sm x SL/\Below wa.heap.size wa wx)
  case first=>
   refine wp_region_held_drew (S:=(fun W_=>(Has W_ (w.heap.size) 27 (tpC t a))/\(Has W_ (gm) 38 #[.int .i64 ref,.bool rev,.slice (some ⟨b0,0,none⟩) 1 1,.slice X sm x,.int .i64 G])/\(Below wa.heap.size wa W_))) (by kernel_rfl) ?_ (fun hHeld=>?_)
   ·exact⟨(H0.out _ HBd.out).draw,HMd.out.draw,qah HBd.out⟩
   refine tlZ 0 139 w.heap.size (tpC t a) (fun _ ⟨h_,_,_⟩=>h_) (h:=?_);simp only[lyZ];refine tkZ 1 140 (h:=?_);simp only[lyZ];refine tqZ 2 141 (fun w_ ⟨s0,s1,s2⟩=>(show w_.cell? ⟨gm,2,none⟩=some (.slice (some ⟨b0,0,none⟩) 1 1:Value)from s1.cell 2)) (h:=?_);simp only[lyZ];refine tkZ 3 142 (h:=?_);simp only[lyZ];refine tkZ 4 143 (h:=?_);simp only[lyZ];refine tkZ 5 144 (h:=?_);simp only[lyZ];refine tkZ 6 145 (h:=?_);simp only[lyZ];refine tkZ 7 146 (hy:=by intro w_ hSw;(try dsimp only at hSw);obtain⟨s0,s1,s2⟩:=hSw;(obtain⟨b_,o_,e_,d0_,d1_⟩:=HPK.out w_ s2);(injection e_ with e_);(injection e_ with e1_ e2_ _);(subst e1_ e2_);go_simp<;>with_reducible rfl) (h:=?_);simp only[lyZ];refine aoZ 8 (some 147) (fun K hK=>?_);go_simp;obtain⟨s0,s1,s2⟩:=hHeld;refine(HRL.out _ s2 HOd.out.draw1 (Nat.le_of_lt hsz10)).mono ?_;rintro e_ q1 ⟨PB_,pm_,pd_,rfl,hpo_,hb_⟩;have HSO_:=zq (own_lowB17 HSOd.out.draw1 HXL.out hb_);have HPO_:=zq (hpo_);go_wp2_with fail;refine hK.out _ _ ?_ (fun hHeld=>?_)
   ·exact⟨s0.under hb_ (by omega),s1.under hb_ (by omega),s2.trans (hb_.mono (by omega))⟩
   clear hK K s0 s1 s2
   try simp only[lyZ]
   refine tkZ 9 138 (h:=?_);simp only[lyZ];refine tkZ 10 148 (h:=?_);simp only[lyZ];refine tkZ 11 149 (h:=?_);simp only[lyZ];refine tkZ 12 23 (h:=?_);simp only[lyZ];refine tkZ 13 24 (h:=?_);simp only[lyZ];refine dnZ ?_;go_wp2_with fail;go_meet
   exact⟨rfl,PB_,pm_,pd_,rfl,hHeld.2.1,HPO_.out,HSO_.out,hHeld.2.2⟩
  obtain⟨rfl,PB,pm,pd,rfl,hm_,hp_,hs_,hb_⟩:=hcut;obtain⟨w11,hw11⟩: ∃u,u=wc:=⟨_,rfl⟩
  subst hw11;have HM11:=zq hm_;have HP11:=zq hp_;have HS11:=zq hs_;have HB11:=zq hb_;clear hm_ hp_ hs_ hb_ HMd HOd HSOd HBd HRL;by_cases z:LE=0;rotate_left
  ·have z1:(LE !=0)=true:=by simp[z]
   obtain⟨rfl,rfl⟩:M=noMa/\E=LE:=by have h_:=HR.out;rw[if_pos z]at h_;injection h_ with h1_ h2_;exact⟨h1_.symm,h2_.symm⟩
   clear z;have HZ:=zq (H1.out w11 HB11.out);have HRR:=zq (qab HZ.out #[.int .i64 0,.bool false,.slice none 0 0,.slice none 0 0,.int .i64 0]);have HBF:=zq (qac (g:=w.heap.size+1) (HBWA.out.trans (HB11.out.mono HBWA.out.size)) (by omega) #[.int .i64 0,.bool false,.slice none 0 0,.slice none 0 0,.int .i64 0]);go_wp2_with (with_reducible refine stZ #[.int .i64 0,.bool false,.slice none 0 0,.slice none 0 0,.int .i64 0] HZ.out ?_);refine rtZ HRR.out ?_;exact⟨⟨none,0,none,0⟩,rfl,⟨SlO.nil _ _ _,SlO.nil _ _ _,Nat.le_refl _,Nat.le_refl _,fun s hs=>by cases hs⟩,HBF.out⟩
  subst z;have z1:((0:Int) !=0)=false:=rfl;have HPM:=zq (show pm<=40 from by rw[<-HP11.out.2];have h_:=qeR t [⟨be,rev⟩] (k5::ks5);rw[HLF.out]at h_;have h2_:=HKB.out;simp only[List.length_cons,List.length_nil]at h_;omega);have HMn:=zq (qab HM11.out #[.int .i64 ref,.bool rev,.slice PB pm pd,.slice X sm x,.int .i64 G]);have HPn:=zq (HP11.out.kept (qaj _ gm #[.int .i64 ref,.bool rev,.slice PB pm pd,.slice X sm x,.int .i64 G]) (.inr (HP11.out.apart HM11.out (by decide))));have HSn:=zq (HS11.out.kept (qaj _ gm #[.int .i64 ref,.bool rev,.slice PB pm pd,.slice X sm x,.int .i64 G]) (.inr (HS11.out.apart HM11.out (by decide))));have HBn:=zq (qac (g:=gm) HB11.out hgm2 #[.int .i64 ref,.bool rev,.slice PB pm pd,.slice X sm x,.int .i64 G]);go_wp2_with (with_reducible refine qal (o:=⟨none,_,_,_,_,_⟩) rfl 35 _ _ rfl (gm) 2 (.slice PB pm pd) rfl rfl 38 #[.int .i64 ref,.bool rev,.slice (some ⟨b0,0,none⟩) 1 1,.slice X sm x,.int .i64 G] HM11.out (Nat.le_of_ble_eq_true rfl) (by kernel_rfl) rfl #[.int .i64 ref,.bool rev,.slice PB pm pd,.slice X sm x,.int .i64 G] rfl ?_);go_meet
  exact⟨PB,pm,pd,by first|trivial|rfl,HPM.out,HMn.out,HPn.out,HSn.out,HBn.out⟩
 obtain⟨PB,pm,pd,rfl,hpm_,hm_,hp_,hs_,hb_⟩:=hcut;obtain⟨w11,hw11⟩: ∃u,u=wc:=⟨_,rfl⟩
 subst hw11;have HM11:=zq hm_;have HPO:=zq hp_;have HSO:=zq hs_;have HB11:=zq hb_;have HPM:=zq hpm_;clear hm_ hp_ hs_ hb_ hpm_ HMd HOd HSOd HBd;have h_:=HR.out;rw[if_neg (fun h=>h rfl)]at h_;have HR:=zq h_;clear h_;have hpl_:LP.length=pm:=HPO.out.2;have hsl_:SL.length=sm:=HSO.out.2;have HTOP:=zq (show∀s∈SL,s.to_<=9223372036854775807 from fun s hs=>by have h1_:=HST.out s hs;have h2_:=HN7.out;omega);have HMR:Hid (∀W,Below w11.heap.size w11 W->MaR W ⟨ref,rev,LP,SL,G⟩ ⟨PB,pd,X,x⟩):=zq fun W hW=>⟨by show SlO stC 2 W PB LP.length pd LP;rw[hpl_];exact(HPO.out.under hW).sl,by show SlO scC17 2 W X SL.length x SL;rw[hsl_];exact(HSO.out.under hW).sl,by show LP.length<=pd;rw[hpl_];exact HPO.out.cap,by show SL.length<=x;rw[hsl_];exact HSO.out.cap,HTOP.out⟩
 have HMX:=zq (HMY.out w11 (HUP.out _ HB11.out) ⟨ref,rev,LP,SL,G⟩ ⟨PB,pd,X,x⟩ (HMR.out w11 (Below.refl _ _)) (by show LP.length<=1048576;rw[hpl_];have:=HPM.out;omega) (by show SL.length<=1048576;rw[hsl_,<-hsl_];have h_:=congrArg (fun q=>q.1.length) HSS.out;exact Nat.le_trans (secs_few17x HSS.out) (by have:=HN7.out;omega)));unfold maC at HMX;dsimp only at HMX;rw[hpl_,hsl_]at HMX;obtain⟨my,hmy⟩: ∃q,mayM t ⟨ref,rev,LP,SL,G⟩=q:=⟨_,rfl⟩
 rw[hmy]at HMX HR;have HPLn:=zq hpl_;have HSLn:=zq hsl_;clear hmy hpl_ hsl_;go_upto_region 37 with fail;go_wp2_with (first|(with_reducible refine ldZ 156 (H0.out w11 HB11.out) ?_)|(with_reducible refine ldZ 157 HM11.out ?_));refine HMX.out.mono ?_;rintro e_ w12 ⟨rfl,hb12⟩;have HB12:=tB HB11 hb12;have HPO8:=zq (HPO.out.under hb12);have HSO8:=zq (HSO.out.under hb12);have HM12:=uH HM11 hb12;clear hb12 HMX HB11 HPO HSO HM11 HMR
 cases my with
 |false=>
  obtain⟨rfl,rfl⟩:M=noMa/\E=7:=by have h_:=HR.out;rw[if_neg (by decide)]at h_;injection h_ with h1_ h2_;exact⟨h1_.symm,h2_.symm⟩
  have HZ:=zq (H1.out w12 HB12.out);have HRR:=zq (qab HZ.out #[.int .i64 0,.bool false,.slice none 0 0,.slice none 0 0,.int .i64 0]);have HBF:=zq (qac (g:=w.heap.size+1) (HBWA.out.trans (HB12.out.mono HBWA.out.size)) (by omega) #[.int .i64 0,.bool false,.slice none 0 0,.slice none 0 0,.int .i64 0]);go_wp2_with (with_reducible refine stZ #[.int .i64 0,.bool false,.slice none 0 0,.slice none 0 0,.int .i64 0] HZ.out ?_);refine rtZ HRR.out ?_;exact⟨⟨none,0,none,0⟩,rfl,⟨SlO.nil _ _ _,SlO.nil _ _ _,Nat.le_refl _,Nat.le_refl _,fun s hs=>by cases hs⟩,HBF.out⟩
 |true=>
  obtain⟨rfl,rfl⟩:M=⟨ref,rev,LP,SL,G⟩/\E=0:=by have h_:=HR.out;rw[if_pos rfl]at h_;injection h_ with h1_ h2_;exact⟨h1_.symm,h2_.symm⟩
  have HZ:=zq (H1.out w12 HB12.out);have HRR:=zq (qab HZ.out #[.int .i64 ref,.bool rev,.slice PB pm pd,.slice X sm x,.int .i64 G]);have HBF:=zq (qac (g:=w.heap.size+1) (HBWA.out.trans (HB12.out.mono HBWA.out.size)) (by omega) #[.int .i64 ref,.bool rev,.slice PB pm pd,.slice X sm x,.int .i64 G]);have HPF:=zq (HPO8.out.rowlow17 (g:=w.heap.size+1) (by omega) #[.int .i64 ref,.bool rev,.slice PB pm pd,.slice X sm x,.int .i64 G]);have HSF:=zq (HSO8.out.rowlow17 (g:=w.heap.size+1) (by have:=HW67.out;omega) #[.int .i64 ref,.bool rev,.slice PB pm pd,.slice X sm x,.int .i64 G]);go_wp2_with (first|(with_reducible refine ldZ 162 HM12.out ?_)|(with_reducible refine stZ #[.int .i64 ref,.bool rev,.slice PB pm pd,.slice X sm x,.int .i64 G] HZ.out ?_));refine rtZ HRR.out ?_;refine⟨⟨PB,pd,X,x⟩,by unfold maC;dsimp only;rw[HPLn.out,HSLn.out];rfl,⟨?_,?_,?_,?_,HTOP.out⟩,HBF.out⟩
  ·show SlO stC 2 _ PB LP.length pd LP;rw[HPLn.out];exact HPF.out.sl
  ·show SlO scC17 2 _ X SL.length x SL;rw[HSLn.out];exact HSF.out.sl
  ·show LP.length<=pd;rw[HPLn.out];exact HPF.out.cap
  ·show SL.length<=x;rw[HSLn.out];exact HSF.out.cap
end
section
open Go.RowKit
open Go.Great
theorem read_few17 (t:Tp3)(ok:Int×List Int->Bool)(ref:Int)(rev:Bool)(l:List (Int×List Int)):(readE t ok ref rev l).1.path.length<=100/\(readE t ok ref rev l).1.sects.length<=100:=by
 have hz:noMa.path.length<=100/\noMa.sects.length<=100:=by decide
 unfold readE
 repeat' (first|exact hz|split)
 all_goals (dsimp only;repeat' (first|exact hz|split))
 all_goals (rename_i hm;exact⟨Nat.le_trans (qb4.1 hm).few (by decide),Nat.le_trans (qb4.1 hm).eight (by decide)⟩)
theorem planReads_walk (t:Tp3)(a:TpA)(ref:Int)(rev:Bool)(A:Option Addr)(n c:Nat)(l:List PkE)(w:World)(ht:TopR w t a)(hcj:t.joints.length<=a.cj)(_:(Lit.int .i64 ref).wf=true)(hs:SlK w A n c l)(hwd:Wd w):
  Calls Tryz.prog 4 #[.agg (tpC t a),.int .i64 ref,.bool rev,.slice A n c] w fun e w'=>e= .returned (.bool true)/\Below w.heap.size w w':=by
 obtain⟨wa,hwa,hbwa,HWA,HBWA,h0⟩:=bx1Z w 27 (tpC t a);have HT:=zq (ht.under hbwa);have HCJ:=zq hcj;have HWD:=zq (fun W (hW:Below w.heap.size w W)=>hwd.under hW);clear hwd;have HS:=zq (hs.under hbwa);have HL:=zq hs.len;have H0:=zq h0;have HB:=HBWA;obtain⟨lt,hlt⟩: ∃q,qaJ t=q:=⟨_,rfl⟩
 have HLT:=zq hlt;obtain⟨fw,hfw⟩: ∃q,qfm 0 n l=q:=⟨_,rfl⟩
 have HFW:=zq hfw;clear hwa hbwa h0 ht hcj hs hlt hfw HBWA;go_enter Tryz.func4,Tryz.ntmps4;go_upto_region 1 with fail;rw[HWA.out];clear HWA;go_wp2_with fail;refine(awake17_any wa (HWD.out wa HB.out)).mono ?_;rintro e_ v1 ⟨rfl,hb⟩;have HB:=tB HB hb;have H0:=uH H0 hb;have HT:=zq (HT.out.under hb);have HS:=zq (HS.out.under hb);clear hb;go_wp2_with (with_reducible refine ldZ 18 H0.out ?_);refine(rlight_any13 t a v1 HT.out).mono ?_;rw[HLT.out];rintro e_ v2 ⟨rfl,hb⟩;have HB:=tB HB hb;have H0:=uH H0 hb;have HT:=zq (HT.out.under hb);have HS:=zq (HS.out.under hb);clear hb;go_wp2_with fail;refine(light_any 0 0 0 0 none 0 0 A n c l v2 HS.out).mono ?_;rw[HFW.out];rintro e_ v3 ⟨rfl,hb⟩;have HB:=tB HB hb;have H0:=uH H0 hb;have HT:=zq (HT.out.under hb);have HS:=zq (HS.out.under hb);clear hb
 cases lt with
 |false=>
  go_wp2;go_ret
  exact⟨by first|rfl|simp,HB.out⟩
 |true=>
 cases fw with
 |false=>
  go_wp2;go_ret
  exact⟨by first|rfl|simp,HB.out⟩
 |true=>
 have HN:=zq (show n<=30/\ ∀p∈l,p.n<=3000 from by have h_:=HFW.out;unfold qfm at h_;simp only[Bool.and_eq_true,decide_eq_true_eq,List.all_eq_true]at h_;exact⟨h_.1.2,h_.2⟩);have HF:=zq (read_few17 t qay ref rev (qaM l));obtain⟨M,hM⟩:=geZ (readE t qay ref rev (qaM l));have HM:=zq hM;rw[hM]at HF;clear hM;obtain⟨m,e⟩:=M;dsimp only at HF;go_upto_region 6 with fail;go_wp2_with (with_reducible refine ldZ 35 H0.out ?_);refine(opn_read t a ref rev l A n c v3 HT.out HLT.out HCJ.out HS.out HN.out.1 HN.out.2 (HWD.out _ HB.out)).mono ?_;rw[HM.out];dsimp only;rintro e_ v4 ⟨b1,rfl,hm1,hb⟩;have HM1:=zq hm1;clear hm1;have HB:=tB HB hb;have H0:=uH H0 hb;have HT:=zq (HT.out.under hb);have HS:=zq (HS.out.under hb);clear hb;have hm:Has (v4.alloc (.cells #[.int .i64 0,.bool false,.slice none 0 0,.slice none 0 0,.int .i64 0] 38)) v4.heap.size 38 #[.int .i64 0,.bool false,.slice none 0 0,.slice none 0 0,.int .i64 0]:=Has.made _ _ _;have HMM:=zq hm;obtain⟨u4,hu4⟩: ∃u_,(v4.alloc (.cells #[.int .i64 0,.bool false,.slice none 0 0,.slice none 0 0,.int .i64 0] 38)).setRow v4.heap.size (maC m b1)=u_:=⟨_,rfl⟩
 have hbu4:Below v4.heap.size v4 u4:=by rw[<-hu4];exact qac (g:=v4.heap.size) (bA) (Nat.le_refl _) _
 have H4:=zq (show Has u4 v4.heap.size 38 (maC m b1)from by rw[<-hu4];exact qab hm _);have HUU:=zq hu4;clear hm hu4;go_upto_region 7 with(with_reducible refine stZ (maC m b1) HMM.out ?_)
 rw[HUU.out];clear HUU HMM;obtain⟨g4,hg4⟩: ∃g_,v4.heap.size=g_:=⟨_,rfl⟩
 rw[hg4]at H4;simp only[hg4];clear hg4;have HB:=tB HB hbu4;have H0:=uH H0 hbu4;have HT:=zq (HT.out.under hbu4);have HS:=zq (HS.out.under hbu4);have HM1:=zq (HM1.out.under hbu4);clear hbu4;go_wp2_with (with_reducible refine ldZ 43 H0.out ?_);refine(rread17 t a ref rev l A n c u4 HT.out HLT.out HCJ.out HS.out HN.out.1 HN.out.2 (HWD.out _ HB.out)).mono ?_;rw[HM.out];dsimp only;rintro e_ v5 ⟨b2,rfl,hm2,hb⟩;have HM2:=zq hm2;clear hm2;have HB:=tB HB hb;have H4:=uH H4 hb;have HM1:=zq (HM1.out.under hb);clear hb;have hm:Has (v5.alloc (.cells #[.int .i64 0,.bool false,.slice none 0 0,.slice none 0 0,.int .i64 0] 38)) v5.heap.size 38 #[.int .i64 0,.bool false,.slice none 0 0,.slice none 0 0,.int .i64 0]:=Has.made _ _ _;have HMM:=zq hm;obtain⟨u5,hu5⟩: ∃u_,(v5.alloc (.cells #[.int .i64 0,.bool false,.slice none 0 0,.slice none 0 0,.int .i64 0] 38)).setRow v5.heap.size (maC m b2)=u_:=⟨_,rfl⟩
 have hbu5:Below v5.heap.size v5 u5:=by rw[<-hu5];exact qac (g:=v5.heap.size) (bA) (Nat.le_refl _) _
 have H5:=zq (show Has u5 v5.heap.size 38 (maC m b2)from by rw[<-hu5];exact qab hm _);have HUU:=zq hu5;clear hm hu5;go_upto_region 8 with(with_reducible refine stZ (maC m b2) HMM.out ?_)
 rw[HUU.out];clear HUU HMM;obtain⟨g5,hg5⟩: ∃g_,v5.heap.size=g_:=⟨_,rfl⟩
 rw[hg5]at H5;simp only[hg5];clear hg5;have HB:=tB HB hbu5;have H4:=uH H4 hbu5;have HM1:=zq (HM1.out.under hbu5);have HM2:=zq (HM2.out.under hbu5);clear hbu5;go_wp2_with (first|(with_reducible refine ldZ 50 H4.out ?_)|(with_reducible refine ldZ 51 H5.out ?_));refine(rsame17 m m b1 b2 u5 HM1.out HM2.out (by have:=HF.out;omega) (by have:=HF.out;omega)).mono ?_;rw[(qfD m m).2 rfl];rintro e_ v6 ⟨rfl,hb⟩;have HB:=tB HB hb;clear hb;have q9:(e==e)=true:=by simp
 go_wp2;go_ret
 exact⟨by first|rfl|simp,HB.out⟩
end
section
open Go.ChangeShapes Go.WideShapes Go.ChangeAt Go.RowKit Go.Deep Go.Joins
theorem sli_of {W:World}{x:Addr}{n c:Nat}{zs:List Int}(hl:n<=c)(hz:zs.length=c)(hcell: ∀i,i<zs.length->W.cell? (x.add i)=some (.int .i64 (zs.getD i 0))):SlI W.heap.size W (some x) n c (zs.take n):=by
 refine⟨by simp;omega,hl,⟨by simp[ints];omega,fun e=>(by cases e),fun ad ha j u hu=>?_⟩,fun hc a ha=>?_⟩
 ·cases ha
  have hj:j<n/\j<zs.length:=by
   have:=(List.getElem?_eq_some_iff.1 hu).1;simp[ints]at this;omega
  rw[hcell j hj.2,<-hu];simp[ints,hj.1,List.getD_eq_getElem?_getD,List.getElem?_eq_getElem hj.2]
 ·cases ha
  have h0:=hcell 0 (by omega);have h1:=qag h0;rw[qfa]at h1;exact h1
theorem ints_sli {H:Type}{enc:TypeId×Value->H}{W:World}{fuel:Nat}{v:Value}{y:DataW H×List MemPlace}(h:DataW.trod enc Tryz.prog W 0 (fun _=>true) true fuel 22 [v]=some y):
  ∃(A:Option Addr) (n c:Nat) (V:List Int),v= .slice A n c/\SlI W.heap.size W A n c V:=by
 rcases open_ints Tryz.underlying22 Tryz.underlying3 (by kernel_rfl) h with⟨hcs,_⟩|⟨a,l,c,zs,hcs,_,hl,_,hz,_,hcell,_⟩
 ·simp at hcs
  exact⟨none,0,0,[],hcs,rfl,Nat.le_refl _,qcv _ _,fun h=>absurd h (by omega)⟩
 ·simp at hcs
  exact⟨some a,l,c,zs.take l,hcs,sli_of hl (by simpa using hz) hcell⟩
instance : Inhabited PkE := ⟨⟨0, none, 0, 0, []⟩⟩
theorem pks_slk {H:Type}{enc:TypeId×Value->H}{W:World}{fuel:Nat}{v:Value}{y:DataW H×List MemPlace}(h:DataW.trod enc Tryz.prog W 0 (fun _=>true) true fuel 44 [v]=some y):
  ∃(B:Option Addr) (m d:Nat) (l:List PkE),v= .slice B m d/\SlK W B m d l:=by
 rcases open_slice_pairs Tryz.underlying44 Tryz.underlying98 (by kernel_rfl) (by kernel_rfl) (by kernel_rfl) (by kernel_rfl) (by kernel_rfl) h with⟨hcs,_⟩|⟨a,len,cap,m,n,V0,V1,D0,D1,P0,P1,hcs,_,hl,hm,hmm,_,hx⟩
 ·simp at hcs
  exact⟨none,0,0,[],hcs,rfl,Nat.le_refl _,qcv _ _,fun p h=>by cases h⟩
 ·simp at hcs
  have hlm:len<=m:=by rw[hmm];split<;>omega
  have each: ∀i,i<len-> ∃p:PkE,W.cell? (a.add (i*2))=some (.int .i64 p.id)/\W.cell? (a.add (i*2+1))=some (.slice p.A p.n p.c)/\SlI W.heap.size W p.A p.n p.c p.V:=by
   intro i hi;obtain⟨h0,h1,t0,t1⟩:=hx i (by omega);obtain⟨x,e0,_,_⟩:=DataW.trod_int Tryz.underlying3 t0;obtain⟨A,k,c,V,e1,hs⟩:=ints_sli t1;simp at e0;exact⟨⟨x,A,k,c,V⟩,by rw[h0,e0],by rw[h1,e1],hs⟩
  obtain⟨f,hf⟩:=choose_lt each;refine⟨some a,len,cap,(List.range len).map f,hcs,by simp,hl,⟨by rw[qdH];simp,(fun e=>by cases e),fun ad ha j u hu=>?_⟩,fun p hp=>?_⟩
  ·injection ha with ha
   subst ha;have hj:j<len*2:=by
    have:=(List.getElem?_eq_some_iff.1 hu).1;rw[qdH]at this
    simpa using this
   have hq:j/2<len:=by omega
   obtain⟨g0,g1⟩:=qeC ((List.range len).map f) (j/2) (by simpa using hq)
   obtain⟨c0,c1,_⟩:=hf (j/2) hq
   rcases Nat.mod_two_eq_zero_or_one j with h2|h2
   ·have e:j/2*2=j:=by omega
    rw[e]at g0 c0;rw[g0]at hu;rw[c0,<-hu];simp
   ·have e:j/2*2+1=j:=by omega
    rw[e]at g1 c1;rw[g1]at hu;rw[c1,<-hu];simp
  ·obtain⟨i,hi,rfl⟩:=List.mem_map.1 hp
   exact(hf i (List.mem_range.1 hi)).2.2
theorem pks_open {H:Type}{enc:TypeId×Value->H}{W:World}{r:Reach}{b0:Nat}{v:Value}{d:DataW H}{p:List MemPlace}(hv:Value.okWide Tryz.prog W r b0 44 v)
  (h:DataW.Trod enc Tryz.prog W 0 (fun _=>true) true 44 v d p): ∃(A:Option Addr) (n c:Nat) (l:List PkE),v= .slice A n c/\SlK W A n c l:=by
 obtain⟨A,n,c,rfl⟩:=okWide_slice Tryz.underlying44 hv;obtain⟨fuel,hf⟩:=h;obtain⟨B,m,e,l,e1,hs⟩:=pks_slk (v:= .slice A n c) (by simpa[Value.cells]using hf);injection e1 with q1 q2 q3
 subst q1 q2 q3;exact⟨A,n,c,l,rfl,hs⟩
end
end Go.Proofs.YtahadmeilajdgaaGreatDoor
