/-
  Our own text, joined.
-/
import Derived.Test.YtahadmeilajdgaaGreatDoorMtad
import Derived.BigQuiet
import Derived.IntWalk
import Derived.Test.YtahadmeilajdgaaGreatDoorMtaa
import Derived.Test.YtahadmeilajdgaaGreatDoorMtab
import Derived.Test.YtahadmeilajdgaaGreatDoorMtac
import Derived.DeepKeys4
import Derived.Maps.OwnSet
import Derived.Maps.Range
namespace Go.Proofs.YtahadmeilajdgaaGreatDoor
set_option maxRecDepth 100000
set_option maxHeartbeats 20000000
section
open Go.RowKit
open Go.Great
theorem qcf:(Tryz.prog.info? 66).map (fun i=>(i.zero,i.size,i.bytes))=some (some (.agg #[.int .i64 0,.int .i64 0]),2,16):=by kernel_rfl
theorem qdZ (s:Sc3): ∀u∈scC17 s,u.oneCell'=true:=by
 intro u hu;simp only[scC17,List.mem_cons,List.not_mem_nil,or_false]at hu
 rcases hu with rfl|rfl<;>rfl
theorem SlO.num17 {w:World}{A:Option Addr}{n c:Nat}{l:List Int}(h:SlO inC 1 w A n c l)(h0:0<n): ∃b off,A=some ⟨b,off,none⟩/\ ∀j,j<n->w.cell? ⟨b,off+j,none⟩=some (.int .i64 (l.getD j 0)):=by
 obtain⟨x,hx⟩:=glZ l (0) (by rw[h.1];exact h0);obtain⟨b,off,e,_⟩:=h.at_ (fun _=>rfl) (by decide) hx;refine⟨b,off,e,fun j hj=>?_⟩;obtain⟨y,hy⟩:=glZ l (j) (by rw[h.1];exact hj);obtain⟨b',off',e',hc⟩:=h.at_ (fun _=>rfl) (by decide) hy;rw[e]at e';injection e' with e'
 injection e' with e1 e2 _
 subst e1 e2;rw[List.getD_eq_getElem?_getD,hy]
 simpa using hc 0 _ rfl
theorem SlO.rest17 {w:World}{b off n c k:Nat}{l:List Int}(h:SlO inC 1 w (some ⟨b,off,none⟩) n c l)(hk:k<=n):SlO inC 1 w (some ⟨b,off+k,none⟩) (n-k) (c-k) (l.drop k):=by
 have hl:=h.1;refine⟨by rw[List.length_drop,hl],by rw[qbx (f:=inC) (k:=1) (fun _=>rfl),List.length_drop,hl],(fun e=>by cases e),fun ad e j u hu=>?_⟩;injection e with e
 subst e;have h1:l.flatMap inC=(l.take k).flatMap inC++(l.drop k).flatMap inC:=by rw[<-List.flatMap_append,List.take_append_drop]
 have h2:((l.take k).flatMap inC).length=k:=by rw[qbx (f:=inC) (k:=1) (fun _=>rfl),List.length_take];omega
 have h3:(l.flatMap inC)[k+j]?=some u:=by rw[h1,List.getElem?_append_right (by omega),h2,Nat.add_sub_cancel_left];exact hu
 have h4:=h.2.2.2 _ rfl (k+j) u h3;rw[WideShapes.add_plain]at h4⊢;rw[Nat.add_assoc];exact h4
theorem dm_hi17 {n u:Int}(h:(dmOf n u).2=0):0<=(dmOf n u).1/\(dmOf n u).1<=3276600:=by
 unfold dmOf at h⊢;split at h
 ·cases h
 ·rename_i h1
  split at h
  ·cases h
  ·rename_i h2
   rw[if_neg h1,if_neg h2];have h3:=qcL u;dsimp only
   rcases h3 with h3|h3|h3|h3<;>rw[h3]at h1⊢ <;>omega
def joinS (q:List Sc3)(r:List Sc3×List Int×Int):List Sc3×List Int×Int:=if r.2.2≠0 then([],[],r.2.2)else(q++r.1,r.2.1,0)
theorem join_nil (r:List Sc3×List Int×Int)(h:r.2.2≠0->r.1=[]/\r.2.1=[]):joinS [] r=r:=by
 obtain⟨a,b,e⟩:=r;unfold joinS;dsimp only at*;by_cases he:e=0
 ·rw[if_neg (by simp[he]),List.nil_append,he]
 ·rw[if_pos he,(h he).1,(h he).2]
theorem secs_err17 (u:Int)(k:Nat)(to_:Int)(v:List Int):(qar u k to_ v).2.2≠0->(qar u k to_ v).1=[]/\(qar u k to_ v).2.1=[]:=by
 cases k with
 |zero=>intro h;exact absurd rfl h
 |succ k=>
  rw[qar];split
  ·intro _;exact⟨rfl,rfl⟩
  ·split
   ·intro _;exact⟨rfl,rfl⟩
   ·split
    ·intro _;exact⟨rfl,rfl⟩
    ·dsimp only
     split
     ·intro _;exact⟨rfl,rfl⟩
     ·intro h;exact absurd rfl h
theorem join_step {u:Int}{k:Nat}{to_:Int}{v:List Int}{q:List Sc3}(h1:v.getD 1 0=1)(h2: ¬(v.getD 2 0<1\/1000<v.getD 2 0\/v.getD 0 0=0))(h3:(dmOf (v.getD 0 0) u).2=0):joinS q (qar u (k+1) to_ v)=joinS (q++[⟨to_+(dmOf (v.getD 0 0) u).1,v.getD 2 0⟩]) (qar u k (to_+(dmOf (v.getD 0 0) u).1) (v.drop 4)):=by
 rw[qar,if_neg (fun h=>h h1),if_neg h2,if_neg (fun h=>h h3)];dsimp only;generalize qar u k (to_+(dmOf (v.getD 0 0) u).1) (v.drop 4)=r;generalize (dmOf (v.getD 0 0) u).1=d;generalize v.getD 2 0=x2;obtain⟨a,b,e⟩:=r;unfold joinS;dsimp only;by_cases he:e=0
 ·subst he
  simp
 ·simp[he]
theorem qdT {q:List Sc3}{u:Int}{k:Nat}{to_ e:Int}{v:List Int}(h:qar u k to_ v=([],[],e))(he:e≠0):joinS q (qar u k to_ v)=([],[],e):=by
 rw[h];exact if_pos he
theorem rsections17 (V:List Int)(k:Nat)(u:Int)(A:Option Addr)(n c:Nat)(w:World)(hs:SlO inC 1 w A n c V)(hc:n<=c)(hn:n<=1048576)(hk:k<=100)(h4:4*k<n):
  Calls Tryz.prog 69 #[.slice A n c,.int .i64 k,.int .i64 u] w fun r w'=> ∃X x B d,r= .returned (.tuple #[.slice X (qar u k 0 V).1.length x,.slice B (qar u k 0 V).2.1.length d,.int .i64 (qar u k 0 V).2.2])/\OwR scC17 2 66 w.heap.size w' X (qar u k 0 V).1.length x (qar u k 0 V).1/\SlO inC 1 w' B (qar u k 0 V).2.1.length d (qar u k 0 V).2.1/\(qar u k 0 V).2.1.length<=d/\Below w.heap.size w w':=by
 obtain⟨R,hR⟩:=geZ (qar u k 0 V);have HR:=zq (show joinS [] (qar u k 0 V)=R from by rw[join_nil _ (secs_err17 u k 0 V)];exact hR);rw[hR];have HS:=zq hs;have HC:=zq (show n<=c/\n<=1048576/\k<=100/\4*k<n from⟨hc,hn,hk,h4⟩);clear hR hs hc hn hk h4;go_enter Tryz.func69,Tryz.ntmps69;go_wp2;go_loopg [0,9,10,11] k (fun kk v0 v9 v10 v11 wl=> ∃(i m d:Nat) (B X:Option Addr) (x:Nat) (q:List Sc3) (Y:List Int) (to_:Int),i<=k/\k-i<=kk/\v11= .int .i64 i/\v0= .slice B m d/\v9= .slice X i x/\v10= .int .i64 to_/\Hid (joinS q (qar u (k-i) to_ Y)=R)/\Hid (SlO inC 1 w B m d Y)/\Hid (m<=d/\m<=1048576/\4*(k-i)<m)/\Hid (0<=to_/\to_<=i*3276600)/\Hid (OwR scC17 2 66 w.heap.size wl X i x q)/\Hid (Below w.heap.size w wl))
 case atStart=>exact⟨0,n,c,A,none,0,[],V,0,by omega,by omega,rfl,rfl,rfl,rfl,HR,HS,zq (by have:=HC.out;omega),zq (by omega),zq (OwR.nil _ _ _ _ _),zq (Below.refl _ _)⟩
 clear HR HS;obtain⟨i,m,d,B,X,x,q,Y,to_,hi,hik,rfl,rfl,rfl,rfl,HR,HS,HM,HTO,HO,HB⟩:=hrel;obtain⟨k1,hk1⟩: ∃k1,k1=gk:=⟨_,rfl⟩
 subst hk1;obtain⟨wv,hwv⟩: ∃wv,wv=wr:=⟨_,rfl⟩
 subst hwv;by_cases hlt:i<k;rotate_left
 ·obtain rfl:i=k:=by omega
  have x1: ¬(i:Int)<i:=by omega
  have HF:=zq (show R=(q,Y,0)from by have h_:=HR.out;rw[Nat.sub_self]at h_;rw[<-h_];show joinS q ([],Y,0)=_;unfold joinS;rw[if_neg (by simp),List.append_nil]);clear hik hlt hi;go_wp2;go_ret3
  rw[HF.out];dsimp only;rw[show q.length=i from HO.out.2,show Y.length=m from HS.out.1];exact⟨X,x,B,d,rfl,HO.out,HS.out.under HB.out,HM.out.1,HB.out⟩
 obtain⟨b,off,rfl,hc⟩:=(HS.out.under HB.out).num17 (by have:=HM.out;omega);have d0:=hc 0 (by have:=HM.out;omega);have d1:=hc 1 (by have:=HM.out;omega);have d2:=hc 2 (by have:=HM.out;omega);rw[Nat.add_zero]at d0;have HIN:=zq (show i<k/\k-i<=k1 from⟨hlt,hik⟩);have x1:(i:Int)<k:=by omega
 clear hc hlt hik hi;obtain⟨v0,hv0⟩: ∃v,Y.getD 0 0=v:=⟨_,rfl⟩
 obtain⟨v1,hv1⟩: ∃v,Y.getD 1 0=v:=⟨_,rfl⟩
 obtain⟨v2,hv2⟩: ∃v,Y.getD 2 0=v:=⟨_,rfl⟩
 rw[hv0]at d0;rw[hv1]at d1;rw[hv2]at d2;have HV:=zq (And.intro hv0 (And.intro hv1 hv2));have HKS:=zq (show k-i=(k-(i+1))+1 from by have:=HIN.out;omega);clear hv0 hv1 hv2;have y1:(1:Int)<m:=by have:=HM.out;have:=HIN.out;omega
 have y0:(0:Int)<m:=by omega
 have y2:(2:Int)<m:=by have:=HM.out;have:=HIN.out;omega
 by_cases z1:v1=1;rotate_left
 ·have q1:(v1 !=1)=true:=by simp[z1]
  have HF:=zq (show R=([],[],20)from by have h_:=HR.out;rw[HKS.out,qdT (e:=20) (by rw[qar,if_pos (by rw[HV.out.2.1];exact z1)]) (by decide)]at h_;exact h_.symm);go_wp2;go_ret3
  rw[HF.out];exact⟨none,0,none,0,rfl,OwR.nil _ _ _ _ _,SlO.nil _ _ _,Nat.le_refl _,HB.out⟩
 have q1:(v1 !=1)=false:=by simp[z1]
 by_cases z2:v2<1
 ·skip
  have HF:=zq (show R=([],[],20)from by have h_:=HR.out;rw[HKS.out,qdT (e:=20) (by rw[qar,if_neg (by rw[HV.out.2.1];simp[z1]),if_pos (.inl (by rw[HV.out.2.2];exact z2))]) (by decide)]at h_;exact h_.symm);go_wp2;go_ret3
  rw[HF.out];exact⟨none,0,none,0,rfl,OwR.nil _ _ _ _ _,SlO.nil _ _ _,Nat.le_refl _,HB.out⟩
 by_cases z3:1000<v2
 ·skip
  have HF:=zq (show R=([],[],20)from by have h_:=HR.out;rw[HKS.out,qdT (e:=20) (by rw[qar,if_neg (by rw[HV.out.2.1];simp[z1]),if_pos (.inr (.inl (by rw[HV.out.2.2];exact z3)))]) (by decide)]at h_;exact h_.symm);go_wp2;go_ret3
  rw[HF.out];exact⟨none,0,none,0,rfl,OwR.nil _ _ _ _ _,SlO.nil _ _ _,Nat.le_refl _,HB.out⟩
 by_cases z4:v0=0
 ·have q4:(v0==0)=true:=by simp[z4]
  have HF:=zq (show R=([],[],20)from by have h_:=HR.out;rw[HKS.out,qdT (e:=20) (by rw[qar,if_neg (by rw[HV.out.2.1];simp[z1]),if_pos (.inr (.inr (by rw[HV.out.1];exact z4)))]) (by decide)]at h_;exact h_.symm);go_wp2;go_ret3
  rw[HF.out];exact⟨none,0,none,0,rfl,OwR.nil _ _ _ _ _,SlO.nil _ _ _,Nat.le_refl _,HB.out⟩
 have q4:(v0==0)=false:=by simp[z4]
 have HZ3:=zq (show v1=1/\ ¬(v2<1\/1000<v2\/v0=0)from⟨z1,by omega⟩);go_upto_region 12 with fail;go_wp2_with fail;refine(ref_dm v0 u wv).mono ?_;obtain⟨dd,hdd⟩: ∃p,dmOf v0 u=p:=⟨_,rfl⟩
 rw[hdd];have HDD:=zq hdd;clear hdd;obtain⟨dv,de⟩:=dd;unfold pair;dsimp only;rintro e_ w2 ⟨rfl,hb2⟩;have HB2:=tB HB hb2;have HO2:=zq (HO.out.under hb2);clear hb2 HO HB d0 d1 d2 y1 y0 y2 q1 q4 z1 z2 z3 z4;by_cases z5:de=0;rotate_left
 ·have q5:(de !=0)=true:=by simp[z5]
  have HF:=zq (show R=([],[],7)from by have h_:=HR.out;rw[HKS.out,qdT (e:=7) (by rw[qar,if_neg (by rw[HV.out.2.1];simp[HZ3.out.1]),if_neg (by rw[HV.out.1,HV.out.2.2];exact HZ3.out.2),if_pos (by rw[HV.out.1,HDD.out];exact z5)]) (by decide)]at h_;exact h_.symm);go_wp2;go_ret3
  rw[HF.out];exact⟨none,0,none,0,rfl,OwR.nil _ _ _ _ _,SlO.nil _ _ _,Nat.le_refl _,HB2.out⟩
 subst z5;have HDH:=zq (show 0<=dv/\dv<=3276600 from by have h_:=dm_hi17 (n:=v0) (u:=u) (by rw[HDD.out]);rw[HDD.out]at h_;exact h_);have HRN:=zq (show joinS (q++[⟨to_+dv,v2⟩]) (qar u (k-(i+1)) (to_+dv) (Y.drop 4))=R from by have h_:=HR.out;rw[HKS.out,join_step (by rw[HV.out.2.1];exact HZ3.out.1) (by rw[HV.out.1,HV.out.2.2];exact HZ3.out.2) (by rw[HV.out.1,HDD.out]),HV.out.1,HV.out.2.2,HDD.out]at h_;exact h_);obtain⟨t2,ht2⟩: ∃z,to_+dv=z:=⟨_,rfl⟩
 rw[ht2]at HRN;have HT2:=zq (show 0<=t2/\t2<=((i+1:Nat):Int)*3276600 from by have h1_:=HTO.out;have h2_:=HDH.out;omega);have hw1:wrap64 (to_+dv)=t2:=by rw[IntWalk.wrap64_in _ (by have h1_:=HTO.out;have h2_:=HDH.out;have h3_:=HIN.out;have h4_:=HC.out;omega)];exact ht2
 clear ht2 HR;go_upto_region 16 with fail;obtain⟨hN,hO,hC,h1,hBD⟩:=pushR (f:=scC17) (k:=2) (e:=66) (w:=w2) 16 ⟨t2,v2⟩ #[.int .i64 t2,.int .i64 v2] rfl rfl (qdZ _) HO2.out HB2.out.size (by have h1_:=HIN.out;have h2_:=HC.out;omega) (by omega);have HBW:=zq (show Below w.heap.size w (w2.alloc (.cells #[.int .i64 t2,.int .i64 v2] 66))from HB2.out.alloc HB2.out.size _);have HLN:=zq HO2.out.2;go_wp2_with (with_reducible refine qao (o:=⟨some 57,_,_,_,_,_⟩) rfl (.tmp 52) (.tmp 56) 36 rfl w.heap.size 66 (.agg #[.int .i64 0,.int .i64 0]) 2 16 Tryz.underlying36 qcf ?hz (by decide) X (i) x ((q).flatMap scC17) ?hs hO ⟨w2.heap.size,0,none⟩ 1 1 (scC17 ⟨t2,v2⟩) ?hx hN hC h1 hBD ?next)
 all_goals try rfl
 intro A3 c3 w3 ho hg;have HO3:=zq (OwR.snoc HLN.out ho.out);have HB3:=zq (qai HBW.out HBW.out.size hO.out (Nat.le_refl _) rfl hg.out);clear ho hg hN hO hC h1 hBD HBW HLN HO2 HB2;have y0:(4:Int)<=m:=by have h1_:=HM.out;have h2_:=HIN.out;omega
 have y1:4<=m:=by omega
 have y2: ¬d=4:=by have h1_:=HM.out;have h2_:=HIN.out;omega
 have y3:(4:Int)<=d:=by have h1_:=HM.out;omega
 have y4:m<=d:=HM.out.1;have y5:(m:Int)<=d:=by omega
 have y6:4<=d:=by omega
 go_wp2;clear y0 y1 y2 y3 y4 y5 y6;go_roundg (k1-1)
 case measure=>have:=HIN.out;omega
 case rel=>exact⟨i+1,m-4,d-4,_,A3,c3,q++[⟨t2,v2⟩],Y.drop 4,t2,by have:=HIN.out;omega,by have:=HIN.out;omega,by first|go_num|(rw[IntWalk.wrap64_in _ (by have h1_:=HIN.out;have h2_:=HC.out;omega)];go_num),rfl,rfl,by first|rfl|rw[hw1],HRN,zq (HS.out.rest17 (by have h1_:=HM.out;have h2_:=HIN.out;omega)),zq (by have h1_:=HM.out;have h2_:=HIN.out;omega),HT2,HO3,HB3⟩
def qcw:List Sc3->List Sc3->Bool
 |[],[]=>true
 |x::r,y::q=>eqC17 x y &&qcw r q
 |_,_=>false
theorem qbY (a b:List Sc3):qcw a b=true↔a=b:=by
 induction a generalizing b with
 |nil=>cases b<;>simp[qcw]
 |cons x r ih=>
  cases b with
  |nil=>simp[qcw]
  |cons y q=>simp only[qcw,Bool.and_eq_true,qcx,ih,List.cons.injEq]
def sameM17 (a b:Ma3):Bool:=decide (a.path=b.path) &&((a.ref==b.ref) &&((a.rev==b.rev) &&((a.gap==b.gap) &&qcw a.sects b.sects)))
theorem sameM17_iff (a b:Ma3):sameM17 a b=true↔a=b:=by
 obtain⟨x1,x2,x3,x4,x5⟩:=a;obtain⟨y1,y2,y3,y4,y5⟩:=b;unfold sameM17;simp only[Bool.and_eq_true,decide_eq_true_eq,beq_iff_eq,qbY,Ma3.mk.injEq]
 constructor
 ·rintro⟨h1,h2,h3,h4,h5⟩;exact⟨h2,h3,h1,h5,h4⟩
 ·rintro⟨h2,h3,h1,h5,h4⟩;exact⟨h1,h2,h3,h4,h5⟩
theorem rsame17 (m m':Ma3)(b b':MaA)(w:World)(hm:MaR w m b)(hm':MaR w m' b')(hn:m.path.length<=1048576)(hk:m.sects.length<=1048576):
  Calls Tryz.prog 16 #[.agg (maC m b),.agg (maC m' b')] w fun r w'=>r= .returned (.bool (sameM17 m m'))/\Below w.heap.size w w':=by
 obtain⟨wa,hwa,hbwa,HWA,HBWA,h0,h1⟩:=bx2Z w 38 (maC m b) 38 (maC m' b');have HM:=zq (fun W (hW:Below wa.heap.size wa W)=>(hm.under hbwa).under hW);have HM':=zq (fun W (hW:Below wa.heap.size wa W)=>(hm'.under hbwa).under hW);have H0:=zH h0;have H1:=zH h1;have HNP:=zq hn;have HNK:=zq hk;have a2:wa.cell? ⟨w.heap.size,2,none⟩=some (.slice b.ap m.path.length b.cp):=h0.cell 2;have b2:wa.cell? ⟨w.heap.size+1,2,none⟩=some (.slice b'.ap m'.path.length b'.cp):=h1.cell 2;obtain⟨R,hR⟩:=geZ (sameM17 m m');rw[hR];obtain⟨qp,hqp⟩: ∃q,decide (m.path=m'.path)=q:=⟨_,rfl⟩
 obtain⟨qs,hqs⟩: ∃q,qcw m.sects m'.sects=q:=⟨_,rfl⟩
 have HR:=zq (show(qp &&((m.ref==m'.ref) &&((m.rev==m'.rev) &&((m.gap==m'.gap) &&qs))))=R from by rw[<-hqp,<-hqs];exact hR);have HC:=zq (rsteps_any b.ap b'.ap m.path.length b.cp m'.path.length b'.cp m.path m'.path wa (hm.under hbwa).path (hm'.under hbwa).path hn);rw[hqp]at HC;have HQS:=zq hqs;clear hwa hbwa h0 h1 hm hm' hn hk hR hqp hqs;go_enter Tryz.func16,Tryz.ntmps16;go_upto_region 1 with fail;rw[HWA.out];clear HWA;go_wp2_with fail;refine HC.out.mono ?_;rintro e_ w1 ⟨rfl,hb1⟩;have HB1:=zq hb1;clear HC a2 b2;have a0:w1.cell? ⟨w.heap.size,0,none⟩=some (.int .i64 m.ref):=(H0.out w1 hb1).cell 0;have a1:w1.cell? ⟨w.heap.size,1,none⟩=some (.bool m.rev):=(H0.out w1 hb1).cell 1;have a3:w1.cell? ⟨w.heap.size,3,none⟩=some (.slice b.aq m.sects.length b.cs):=(H0.out w1 hb1).cell 3;have a4:w1.cell? ⟨w.heap.size,4,none⟩=some (.int .i64 m.gap):=(H0.out w1 hb1).cell 4;have b0:w1.cell? ⟨w.heap.size+1,0,none⟩=some (.int .i64 m'.ref):=(H1.out w1 hb1).cell 0;have b1:w1.cell? ⟨w.heap.size+1,1,none⟩=some (.bool m'.rev):=(H1.out w1 hb1).cell 1;have b3:w1.cell? ⟨w.heap.size+1,3,none⟩=some (.slice b'.aq m'.sects.length b'.cs):=(H1.out w1 hb1).cell 3;have b4:w1.cell? ⟨w.heap.size+1,4,none⟩=some (.int .i64 m'.gap):=(H1.out w1 hb1).cell 4;have HBF:=tB HBWA hb1;clear hb1;obtain⟨fa,hfa⟩: ∃z,m.ref=z:=⟨_,rfl⟩
 rw[hfa]at a0 HR;obtain⟨fb,hfb⟩: ∃z,m'.ref=z:=⟨_,rfl⟩
 rw[hfb]at b0 HR;obtain⟨va,hva⟩: ∃z,m.rev=z:=⟨_,rfl⟩
 rw[hva]at a1 HR;obtain⟨vb,hvb⟩: ∃z,m'.rev=z:=⟨_,rfl⟩
 rw[hvb]at b1 HR;obtain⟨ga,hga⟩: ∃z,m.gap=z:=⟨_,rfl⟩
 rw[hga]at a4 HR;obtain⟨gb,hgb⟩: ∃z,m'.gap=z:=⟨_,rfl⟩
 rw[hgb]at b4 HR;obtain⟨na,hna⟩: ∃z,m.sects.length=z:=⟨_,rfl⟩
 rw[hna]at a3;obtain⟨nb,hnb⟩: ∃z,m'.sects.length=z:=⟨_,rfl⟩
 rw[hnb]at b3;have HNA:=zq hna;have HNB:=zq hnb;clear hfa hfb hva hvb hga hgb hna hnb
 cases qp with
 |false=>
  obtain rfl:R=false:=HR.out.symm;go_wp2;go_ret
  exact⟨rfl,HBF.out⟩
 |true=>
 rw[Bool.true_and]at HR;by_cases e0:fa=fb;rotate_left
 ·have g0:(fa !=fb)=true:=by simp[e0]
  have g0':(fa==fb)=false:=by simp[e0]
  obtain rfl:R=false:=by rw[<-HR.out,g0'];rfl
  go_wp2;go_ret
  exact⟨rfl,HBF.out⟩
 have g0:(fa !=fb)=false:=by simp[e0]
 have g0':(fa==fb)=true:=by simp[e0]
 rw[g0',Bool.true_and]at HR;subst e0;by_cases e1:va=vb;rotate_left
 ·have g1:(va !=vb)=true:=by simp[e1]
  have g1':(va==vb)=false:=by simp[e1]
  obtain rfl:R=false:=by rw[<-HR.out,g1'];rfl
  go_wp2;go_ret
  exact⟨rfl,HBF.out⟩
 have g1:(va !=vb)=false:=by simp[e1]
 have g1':(va==vb)=true:=by simp[e1]
 rw[g1',Bool.true_and]at HR;subst e1;by_cases e2:ga=gb;rotate_left
 ·have g2:(ga !=gb)=true:=by simp[e2]
  have g2':(ga==gb)=false:=by simp[e2]
  obtain rfl:R=false:=by rw[<-HR.out,g2'];rfl
  go_wp2;go_ret
  exact⟨rfl,HBF.out⟩
 have g2:(ga !=gb)=false:=by simp[e2]
 have g2':(ga==gb)=true:=by simp[e2]
 rw[g2',Bool.true_and]at HR;subst e2;have HRQ:=zq (show qs=R from HR.out);clear HR;by_cases e3:na=nb;rotate_left
 ·have g3:((na:Int) !=nb)=true:=by simp;omega
  have g3': ¬(na:Int)=nb:=by omega
  obtain rfl:R=false:=by
   rw[<-HRQ.out,<-HQS.out]
   cases hq:qcw m.sects m'.sects with
   |false=>rfl
   |true=>exact absurd (by rw[<-HNA.out,(qbY _ _).1 hq,HNB.out]) e3
  go_wp2;go_ret
  exact⟨rfl,HBF.out⟩
 subst e3;have g3:((na:Int) !=na)=false:=by simp
 cases va with
 |false=>
  go_wp2;clear a0 a1 a4 b0 b1 b4 g0 g1 g2 g3 g0' g1' g2';go_loopg [6] na (fun kk v6 wl=> ∃i:Nat,i<=na/\na-i<=kk/\v6= .int .i64 i/\Hid (∀j x y,j<i->m.sects[j]?=some x->m'.sects[j]?=some y->x=y)/\Hid (Below wa.heap.size wa wl))
  case atStart=>exact⟨0,by omega,by omega,rfl,zq fun j x y h=>absurd h (by omega),HB1⟩
  clear a3 b3 HB1;obtain⟨i,hi,hik,rfl,HNO,HB⟩:=hrel;obtain⟨k1,hk1⟩: ∃k1,k1=gk:=⟨_,rfl⟩
  subst hk1;obtain⟨wv,hwv⟩: ∃wv,wv=wr:=⟨_,rfl⟩
  subst hwv;have a3:wv.cell? ⟨w.heap.size,3,none⟩=some (.slice b.aq na b.cs):=by rw[<-HNA.out];exact(H0.out wv HB.out).cell 3
  have b3:wv.cell? ⟨w.heap.size+1,3,none⟩=some (.slice b'.aq na b'.cs):=by rw[<-HNB.out];exact(H1.out wv HB.out).cell 3
  by_cases hlt:i<na;rotate_left
  ·have x1: ¬(i:Int)<na:=by omega
   obtain rfl:R=true:=by
    rw[<-HRQ.out,<-HQS.out,qbY];refine List.ext_getElem? fun j=>?_;by_cases hj:j<na
    ·have h1:=List.getElem?_eq_getElem (l:=m.sects) (i:=j) (by rw[HNA.out];exact hj)
     have h2:=List.getElem?_eq_getElem (l:=m'.sects) (i:=j) (by rw[HNB.out];exact hj);rw[h1,h2,HNO.out j _ _ (by omega) h1 h2]
    ·rw[List.getElem?_eq_none (by rw[HNA.out];omega),List.getElem?_eq_none (by rw[HNB.out];omega)]
   go_wp2;go_ret
   exact⟨rfl,HBWA.out.trans (HB.out.mono HBWA.out.size)⟩
  obtain⟨x,hx⟩: ∃x,m.sects[i]?=some x:=⟨_,List.getElem?_eq_getElem (by rw[HNA.out];exact hlt)⟩
  obtain⟨y,hy⟩: ∃y,m'.sects[i]?=some y:=⟨_,List.getElem?_eq_getElem (by rw[HNB.out];exact hlt)⟩
  have HX:=zq hx;have HY:=zq hy;obtain⟨bk,off,ha_,d0,d1⟩:=(HM.out wv HB.out).sects.sect hx;obtain⟨bm,om,hb_,f0,f1⟩:=(HM'.out wv HB.out).sects.sect hy;rw[ha_]at a3;rw[hb_]at b3;have HIN:=zq (show i<na/\na-i<=k1 from⟨hlt,hik⟩);have x1:(i:Int)<na:=by omega
  have x2:(0:Int)<=i:=by omega
  have q1:=neq_sc17 x y;obtain⟨e,he⟩:=geZ (eqC17 x y);rw[he]at q1;have HEE:=zq he;unfold scA17 at q1;clear hx hy ha_ hb_ he hlt hik hi;obtain⟨xt,xm⟩:=x;obtain⟨yt,ym⟩:=y;dsimp only at d0 d1 f0 f1 q1;go_upto_region 7 with fail
  cases e with
  |false=>
   obtain rfl:R=false:=by
    rw[<-HRQ.out,<-HQS.out]
    cases hq:qcw m.sects m'.sects with
    |false=>rfl
    |true=>
     have h1:=(qbY _ _).1 hq;have h2:=HX.out;rw[h1,HY.out]at h2;injection h2 with h2
     have h3:=HEE.out;rw[h2,(qcx _ _).2 rfl]at h3
     cases h3
   go_quiet (fail);go_wp2;go_ret
   exact⟨rfl,HBWA.out.trans ((qac HB.out _).mono HBWA.out.size)⟩
  |true=>
   have HXY:=zq ((qcx _ _).1 HEE.out);go_quiet (fail);obtain⟨wd,hwd⟩:=geZ (wv.drewN nq);rw[hwd];have HB4:=zq (show Below wa.heap.size wa wd from by rw[<-hwd];exact qac HB.out _);clear hwd HB a3 b3 d0 d1 f0 f1 q1 x1 x2;go_wp2;go_roundg (k1-1)
   case measure=>have:=HIN.out;omega
   case rel=>
    refine⟨i+1,by have:=HIN.out;omega,by have:=HIN.out;omega,by first|go_num|(rw[IntWalk.wrap64_in _ (by have h1_:=HIN.out;have h2_:=HNK.out;have h3_:=HNA.out;omega)];go_num),zq fun j x' y' hj hx hy=>?_,HB4⟩;by_cases hji:j=i
    ·subst hji;rw[HX.out]at hx;rw[HY.out]at hy;injection hx with hx;injection hy with hy;rw[<-hx,<-hy];exact HXY.out
    ·exact HNO.out j x' y' (by omega) hx hy
 |true=>
  go_wp2;clear a0 a1 a4 b0 b1 b4 g0 g1 g2 g3 g0' g1' g2';go_loopg [6] na (fun kk v6 wl=> ∃i:Nat,i<=na/\na-i<=kk/\v6= .int .i64 i/\Hid (∀j x y,j<i->m.sects[j]?=some x->m'.sects[j]?=some y->x=y)/\Hid (Below wa.heap.size wa wl))
  case atStart=>exact⟨0,by omega,by omega,rfl,zq fun j x y h=>absurd h (by omega),HB1⟩
  clear a3 b3 HB1;obtain⟨i,hi,hik,rfl,HNO,HB⟩:=hrel;obtain⟨k1,hk1⟩: ∃k1,k1=gk:=⟨_,rfl⟩
  subst hk1;obtain⟨wv,hwv⟩: ∃wv,wv=wr:=⟨_,rfl⟩
  subst hwv;have a3:wv.cell? ⟨w.heap.size,3,none⟩=some (.slice b.aq na b.cs):=by rw[<-HNA.out];exact(H0.out wv HB.out).cell 3
  have b3:wv.cell? ⟨w.heap.size+1,3,none⟩=some (.slice b'.aq na b'.cs):=by rw[<-HNB.out];exact(H1.out wv HB.out).cell 3
  by_cases hlt:i<na;rotate_left
  ·have x1: ¬(i:Int)<na:=by omega
   obtain rfl:R=true:=by
    rw[<-HRQ.out,<-HQS.out,qbY];refine List.ext_getElem? fun j=>?_;by_cases hj:j<na
    ·have h1:=List.getElem?_eq_getElem (l:=m.sects) (i:=j) (by rw[HNA.out];exact hj)
     have h2:=List.getElem?_eq_getElem (l:=m'.sects) (i:=j) (by rw[HNB.out];exact hj);rw[h1,h2,HNO.out j _ _ (by omega) h1 h2]
    ·rw[List.getElem?_eq_none (by rw[HNA.out];omega),List.getElem?_eq_none (by rw[HNB.out];omega)]
   go_wp2;go_ret
   exact⟨rfl,HBWA.out.trans (HB.out.mono HBWA.out.size)⟩
  obtain⟨x,hx⟩: ∃x,m.sects[i]?=some x:=⟨_,List.getElem?_eq_getElem (by rw[HNA.out];exact hlt)⟩
  obtain⟨y,hy⟩: ∃y,m'.sects[i]?=some y:=⟨_,List.getElem?_eq_getElem (by rw[HNB.out];exact hlt)⟩
  have HX:=zq hx;have HY:=zq hy;obtain⟨bk,off,ha_,d0,d1⟩:=(HM.out wv HB.out).sects.sect hx;obtain⟨bm,om,hb_,f0,f1⟩:=(HM'.out wv HB.out).sects.sect hy;rw[ha_]at a3;rw[hb_]at b3;have HIN:=zq (show i<na/\na-i<=k1 from⟨hlt,hik⟩);have x1:(i:Int)<na:=by omega
  have x2:(0:Int)<=i:=by omega
  have q1:=neq_sc17 x y;obtain⟨e,he⟩:=geZ (eqC17 x y);rw[he]at q1;have HEE:=zq he;unfold scA17 at q1;clear hx hy ha_ hb_ he hlt hik hi;obtain⟨xt,xm⟩:=x;obtain⟨yt,ym⟩:=y;dsimp only at d0 d1 f0 f1 q1;go_upto_region 7 with fail
  cases e with
  |false=>
   obtain rfl:R=false:=by
    rw[<-HRQ.out,<-HQS.out]
    cases hq:qcw m.sects m'.sects with
    |false=>rfl
    |true=>
     have h1:=(qbY _ _).1 hq;have h2:=HX.out;rw[h1,HY.out]at h2;injection h2 with h2
     have h3:=HEE.out;rw[h2,(qcx _ _).2 rfl]at h3
     cases h3
   go_quiet (fail);go_wp2;go_ret
   exact⟨rfl,HBWA.out.trans ((qac HB.out _).mono HBWA.out.size)⟩
  |true=>
   have HXY:=zq ((qcx _ _).1 HEE.out);go_quiet (fail);obtain⟨wd,hwd⟩:=geZ (wv.drewN nq);rw[hwd];have HB4:=zq (show Below wa.heap.size wa wd from by rw[<-hwd];exact qac HB.out _);clear hwd HB a3 b3 d0 d1 f0 f1 q1 x1 x2;go_wp2;go_roundg (k1-1)
   case measure=>have:=HIN.out;omega
   case rel=>
    refine⟨i+1,by have:=HIN.out;omega,by have:=HIN.out;omega,by first|go_num|(rw[IntWalk.wrap64_in _ (by have h1_:=HIN.out;have h2_:=HNK.out;have h3_:=HNA.out;omega)];go_num),zq fun j x' y' hj hx hy=>?_,HB4⟩;by_cases hji:j=i
    ·subst hji;rw[HX.out]at hx;rw[HY.out]at hy;injection hx with hx;injection hy with hy;rw[<-hx,<-hy];exact HXY.out
    ·exact HNO.out j x' y' (by omega) hx hy
end
section
open Go.RowKit
open Go.Great
def qas (n a b:Int):Bool:=decide (a<=n) &&decide (n<=b)
theorem qc8 (t:Tp3)(n:Int):edgeB t n=qas n 0 ((t.edges.length:Int)-1):=by
 unfold edgeB qas;rw[Bool.eq_iff_iff];simp only[Bool.and_eq_true,decide_eq_true_eq];omega
def connB (t:Tp3)(j:Jt3):Bool:=endB t j.a &&endB t j.b
def lvS (e:Int×Int):St3:=⟨e.1,e.2==0⟩
def enS (e:Int×Int):St3:=⟨e.1,e.2==1⟩
def ltS (a b:St3):Bool:=decide (a.edge<b.edge)||((a.edge==b.edge) &&b.rev)
def cmpS (a b:St3):Int:=if eqS a b=true then 0 else if ltS a b=true then -1 else 1
def jtA (j:Jt3):Array Value:=#[.int .i64 j.a.1,.int .i64 j.a.2,.int .i64 j.b.1,.int .i64 j.b.2]
theorem qbM (n a b:Int)(w:World):
  Calls Tryz.prog 101 #[.int .i64 n,.int .i64 a,.int .i64 b] w fun e w'=>e= .returned (.bool (qas n a b))/\w'=w:=by
 unfold qas;by_cases h1:a<=n
 ·by_cases h2:n<=b
  ·rw[decide_eq_true h1,decide_eq_true h2]
   go_enter Tryz.func101,Tryz.ntmps101;go_wp2;go_ret
   exact⟨rfl,rfl⟩
  ·rw[decide_eq_true h1,decide_eq_false h2]
   go_enter Tryz.func101,Tryz.ntmps101;go_wp2;go_ret
   exact⟨rfl,rfl⟩
 ·rw[decide_eq_false h1,Bool.false_and]
  go_enter Tryz.func101,Tryz.ntmps101;go_wp2;go_ret
  exact⟨rfl,rfl⟩
theorem qeo (t:Tp3)(a:TpA)(n:Int)(w:World)(hl:t.edges.length<=100):
  Calls Tryz.prog 175 #[.agg (tpC t a),.int .i64 n] w fun e w'=>e= .returned (.bool (edgeB t n))/\Below w.heap.size w w':=by
 obtain⟨wa,hwa,hbwa,HWA,HBWA,h0⟩:=bx1Z w 27 (tpC t a);have c0:wa.cell? ⟨w.heap.size,0,none⟩=some (.slice a.ae t.edges.length a.ce):=(h0).cell 0;rw[qc8];clear hwa hbwa h0;unfold tpC at*;generalize t.edges.length=m at*;have H:=zq (qbM n 0 ((m:Int)-1) wa);generalize qas n 0 ((m:Int)-1)=b at*;have r1:wrap64 ((m:Int)-1)=(m:Int)-1:=IntWalk.wrap64_in _ (by omega);go_enter Tryz.func175,Tryz.ntmps175;go_upto_region 1 with fail;rw[HWA.out];clear HWA;go_wp2_with fail;refine H.out.mono ?_;rintro e w1 ⟨rfl,rfl⟩;go_wp2;go_ret
 exact⟨rfl,HBWA.out⟩
theorem otend_any (t:Tp3)(a:TpA)(x:Int×Int)(w:World)(hl:t.edges.length<=100):
  Calls Tryz.prog 205 #[.agg (tpC t a),.agg (endA x)] w fun e w'=>e= .returned (.bool (endB t x))/\Below w.heap.size w w':=by
 obtain⟨wa,hwa,hbwa,HWA,HBWA,h0,h1⟩:=bx2Z w 27 (tpC t a) 147 (endA x);have c0:wa.cell? ⟨w.heap.size+1,0,none⟩=some (.int .i64 x.1):=h1.cell 0;have H:=zq (qeo t a x.1 wa hl);have HP:=zq h0;have HC:=zH h1;have he:endB t x=(edgeB t x.1 &&qas x.2 0 1):=by
  unfold endB
  congr 1
  unfold qas;rw[Bool.eq_iff_iff];simp only[Bool.or_eq_true,Bool.and_eq_true,decide_eq_true_eq,beq_iff_eq];omega
 rw[he];clear hwa hbwa h0 h1 he hl;generalize edgeB t x.1=b at*;obtain⟨x1,x2⟩:=x;unfold endA at*;dsimp only at*;have HWI:=zq (fun W=>qbM x2 0 1 W);generalize qas x2 0 1=b2 at*
 cases b with
 |false=>
  rw[Bool.false_and];go_enter Tryz.func205,Tryz.ntmps205;go_upto_region 1 with fail;rw[HWA.out];clear HWA;go_wp2_with (with_reducible refine ldZ 5 HP.out ?_);refine H.out.mono ?_;rintro e w1 ⟨rfl,hb1⟩;have c1:w1.cell? ⟨w.heap.size+1,1,none⟩=some (.int .i64 x2):=(HC.out w1 hb1).cell 1;have HB1:=tB HBWA hb1;clear hb1 HC H HP HBWA c0;go_wp2;go_ret
  exact⟨by first|rfl|simp,HB1.out⟩
 |true=>
  rw[Bool.true_and];go_enter Tryz.func205,Tryz.ntmps205;go_upto_region 1 with fail;rw[HWA.out];clear HWA;go_wp2_with (with_reducible refine ldZ 5 HP.out ?_);refine H.out.mono ?_;rintro e w1 ⟨rfl,hb1⟩;have c1:w1.cell? ⟨w.heap.size+1,1,none⟩=some (.int .i64 x2):=(HC.out w1 hb1).cell 1;have HB1:=tB HBWA hb1;clear hb1 HC H HP HBWA c0;go_wp2_with fail;refine(HWI.out _).mono ?_;rintro e w2 ⟨rfl,rfl⟩;go_wp2;go_ret
  exact⟨by first|rfl|simp,HB1.out⟩
theorem qgs (t:Tp3)(a:TpA)(j:Jt3)(w:World)(hl:t.edges.length<=100):
  Calls Tryz.prog 170 #[.agg (tpC t a),.agg (jtA j)] w fun e w'=>e= .returned (.bool (connB t j))/\Below w.heap.size w w':=by
 obtain⟨wa,hwa,hbwa,HWA,HBWA,h0,h1⟩:=bx2Z w 27 (tpC t a) 149 (jtA j);have c0:wa.cell? ⟨w.heap.size+1,0,none⟩=some (.int .i64 j.a.1):=h1.cell 0;have c1:wa.cell? ⟨w.heap.size+1,1,none⟩=some (.int .i64 j.a.2):=h1.cell 1;have H:=zq (fun W=>otend_any t a j.a W hl);have H2:=zq (fun W=>otend_any t a j.b W hl);have HP:=zq h0;have HC:=zH h1;have HD:=zH h0;unfold connB;clear hwa hbwa h0 h1 hl;generalize endB t j.a=b at*;generalize endB t j.b=b2 at*;obtain⟨⟨j1,j2⟩,⟨j3,j4⟩⟩:=j;unfold jtA endA at*;dsimp only at*
 cases b with
 |false=>
  rw[Bool.false_and];go_enter Tryz.func170,Tryz.ntmps170;go_upto_region 1 with fail;rw[HWA.out];clear HWA;go_wp2_with (with_reducible refine ldZ 5 HP.out ?_);refine(H.out _).mono ?_;rintro e w1 ⟨rfl,hb1⟩;have d0:w1.cell? ⟨w.heap.size+1,2,none⟩=some (.int .i64 j3):=(HC.out w1 hb1).cell 2;have d1:w1.cell? ⟨w.heap.size+1,3,none⟩=some (.int .i64 j4):=(HC.out w1 hb1).cell 3;have HE:=zq (HD.out w1 hb1);have HB1:=tB HBWA hb1;clear hb1 HC HD H HP HBWA c0 c1;go_wp2;go_ret
  exact⟨by first|rfl|simp,HB1.out⟩
 |true=>
  rw[Bool.true_and];go_enter Tryz.func170,Tryz.ntmps170;go_upto_region 1 with fail;rw[HWA.out];clear HWA;go_wp2_with (with_reducible refine ldZ 5 HP.out ?_);refine(H.out _).mono ?_;rintro e w1 ⟨rfl,hb1⟩;have d0:w1.cell? ⟨w.heap.size+1,2,none⟩=some (.int .i64 j3):=(HC.out w1 hb1).cell 2;have d1:w1.cell? ⟨w.heap.size+1,3,none⟩=some (.int .i64 j4):=(HC.out w1 hb1).cell 3;have HE:=zq (HD.out w1 hb1);have HB1:=tB HBWA hb1;clear hb1 HC HD H HP HBWA c0 c1;go_wp2_with ((with_reducible refine qbF 10 ?_);refine qaC (o:=⟨some 10,_,_,_,_,_⟩) 27 _ rfl (by kernel_rfl) (w.heap.size) rfl 27 (tpC t a) (0,0) _ (HE.out).raw11 Tryz.underlying27 rfl (by kernel_rfl) ?_);refine(H2.out _).mono ?_;rintro e w2 ⟨rfl,hb2⟩;have HB2:=tB HB1 hb2;clear hb2 HE d0 d1;go_wp2;go_ret
  exact⟨by first|rfl|simp,HB2.out⟩
theorem otlv_any (x:Int×Int)(w:World):
  Calls Tryz.prog 171 #[.agg (endA x)] w fun e w'=>e= .returned (.agg (stA13 (lvS x)))/\Below w.heap.size w w':=by
 obtain⟨wa,hwa,hbwa,HWA,HBWA,h0,h1⟩:=bx2Z w 147 (endA x) 30 #[.int .i64 0,.bool false];have c0:wa.cell? ⟨w.heap.size,0,none⟩=some (.int .i64 x.1):=h0.cell 0;have c1:wa.cell? ⟨w.heap.size,1,none⟩=some (.int .i64 x.2):=h0.cell 1;have HZ:=zq h1;clear hwa hbwa h0 h1;obtain⟨n,r⟩:=x;unfold endA at*;unfold stA13 lvS;dsimp only at*;obtain⟨q,hq⟩:=geZ ((r==0));rw[hq];have HR:=zq (qaa HZ.out #[.int .i64 n,.bool q]);have HBF:=zq (qab (g:=w.heap.size+1) HBWA.out (by omega) #[.int .i64 n,.bool q]);go_enter Tryz.func171,Tryz.ntmps171;go_upto_region 1 with fail;rw[HWA.out];clear HWA HBWA;go_wp2_with (with_reducible refine stZ #[.int .i64 n,.bool q] HZ.out ?_);refine roZ HR.out ?_;exact⟨rfl,HBF.out⟩
theorem oten_any (x:Int×Int)(w:World):
  Calls Tryz.prog 172 #[.agg (endA x)] w fun e w'=>e= .returned (.agg (stA13 (enS x)))/\Below w.heap.size w w':=by
 obtain⟨wa,hwa,hbwa,HWA,HBWA,h0,h1⟩:=bx2Z w 147 (endA x) 30 #[.int .i64 0,.bool false];have c0:wa.cell? ⟨w.heap.size,0,none⟩=some (.int .i64 x.1):=h0.cell 0;have c1:wa.cell? ⟨w.heap.size,1,none⟩=some (.int .i64 x.2):=h0.cell 1;have HZ:=zq h1;clear hwa hbwa h0 h1;obtain⟨n,r⟩:=x;unfold endA at*;unfold stA13 enS;dsimp only at*;obtain⟨q,hq⟩:=geZ ((r==1));rw[hq];have HR:=zq (qaa HZ.out #[.int .i64 n,.bool q]);have HBF:=zq (qab (g:=w.heap.size+1) HBWA.out (by omega) #[.int .i64 n,.bool q]);go_enter Tryz.func172,Tryz.ntmps172;go_upto_region 1 with fail;rw[HWA.out];clear HWA HBWA;go_wp2_with (with_reducible refine stZ #[.int .i64 n,.bool q] HZ.out ?_);refine roZ HR.out ?_;exact⟨rfl,HBF.out⟩
theorem otcmp_any (x y:St3)(w:World):
  Calls Tryz.prog 97 #[.agg (stA13 x),.agg (stA13 y)] w fun e w'=>e= .returned (.int .i64 (cmpS x y))/\w'=(w.alloc (.cells (stA13 x) 30)).alloc (.cells (stA13 y) 30):=by
 obtain⟨wa,hwa,hbwa,HWA,HBWA,h0,h1⟩:=bx2Z w 30 (stA13 x) 30 (stA13 y);have c0:wa.cell? ⟨w.heap.size,0,none⟩=some (.int .i64 x.edge):=h0.cell 0;have c1:wa.cell? ⟨w.heap.size,1,none⟩=some (.bool x.rev):=h0.cell 1;have d0:wa.cell? ⟨w.heap.size+1,0,none⟩=some (.int .i64 y.edge):=h1.cell 0;have d1:wa.cell? ⟨w.heap.size+1,1,none⟩=some (.bool y.rev):=h1.cell 1;have he:=eql_st13 x y;unfold cmpS ltS;generalize eqS x y=b at*;obtain⟨x1,x2⟩:=x;obtain⟨y1,y2⟩:=y;unfold stA13 at*;dsimp only at*;clear hwa hbwa h0 h1 HBWA
 cases b with
 |true=>
  rw[if_pos rfl];go_enter Tryz.func97,Tryz.ntmps97;go_upto_region 1 with fail;rw[HWA.out];go_wp2;go_ret
  exact⟨by first|rfl|simp,HWA.out.symm⟩
 |false=>
  rw[if_neg (by decide)];by_cases h1:x1<y1
  ·rw[decide_eq_true h1,Bool.true_or,if_pos rfl]
   go_enter Tryz.func97,Tryz.ntmps97;go_upto_region 1 with fail;rw[HWA.out];go_wp2;go_ret
   exact⟨by first|rfl|simp,HWA.out.symm⟩
  ·rw[decide_eq_false h1,Bool.false_or]
   by_cases h2:x1=y1
   ·subst h2
    rw[beq_self_eq_true,Bool.true_and]
    cases y2 with
    |true=>
     rw[if_pos rfl];go_enter Tryz.func97,Tryz.ntmps97;go_upto_region 1 with fail;rw[HWA.out];go_wp2;go_ret
     exact⟨by first|rfl|simp,HWA.out.symm⟩
    |false=>
     rw[if_neg (by decide)];go_enter Tryz.func97,Tryz.ntmps97;go_upto_region 1 with fail;rw[HWA.out];go_wp2;go_ret
     exact⟨by first|rfl|simp,HWA.out.symm⟩
   ·have h3:(x1==y1)=false:=by simp[h2]
    rw[h3,Bool.false_and,if_neg (by decide)];go_enter Tryz.func97,Tryz.ntmps97;go_upto_region 1 with fail;rw[HWA.out];go_wp2;go_ret
    exact⟨by first|rfl|simp,HWA.out.symm⟩
end
section
open Go.RowKit
open Go.Great
def idxA {α:Type}(p:α->Bool):List α->Nat->Int
 |[],_=> -1
 |x::r,k=>if p x=true then(k:Int)else idxA p r (k+1)
def idxL {α:Type}(p:α->Bool)(l:List α):Int:=idxA p l 0
theorem qbO {α:Type}(p:α->Bool)(l:List α)(k:Nat):(idxA p l k= -1/\ ∀(i:Nat) (y:α),l[i]?=some y->p y=false)\/ ∃(j:Nat) (x:α),l[j]?=some x/\p x=true/\(∀(i:Nat) (y:α),i<j->l[i]?=some y->p y=false)/\idxA p l k=((k+j:Nat):Int):=by
 induction l generalizing k with
 |nil=>exact .inl ⟨rfl,fun i y h=>by simp at h⟩
 |cons x r ih=>
  unfold idxA;by_cases hx:p x=true
  ·rw[if_pos hx]
   exact .inr ⟨0,x,rfl,hx,fun i y h=>absurd h (by omega),rfl⟩
  ·rw[if_neg hx]
   have hx':p x=false:=by simpa using hx
   rcases ih (k+1)with⟨h1,h2⟩|⟨j,y,h1,h2,h3,h4⟩
   ·refine .inl ⟨h1,fun i y h=>?_⟩
    cases i with
    |zero=>simp at h;exact h▸hx'
    |succ m=>exact h2 m y (by simpa using h)
   ·refine .inr ⟨j+1,y,by simpa using h1,h2,fun i z hi hz=>?_,by rw[h4];congr 1;omega⟩
    cases i with
    |zero=>simp at hz;exact hz▸hx'
    |succ m=>exact h3 m z (by omega) (by simpa using hz)
theorem qbE {α:Type}{p:α->Bool}{l:List α}{j:Nat}{x:α}(hx:l[j]?=some x)(hp:p x=true)(hno: ∀(i:Nat) (y:α),i<j->l[i]?=some y->p y=false):idxL p l=j:=by
 rcases qbO p l 0 with⟨_,h2⟩|⟨m,y,h1,h2,h3,h4⟩
 ·rw[h2 j x hx]at hp;cases hp
 ·unfold idxL
  rw[h4]
  rcases Nat.lt_trichotomy m j with h|h|h
  ·rw[hno m y h h1]at h2;cases h2
  ·rw[h];congr 1;omega
  ·rw[h3 j x h hx]at hp;cases hp
theorem qbc {α:Type}{p:α->Bool}{l:List α}(hno: ∀(i:Nat) (y:α),i<l.length->l[i]?=some y->p y=false):idxL p l= -1:=by
 rcases qbO p l 0 with⟨h1,_⟩|⟨m,y,h1,h2,_,_⟩
 ·exact h1
 ·rw[hno m y (List.getElem?_eq_some_iff.1 h1).1 h1]at h2;cases h2
theorem qbn {α:Type}(p:α->Bool)(l:List α):decide (0<=idxL p l)=l.any p:=by
 rw[Bool.eq_iff_iff,decide_eq_true_eq,List.any_eq_true];unfold idxL
 rcases qbO p l 0 with⟨h1,h2⟩|⟨m,y,h1,h2,_,h4⟩
 ·rw[h1]
  refine⟨fun h=>absurd h (by decide),?_⟩;rintro⟨x,hx,e⟩;obtain⟨i,hi,rfl⟩:=List.getElem_of_mem hx;rw[h2 i _ (List.getElem?_eq_getElem hi)]at e;cases e
 ·rw[h4]
  exact⟨fun _=>⟨y,List.mem_of_getElem? h1,h2⟩,fun _=>by omega⟩
theorem otfb_any (b:Bl3)(id:Int)(g:Nat)(w:World)(hc:w.cell? ⟨g,0,none⟩=some (.int .i64 id)):
  Calls Tryz.prog 207 #[.agg (blA b),.pointer (some ⟨g,0,none⟩)] w fun e w'=>e= .returned (.bool (b.id==id))/\Below w.heap.size w w':=by
 obtain⟨wa,hwa,hbwa,HWA,HBWA,h0⟩:=bx1Z w 151 (blA b);have c0:wa.cell? ⟨w.heap.size,0,none⟩=some (.int .i64 b.id):=h0.cell 0;have e0:wa.cell? ⟨g,0,none⟩=some (.int .i64 id):=(hbwa.cell (qah hc)).trans hc;clear hwa hbwa h0 hc;obtain⟨q,hq⟩:=geZ ((b.id==id));rw[hq];unfold blA at*;go_enter Tryz.func207,Tryz.ntmps207;go_upto_region 1 with fail;rw[HWA.out];clear HWA;go_wp2;go_ret
 exact⟨by first|rfl|(rw[hq];done)|simp_all,HBWA.out⟩
theorem otfr_any (r:Rt3)(v:Value)(id:Int)(g:Nat)(w:World)(hc:w.cell? ⟨g,0,none⟩=some (.int .i64 id)):
  Calls Tryz.prog 166 #[.agg #[.int .i64 r.id,v,.int .i64 r.gap,.int .i64 r.timer],.pointer (some ⟨g,0,none⟩)] w fun e w'=>e= .returned (.bool (r.id==id))/\Below w.heap.size w w':=by
 obtain⟨wa,hwa,hbwa,HWA,HBWA,h0⟩:=bx1Z w 75 #[.int .i64 r.id,v,.int .i64 r.gap,.int .i64 r.timer];have c0:wa.cell? ⟨w.heap.size,0,none⟩=some (.int .i64 r.id):=h0.cell 0;have e0:wa.cell? ⟨g,0,none⟩=some (.int .i64 id):=(hbwa.cell (qah hc)).trans hc;clear hwa hbwa h0 hc;obtain⟨q,hq⟩:=geZ ((r.id==id));rw[hq];go_enter Tryz.func166,Tryz.ntmps166;go_upto_region 1 with fail;rw[HWA.out];clear HWA;go_wp2;go_ret
 exact⟨by first|rfl|(rw[hq];done)|simp_all,HBWA.out⟩
theorem otre_any (x:St3)(d:Int)(g:Nat)(w:World)(hc:w.cell? ⟨g,0,none⟩=some (.int .i64 d)):
  Calls Tryz.prog 208 #[.agg (stA13 x),.pointer (some ⟨g,0,none⟩)] w fun e w'=>e= .returned (.bool (x.edge==d))/\Below w.heap.size w w':=by
 obtain⟨wa,hwa,hbwa,HWA,HBWA,h0⟩:=bx1Z w 30 (stA13 x);have c0:wa.cell? ⟨w.heap.size,0,none⟩=some (.int .i64 x.edge):=h0.cell 0;have e0:wa.cell? ⟨g,0,none⟩=some (.int .i64 d):=(hbwa.cell (qah hc)).trans hc;clear hwa hbwa h0 hc;obtain⟨q,hq⟩:=geZ ((x.edge==d));rw[hq];unfold stA13 at*;go_enter Tryz.func208,Tryz.ntmps208;go_upto_region 1 with fail;rw[HWA.out];clear HWA;go_wp2;go_ret
 exact⟨by first|rfl|(rw[hq];done)|simp_all,HBWA.out⟩
theorem othb_any (b:Bl3)(d:Int)(g:Nat)(w:World)(hc:w.cell? ⟨g,0,none⟩=some (.int .i64 d)):
  Calls Tryz.prog 210 #[.agg (blA b),.pointer (some ⟨g,0,none⟩)] w fun e w'=>e= .returned (.bool (b.edge==d))/\Below w.heap.size w w':=by
 obtain⟨wa,hwa,hbwa,HWA,HBWA,h0⟩:=bx1Z w 151 (blA b);have c0:wa.cell? ⟨w.heap.size,1,none⟩=some (.int .i64 b.edge):=h0.cell 1;have e0:wa.cell? ⟨g,0,none⟩=some (.int .i64 d):=(hbwa.cell (qah hc)).trans hc;clear hwa hbwa h0 hc;obtain⟨q,hq⟩:=geZ ((b.edge==d));rw[hq];unfold blA at*;go_enter Tryz.func210,Tryz.ntmps210;go_upto_region 1 with fail;rw[HWA.out];clear HWA;go_wp2;go_ret
 exact⟨by first|rfl|(rw[hq];done)|simp_all,HBWA.out⟩
theorem otee_any (t:Tp3)(a:TpA)(x:St3)(g:Nat)(w:World)(hc:Has w g 27 (tpC t a))(hl:t.edges.length<=100):
  Calls Tryz.prog 218 #[.agg (stA13 x),.pointer (some ⟨g,0,none⟩)] w fun e w'=>e= .returned (.bool (!edgeB t x.edge))/\Below w.heap.size w w':=by
 obtain⟨wa,hwa,hbwa,HWA,HBWA,h0⟩:=bx1Z w 30 (stA13 x);have c0:wa.cell? ⟨w.heap.size,0,none⟩=some (.int .i64 x.edge):=h0.cell 0;have HP:=zq (hc.u hbwa);have H:=zq (fun W=>qeo t a x.edge W hl);clear hwa hbwa h0 hc;generalize edgeB t x.edge=q at*;unfold stA13 at*;go_enter Tryz.func218,Tryz.ntmps218;go_upto_region 1 with fail;rw[HWA.out];clear HWA;go_wp2_with (with_reducible refine ldZ 4 HP.out ?_);refine(H.out _).mono ?_;rintro e w1 ⟨rfl,hb1⟩;have HB1:=tB HBWA hb1;clear hb1;go_wp2;go_ret
 exact⟨rfl,HB1.out⟩
theorem otck_any (x:Int)(w:World):
  Calls Tryz.prog 100 #[.int .i64 x] w fun e w'=>e= .returned (.bool (!qas x 1 1000000))/\Below w.heap.size w w':=by
 have H:=zq (qbM x 1 1000000 w);have HB:=zq (Below.refl w.heap.size w);generalize qas x 1 1000000=q at*;go_enter Tryz.func100,Tryz.ntmps100;go_wp2_with fail;refine H.out.mono ?_;rintro e w1 ⟨rfl,rfl⟩;go_wp2;go_ret
 exact⟨rfl,HB.out⟩
theorem SlO.len13 {α:Type}{f:α->List Value}{k:Nat}{w:World}{A:Option Addr}{n c:Nat}{l:List α}(h:SlO f k w A n c l):l.length=n:=h.1
theorem RtsR.len13 {w:World}{A:Option Addr}{n c:Nat}{rs:List Rt3}(h:RtsR w A n c rs):rs.length=n:=by
 obtain⟨l,rfl,h2,_⟩:=h;rw[List.length_map];exact h2.1
theorem SlO.int13 {w:World}{A:Option Addr}{n c:Nat}{l:List Int}(h:SlO inC 1 w A n c l){j:Nat}{x:Int}(hx:l[j]?=some x): ∃b off,A=some ⟨b,off,none⟩/\w.cell? ⟨b,off+j,none⟩=some (.int .i64 x):=by
 obtain⟨b,off,e,hc⟩:=h.at_ (fun _=>rfl) (by decide) hx;exact⟨b,off,e,by simpa using hc 0 _ rfl⟩
theorem oix_fb (p:Bl3->Bool)(l:List Bl3)(A:Option Addr)(n c:Nat)(g:Nat)(w:World)(hs:SlO blC 3 w A n c l)(hbig:n<=1048576)
  (HE:Hid (∀(x:Bl3) W,Below w.heap.size w W->Calls Tryz.prog 207 #[.agg (blA x),.pointer (some ⟨g,0,none⟩)] W fun e w'=>e= .returned (.bool (p x))/\Below W.heap.size W w')):
  Calls Tryz.prog 160 #[.slice A n c,.func (.func 207) #[] #[.pointer (some ⟨g,0,none⟩)]] w fun e w'=>e= .returned (.int .i64 (idxL p l))/\Below w.heap.size w w':=by
 try unfold blA at HE
 try unfold stA13 at HE
 have HN:Hid (l.length=n):=zq hs.len13;have HW:=zq hs;clear hs;have x0:(0:Int)<=n:=by omega
 obtain⟨R,hR⟩:=geZ (idxL p l);have HR:=zq hR;rw[hR];clear hR;go_enter Tryz.func160,Tryz.ntmps160;go_wp2;go_loopg [8] n (fun kk v wl=> ∃j:Nat,j<=n/\n-j<=kk/\v= .int .i64 j/\Hid (∀i x,i<j->l[i]?=some x->p x=false)/\Hid (Below w.heap.size w wl))
 case atStart=>exact⟨0,by omega,by omega,rfl,zq fun i x h=>absurd h (by omega),zq (Below.refl _ _)⟩
 obtain⟨j,hj,hjk,rfl,HNO,HBL⟩:=hrel;by_cases hlt:j<n
 ·obtain⟨x,hx⟩:=glZ l (j) (by rw[HN.out];omega)
  obtain⟨bk,off,rfl,d0,d1,d2⟩:=(HW.out.under HBL.out).bal hx;have HX:=zq hx;have y0:(0:Int)<=j:=by omega
  have y1:(j:Int)<n:=by omega
  have HC:=zq (HE.out x wr HBL.out);clear hx;generalize hb:p x=b at*;have HBE:=zq hb;clear hb
  cases b with
  |true=>
   have HF:Hid (R=j):=zq (by rw[<-HR.out];exact qbE HX.out HBE.out HNO.out);go_upto_region 4 with fail;go_wp2_with fail;refine HC.out.mono ?_;rintro e w1 ⟨rfl,hb1⟩;have HB1:=tB HBL hb1;clear hb1 d0 d1 d2 HBE HNO;go_wp2;go_ret
   exact⟨by rw[HF.out];rfl,HB1.out⟩
  |false=>
   go_upto_region 4 with fail;go_wp2_with fail;refine HC.out.mono ?_;rintro e w1 ⟨rfl,hb1⟩;have HB1:=tB HBL hb1;have HN2:Hid (∀i y,i<j+1->l[i]?=some y->p y=false):=zq fun i y hi hy=>by
    by_cases h:i=j
    ·subst h;rw[HX.out]at hy;cases hy;exact HBE.out
    ·exact HNO.out i y (by omega) hy
   clear hb1 d0 d1 d2 HBE HNO;go_wp2;go_roundg (gk-1)
   case measure=>omega
   case rel=>exact⟨j+1,by omega,by omega,by go_num,HN2,HB1⟩
 ·have y1: ¬(j:Int)<n:=by omega
  have HF:Hid (R= -1):=zq (by rw[<-HR.out];exact qbc fun i y hi hy=>HNO.out i y (by have:=HN.out;omega) hy);go_wp2;go_ret
  exact⟨by rw[HF.out];rfl,HBL.out⟩
theorem oix_hb (p:Bl3->Bool)(l:List Bl3)(A:Option Addr)(n c:Nat)(g:Nat)(w:World)(hs:SlO blC 3 w A n c l)(hbig:n<=1048576)
  (HE:Hid (∀(x:Bl3) W,Below w.heap.size w W->Calls Tryz.prog 210 #[.agg (blA x),.pointer (some ⟨g,0,none⟩)] W fun e w'=>e= .returned (.bool (p x))/\Below W.heap.size W w')):
  Calls Tryz.prog 160 #[.slice A n c,.func (.func 210) #[] #[.pointer (some ⟨g,0,none⟩)]] w fun e w'=>e= .returned (.int .i64 (idxL p l))/\Below w.heap.size w w':=by
 try unfold blA at HE
 try unfold stA13 at HE
 have HN:Hid (l.length=n):=zq hs.len13;have HW:=zq hs;clear hs;have x0:(0:Int)<=n:=by omega
 obtain⟨R,hR⟩:=geZ (idxL p l);have HR:=zq hR;rw[hR];clear hR;go_enter Tryz.func160,Tryz.ntmps160;go_wp2;go_loopg [8] n (fun kk v wl=> ∃j:Nat,j<=n/\n-j<=kk/\v= .int .i64 j/\Hid (∀i x,i<j->l[i]?=some x->p x=false)/\Hid (Below w.heap.size w wl))
 case atStart=>exact⟨0,by omega,by omega,rfl,zq fun i x h=>absurd h (by omega),zq (Below.refl _ _)⟩
 obtain⟨j,hj,hjk,rfl,HNO,HBL⟩:=hrel;by_cases hlt:j<n
 ·obtain⟨x,hx⟩:=glZ l (j) (by rw[HN.out];omega)
  obtain⟨bk,off,rfl,d0,d1,d2⟩:=(HW.out.under HBL.out).bal hx;have HX:=zq hx;have y0:(0:Int)<=j:=by omega
  have y1:(j:Int)<n:=by omega
  have HC:=zq (HE.out x wr HBL.out);clear hx;generalize hb:p x=b at*;have HBE:=zq hb;clear hb
  cases b with
  |true=>
   have HF:Hid (R=j):=zq (by rw[<-HR.out];exact qbE HX.out HBE.out HNO.out);go_upto_region 4 with fail;go_wp2_with fail;refine HC.out.mono ?_;rintro e w1 ⟨rfl,hb1⟩;have HB1:=tB HBL hb1;clear hb1 d0 d1 d2 HBE HNO;go_wp2;go_ret
   exact⟨by rw[HF.out];rfl,HB1.out⟩
  |false=>
   go_upto_region 4 with fail;go_wp2_with fail;refine HC.out.mono ?_;rintro e w1 ⟨rfl,hb1⟩;have HB1:=tB HBL hb1;have HN2:Hid (∀i y,i<j+1->l[i]?=some y->p y=false):=zq fun i y hi hy=>by
    by_cases h:i=j
    ·subst h;rw[HX.out]at hy;cases hy;exact HBE.out
    ·exact HNO.out i y (by omega) hy
   clear hb1 d0 d1 d2 HBE HNO;go_wp2;go_roundg (gk-1)
   case measure=>omega
   case rel=>exact⟨j+1,by omega,by omega,by go_num,HN2,HB1⟩
 ·have y1: ¬(j:Int)<n:=by omega
  have HF:Hid (R= -1):=zq (by rw[<-HR.out];exact qbc fun i y hi hy=>HNO.out i y (by have:=HN.out;omega) hy);go_wp2;go_ret
  exact⟨by rw[HF.out];rfl,HBL.out⟩
theorem oix_fr (p:Rt3->Bool)(l:List Rt3)(A:Option Addr)(n c:Nat)(g:Nat)(w:World)(hs:RtsR w A n c l)(hbig:n<=1048576)
  (HE:Hid (∀(x:Rt3) (PA:Option Addr) (pc:Nat) W,Below w.heap.size w W->Calls Tryz.prog 166 #[.agg #[.int .i64 x.id,.slice PA x.path.length pc,.int .i64 x.gap,.int .i64 x.timer],.pointer (some ⟨g,0,none⟩)] W fun e w'=>e= .returned (.bool (p x))/\Below W.heap.size W w')):
  Calls Tryz.prog 165 #[.slice A n c,.func (.func 166) #[] #[.pointer (some ⟨g,0,none⟩)]] w fun e w'=>e= .returned (.int .i64 (idxL p l))/\Below w.heap.size w w':=by
 try unfold blA at HE
 try unfold stA13 at HE
 have HN:Hid (l.length=n):=zq hs.len13;have HW:=zq hs;clear hs;have x0:(0:Int)<=n:=by omega
 obtain⟨R,hR⟩:=geZ (idxL p l);have HR:=zq hR;rw[hR];clear hR;go_enter Tryz.func165,Tryz.ntmps165;go_wp2;go_loopg [8] n (fun kk v wl=> ∃j:Nat,j<=n/\n-j<=kk/\v= .int .i64 j/\Hid (∀i x,i<j->l[i]?=some x->p x=false)/\Hid (Below w.heap.size w wl))
 case atStart=>exact⟨0,by omega,by omega,rfl,zq fun i x h=>absurd h (by omega),zq (Below.refl _ _)⟩
 obtain⟨j,hj,hjk,rfl,HNO,HBL⟩:=hrel;by_cases hlt:j<n
 ·obtain⟨x,hx⟩:=glZ l (j) (by rw[HN.out];omega)
  obtain⟨bk,off,PA,pc,rfl,_,d0,d1,d2,d3⟩:=(HW.out.under HBL.out).at_ hx;have HX:=zq hx;have y0:(0:Int)<=j:=by omega
  have y1:(j:Int)<n:=by omega
  have HC:=zq (HE.out x PA pc wr HBL.out);clear hx;generalize hb:p x=b at*;have HBE:=zq hb;clear hb
  cases b with
  |true=>
   have HF:Hid (R=j):=zq (by rw[<-HR.out];exact qbE HX.out HBE.out HNO.out);go_upto_region 4 with fail;go_wp2_with fail;refine HC.out.mono ?_;rintro e w1 ⟨rfl,hb1⟩;have HB1:=tB HBL hb1;clear hb1 d0 d1 d2 d3 HBE HNO;go_wp2;go_ret
   exact⟨by rw[HF.out];rfl,HB1.out⟩
  |false=>
   go_upto_region 4 with fail;go_wp2_with fail;refine HC.out.mono ?_;rintro e w1 ⟨rfl,hb1⟩;have HB1:=tB HBL hb1;have HN2:Hid (∀i y,i<j+1->l[i]?=some y->p y=false):=zq fun i y hi hy=>by
    by_cases h:i=j
    ·subst h;rw[HX.out]at hy;cases hy;exact HBE.out
    ·exact HNO.out i y (by omega) hy
   clear hb1 d0 d1 d2 d3 HBE HNO;go_wp2;go_roundg (gk-1)
   case measure=>omega
   case rel=>exact⟨j+1,by omega,by omega,by go_num,HN2,HB1⟩
 ·have y1: ¬(j:Int)<n:=by omega
  have HF:Hid (R= -1):=zq (by rw[<-HR.out];exact qbc fun i y hi hy=>HNO.out i y (by have:=HN.out;omega) hy);go_wp2;go_ret
  exact⟨by rw[HF.out];rfl,HBL.out⟩
theorem oix_ee (p:St3->Bool)(l:List St3)(A:Option Addr)(n c:Nat)(g:Nat)(w:World)(hs:SlO stC 2 w A n c l)(hbig:n<=1048576)
  (HE:Hid (∀(x:St3) W,Below w.heap.size w W->Calls Tryz.prog 218 #[.agg (stA13 x),.pointer (some ⟨g,0,none⟩)] W fun e w'=>e= .returned (.bool (p x))/\Below W.heap.size W w')):
  Calls Tryz.prog 181 #[.slice A n c,.func (.func 218) #[] #[.pointer (some ⟨g,0,none⟩)]] w fun e w'=>e= .returned (.int .i64 (idxL p l))/\Below w.heap.size w w':=by
 try unfold blA at HE
 try unfold stA13 at HE
 have HN:Hid (l.length=n):=zq hs.len13;have HW:=zq hs;clear hs;have x0:(0:Int)<=n:=by omega
 obtain⟨R,hR⟩:=geZ (idxL p l);have HR:=zq hR;rw[hR];clear hR;go_enter Tryz.func181,Tryz.ntmps181;go_wp2;go_loopg [8] n (fun kk v wl=> ∃j:Nat,j<=n/\n-j<=kk/\v= .int .i64 j/\Hid (∀i x,i<j->l[i]?=some x->p x=false)/\Hid (Below w.heap.size w wl))
 case atStart=>exact⟨0,by omega,by omega,rfl,zq fun i x h=>absurd h (by omega),zq (Below.refl _ _)⟩
 obtain⟨j,hj,hjk,rfl,HNO,HBL⟩:=hrel;by_cases hlt:j<n
 ·obtain⟨x,hx⟩:=glZ l (j) (by rw[HN.out];omega)
  obtain⟨bk,off,rfl,d0,d1⟩:=(HW.out.under HBL.out).step hx;have HX:=zq hx;have y0:(0:Int)<=j:=by omega
  have y1:(j:Int)<n:=by omega
  have HC:=zq (HE.out x wr HBL.out);clear hx;generalize hb:p x=b at*;have HBE:=zq hb;clear hb
  cases b with
  |true=>
   have HF:Hid (R=j):=zq (by rw[<-HR.out];exact qbE HX.out HBE.out HNO.out);go_upto_region 4 with fail;go_wp2_with fail;refine HC.out.mono ?_;rintro e w1 ⟨rfl,hb1⟩;have HB1:=tB HBL hb1;clear hb1 d0 d1 HBE HNO;go_wp2;go_ret
   exact⟨by rw[HF.out];rfl,HB1.out⟩
  |false=>
   go_upto_region 4 with fail;go_wp2_with fail;refine HC.out.mono ?_;rintro e w1 ⟨rfl,hb1⟩;have HB1:=tB HBL hb1;have HN2:Hid (∀i y,i<j+1->l[i]?=some y->p y=false):=zq fun i y hi hy=>by
    by_cases h:i=j
    ·subst h;rw[HX.out]at hy;cases hy;exact HBE.out
    ·exact HNO.out i y (by omega) hy
   clear hb1 d0 d1 HBE HNO;go_wp2;go_roundg (gk-1)
   case measure=>omega
   case rel=>exact⟨j+1,by omega,by omega,by go_num,HN2,HB1⟩
 ·have y1: ¬(j:Int)<n:=by omega
  have HF:Hid (R= -1):=zq (by rw[<-HR.out];exact qbc fun i y hi hy=>HNO.out i y (by have:=HN.out;omega) hy);go_wp2;go_ret
  exact⟨by rw[HF.out];rfl,HBL.out⟩
theorem oix_re (p:St3->Bool)(l:List St3)(A:Option Addr)(n c:Nat)(g:Nat)(w:World)(hs:SlO stC 2 w A n c l)(hbig:n<=1048576)
  (HE:Hid (∀(x:St3) W,Below w.heap.size w W->Calls Tryz.prog 208 #[.agg (stA13 x),.pointer (some ⟨g,0,none⟩)] W fun e w'=>e= .returned (.bool (p x))/\Below W.heap.size W w')):
  Calls Tryz.prog 181 #[.slice A n c,.func (.func 208) #[] #[.pointer (some ⟨g,0,none⟩)]] w fun e w'=>e= .returned (.int .i64 (idxL p l))/\Below w.heap.size w w':=by
 try unfold blA at HE
 try unfold stA13 at HE
 have HN:Hid (l.length=n):=zq hs.len13;have HW:=zq hs;clear hs;have x0:(0:Int)<=n:=by omega
 obtain⟨R,hR⟩:=geZ (idxL p l);have HR:=zq hR;rw[hR];clear hR;go_enter Tryz.func181,Tryz.ntmps181;go_wp2;go_loopg [8] n (fun kk v wl=> ∃j:Nat,j<=n/\n-j<=kk/\v= .int .i64 j/\Hid (∀i x,i<j->l[i]?=some x->p x=false)/\Hid (Below w.heap.size w wl))
 case atStart=>exact⟨0,by omega,by omega,rfl,zq fun i x h=>absurd h (by omega),zq (Below.refl _ _)⟩
 obtain⟨j,hj,hjk,rfl,HNO,HBL⟩:=hrel;by_cases hlt:j<n
 ·obtain⟨x,hx⟩:=glZ l (j) (by rw[HN.out];omega)
  obtain⟨bk,off,rfl,d0,d1⟩:=(HW.out.under HBL.out).step hx;have HX:=zq hx;have y0:(0:Int)<=j:=by omega
  have y1:(j:Int)<n:=by omega
  have HC:=zq (HE.out x wr HBL.out);clear hx;generalize hb:p x=b at*;have HBE:=zq hb;clear hb
  cases b with
  |true=>
   have HF:Hid (R=j):=zq (by rw[<-HR.out];exact qbE HX.out HBE.out HNO.out);go_upto_region 4 with fail;go_wp2_with fail;refine HC.out.mono ?_;rintro e w1 ⟨rfl,hb1⟩;have HB1:=tB HBL hb1;clear hb1 d0 d1 HBE HNO;go_wp2;go_ret
   exact⟨by rw[HF.out];rfl,HB1.out⟩
  |false=>
   go_upto_region 4 with fail;go_wp2_with fail;refine HC.out.mono ?_;rintro e w1 ⟨rfl,hb1⟩;have HB1:=tB HBL hb1;have HN2:Hid (∀i y,i<j+1->l[i]?=some y->p y=false):=zq fun i y hi hy=>by
    by_cases h:i=j
    ·subst h;rw[HX.out]at hy;cases hy;exact HBE.out
    ·exact HNO.out i y (by omega) hy
   clear hb1 d0 d1 HBE HNO;go_wp2;go_roundg (gk-1)
   case measure=>omega
   case rel=>exact⟨j+1,by omega,by omega,by go_num,HN2,HB1⟩
 ·have y1: ¬(j:Int)<n:=by omega
  have HF:Hid (R= -1):=zq (by rw[<-HR.out];exact qbc fun i y hi hy=>HNO.out i y (by have:=HN.out;omega) hy);go_wp2;go_ret
  exact⟨by rw[HF.out];rfl,HBL.out⟩
theorem oix_ck (p:Int->Bool)(l:List Int)(A:Option Addr)(n c:Nat)(w:World)(hs:SlO inC 1 w A n c l)(hbig:n<=1048576)
  (HE:Hid (∀(x:Int) W,Below w.heap.size w W->Calls Tryz.prog 100 #[.int .i64 x] W fun e w'=>e= .returned (.bool (p x))/\Below W.heap.size W w')):
  Calls Tryz.prog 173 #[.slice A n c,.func (.func 100) #[] #[]] w fun e w'=>e= .returned (.int .i64 (idxL p l))/\Below w.heap.size w w':=by
 try unfold blA at HE
 try unfold stA13 at HE
 have HN:Hid (l.length=n):=zq hs.len13;have HW:=zq hs;clear hs;have x0:(0:Int)<=n:=by omega
 obtain⟨R,hR⟩:=geZ (idxL p l);have HR:=zq hR;rw[hR];clear hR;go_enter Tryz.func173,Tryz.ntmps173;go_wp2;go_loopg [8] n (fun kk v wl=> ∃j:Nat,j<=n/\n-j<=kk/\v= .int .i64 j/\Hid (∀i x,i<j->l[i]?=some x->p x=false)/\Hid (Below w.heap.size w wl))
 case atStart=>exact⟨0,by omega,by omega,rfl,zq fun i x h=>absurd h (by omega),zq (Below.refl _ _)⟩
 obtain⟨j,hj,hjk,rfl,HNO,HBL⟩:=hrel;by_cases hlt:j<n
 ·obtain⟨x,hx⟩:=glZ l (j) (by rw[HN.out];omega)
  obtain⟨bk,off,rfl,d0⟩:=(HW.out.under HBL.out).int13 hx;have HX:=zq hx;have y0:(0:Int)<=j:=by omega
  have y1:(j:Int)<n:=by omega
  have HC:=zq (HE.out x wr HBL.out);clear hx;generalize hb:p x=b at*;have HBE:=zq hb;clear hb
  cases b with
  |true=>
   have HF:Hid (R=j):=zq (by rw[<-HR.out];exact qbE HX.out HBE.out HNO.out);go_upto_region 4 with fail;go_wp2_with fail;refine HC.out.mono ?_;rintro e w1 ⟨rfl,hb1⟩;have HB1:=tB HBL hb1;clear hb1 d0 HBE HNO;go_wp2;go_ret
   exact⟨by rw[HF.out];rfl,HB1.out⟩
  |false=>
   go_upto_region 4 with fail;go_wp2_with fail;refine HC.out.mono ?_;rintro e w1 ⟨rfl,hb1⟩;have HB1:=tB HBL hb1;have HN2:Hid (∀i y,i<j+1->l[i]?=some y->p y=false):=zq fun i y hi hy=>by
    by_cases h:i=j
    ·subst h;rw[HX.out]at hy;cases hy;exact HBE.out
    ·exact HNO.out i y (by omega) hy
   clear hb1 d0 HBE HNO;go_wp2;go_roundg (gk-1)
   case measure=>omega
   case rel=>exact⟨j+1,by omega,by omega,by go_num,HN2,HB1⟩
 ·have y1: ¬(j:Int)<n:=by omega
  have HF:Hid (R= -1):=zq (by rw[<-HR.out];exact qbc fun i y hi hy=>HNO.out i y (by have:=HN.out;omega) hy);go_wp2;go_ret
  exact⟨by rw[HF.out];rfl,HBL.out⟩
theorem oct_hb (p:Bl3->Bool)(l:List Bl3)(A:Option Addr)(n c:Nat)(g:Nat)(w:World)(hs:SlO blC 3 w A n c l)(hbig:n<=1048576)
  (HE:Hid (∀(x:Bl3) W,Below w.heap.size w W->Calls Tryz.prog 210 #[.agg (blA x),.pointer (some ⟨g,0,none⟩)] W fun e w'=>e= .returned (.bool (p x))/\Below W.heap.size W w')):
  Calls Tryz.prog 209 #[.slice A n c,.func (.func 210) #[] #[.pointer (some ⟨g,0,none⟩)]] w fun e w'=>e= .returned (.bool (l.any p))/\Below w.heap.size w w':=by
 have H:=zq (oix_hb p l A n c g w hs hbig HE);clear hs HE;rw[<-qbn];generalize idxL p l=R at*;go_enter Tryz.func209,Tryz.ntmps209;go_wp2_with fail;refine H.out.mono ?_;rintro e w1 ⟨rfl,hb1⟩;have HB1:=zq hb1;clear hb1 H;go_wp2;go_ret
 exact⟨rfl,HB1.out⟩
theorem oct_ee (p:St3->Bool)(l:List St3)(A:Option Addr)(n c:Nat)(g:Nat)(w:World)(hs:SlO stC 2 w A n c l)(hbig:n<=1048576)
  (HE:Hid (∀(x:St3) W,Below w.heap.size w W->Calls Tryz.prog 218 #[.agg (stA13 x),.pointer (some ⟨g,0,none⟩)] W fun e w'=>e= .returned (.bool (p x))/\Below W.heap.size W w')):
  Calls Tryz.prog 108 #[.slice A n c,.func (.func 218) #[] #[.pointer (some ⟨g,0,none⟩)]] w fun e w'=>e= .returned (.bool (l.any p))/\Below w.heap.size w w':=by
 have H:=zq (oix_ee p l A n c g w hs hbig HE);clear hs HE;rw[<-qbn];generalize idxL p l=R at*;go_enter Tryz.func108,Tryz.ntmps108;go_wp2_with fail;refine H.out.mono ?_;rintro e w1 ⟨rfl,hb1⟩;have HB1:=zq hb1;clear hb1 H;go_wp2;go_ret
 exact⟨rfl,HB1.out⟩
theorem oct_re (p:St3->Bool)(l:List St3)(A:Option Addr)(n c:Nat)(g:Nat)(w:World)(hs:SlO stC 2 w A n c l)(hbig:n<=1048576)
  (HE:Hid (∀(x:St3) W,Below w.heap.size w W->Calls Tryz.prog 208 #[.agg (stA13 x),.pointer (some ⟨g,0,none⟩)] W fun e w'=>e= .returned (.bool (p x))/\Below W.heap.size W w')):
  Calls Tryz.prog 108 #[.slice A n c,.func (.func 208) #[] #[.pointer (some ⟨g,0,none⟩)]] w fun e w'=>e= .returned (.bool (l.any p))/\Below w.heap.size w w':=by
 have H:=zq (oix_re p l A n c g w hs hbig HE);clear hs HE;rw[<-qbn];generalize idxL p l=R at*;go_enter Tryz.func108,Tryz.ntmps108;go_wp2_with fail;refine H.out.mono ?_;rintro e w1 ⟨rfl,hb1⟩;have HB1:=zq hb1;clear hb1 H;go_wp2;go_ret
 exact⟨rfl,HB1.out⟩
theorem oct_ck (p:Int->Bool)(l:List Int)(A:Option Addr)(n c:Nat)(w:World)(hs:SlO inC 1 w A n c l)(hbig:n<=1048576)
  (HE:Hid (∀(x:Int) W,Below w.heap.size w W->Calls Tryz.prog 100 #[.int .i64 x] W fun e w'=>e= .returned (.bool (p x))/\Below W.heap.size W w')):
  Calls Tryz.prog 99 #[.slice A n c,.func (.func 100) #[] #[]] w fun e w'=>e= .returned (.bool (l.any p))/\Below w.heap.size w w':=by
 have H:=zq (oix_ck p l A n c w hs hbig HE);clear hs HE;rw[<-qbn];generalize idxL p l=R at*;go_enter Tryz.func99,Tryz.ntmps99;go_wp2_with fail;refine H.out.mono ?_;rintro e w1 ⟨rfl,hb1⟩;have HB1:=zq hb1;clear hb1 H;go_wp2;go_ret
 exact⟨rfl,HB1.out⟩
theorem qd0 (t:Tp3)(a:TpA)(id:Int)(w:World)(ht:TopR w t a)(hl:t.bals.length<=1048576):
  Calls Tryz.prog 176 #[.agg (tpC t a),.int .i64 id] w fun e w'=>e= .returned (.int .i64 (idxL (fun b:Bl3=>b.id==id) t.bals))/\Below w.heap.size w w':=by
 obtain⟨wa,hwa,hbwa,HWA,HBWA,h0,h1⟩:=bx2Z w 27 (tpC t a) 3 #[.int .i64 id];have c2:wa.cell? ⟨w.heap.size,2,none⟩=some (.slice a.ab t.bals.length a.cb):=(h0).cell 2;have n0:wa.cell? ⟨w.heap.size+1,0,none⟩=some (.int .i64 id):=h1.cell 0;have H:=zq (oix_fb (fun b:Bl3=>b.id==id) t.bals a.ab t.bals.length a.cb (w.heap.size+1) wa (ht.under hbwa).b hl (zq fun x W hW=>otfb_any x id (w.heap.size+1) W ((hW.cell (qah n0)).trans n0)));clear hwa hbwa h0 h1 ht;generalize idxL (fun b:Bl3=>b.id==id) t.bals=R at*;unfold tpC at*;go_enter Tryz.func176,Tryz.ntmps176;go_upto_region 1 with fail;rw[HWA.out];clear HWA;go_wp2_with fail;refine H.out.mono ?_;rintro e w1 ⟨rfl,hb1⟩;have HB1:=tB HBWA hb1;clear hb1 c2 n0 H HBWA;go_wp2;go_ret
 exact⟨rfl,HB1.out⟩
theorem qde (t:Tp3)(a:TpA)(id:Int)(w:World)(ht:TopR w t a)(hl:t.routes.length<=1048576):
  Calls Tryz.prog 93 #[.agg (tpC t a),.int .i64 id] w fun e w'=>e= .returned (.int .i64 (idxL (fun r:Rt3=>r.id==id) t.routes))/\Below w.heap.size w w':=by
 obtain⟨wa,hwa,hbwa,HWA,HBWA,h0,h1⟩:=bx2Z w 27 (tpC t a) 3 #[.int .i64 id];have c3:wa.cell? ⟨w.heap.size,3,none⟩=some (.slice a.ar t.routes.length a.cr):=(h0).cell 3;have n0:wa.cell? ⟨w.heap.size+1,0,none⟩=some (.int .i64 id):=h1.cell 0;have H:=zq (oix_fr (fun r:Rt3=>r.id==id) t.routes a.ar t.routes.length a.cr (w.heap.size+1) wa (ht.under hbwa).r hl (zq fun x PA pc W hW=>otfr_any x (.slice PA x.path.length pc) id (w.heap.size+1) W ((hW.cell (qah n0)).trans n0)));clear hwa hbwa h0 h1 ht;generalize idxL (fun r:Rt3=>r.id==id) t.routes=R at*;unfold tpC at*;go_enter Tryz.func93,Tryz.ntmps93;go_upto_region 1 with fail;rw[HWA.out];clear HWA;go_wp2_with fail;refine H.out.mono ?_;rintro e w1 ⟨rfl,hb1⟩;have HB1:=tB HBWA hb1;clear hb1 c3 n0 H HBWA;go_wp2;go_ret
 exact⟨rfl,HB1.out⟩
theorem qfA (t:Tp3)(a:TpA)(path:List St3)(A:Option Addr)(n c:Nat)(w:World)(hp:SlO stC 2 w A n c path)(hn:n<=1048576)(hl:t.edges.length<=100):
  Calls Tryz.prog 193 #[.agg (tpC t a),.slice A n c] w fun e w'=>e= .returned (.bool (path.all fun s=>edgeB t s.edge))/\Below w.heap.size w w':=by
 obtain⟨wa,hwa,hbwa,HWA,HBWA,h0⟩:=bx1Z w 27 (tpC t a);have H:=zq (oct_ee (fun s=>!edgeB t s.edge) path A n c w.heap.size wa (hp.under hbwa) hn (zq fun x W hW=>otee_any t a x w.heap.size W (h0.u hW) hl));have he:(path.all fun s=>edgeB t s.edge)=!(path.any fun s=>!edgeB t s.edge):=by rw[List.all_eq_not_any_not]
 rw[he];clear hwa hbwa h0 hp he;generalize (path.any fun s=>!edgeB t s.edge)=R at*;unfold tpC at*;go_enter Tryz.func193,Tryz.ntmps193;go_upto_region 1 with fail;rw[HWA.out];clear HWA;go_wp2_with fail;refine H.out.mono ?_;rintro e w1 ⟨rfl,hb1⟩;have HB1:=tB HBWA hb1;clear hb1 H HBWA;go_wp2;go_ret
 exact⟨rfl,HB1.out⟩
end
section
open Go.RowKit
open Go.Great
theorem qfm:(Tryz.prog.info? 30).map (fun i=>(i.zero,i.size,i.bytes))=some (some (.agg #[.int .i64 0,.bool false]),2,16):=by kernel_rfl
theorem qeX {α:Type}(p:α->Bool)(l:List α):(idxL p l= -1/\l.find? p=none)\/ ∃(j:Nat) (x:α),l[j]?=some x/\idxL p l=j/\l.find? p=some x:=by
 unfold idxL
 rcases qbO p l 0 with⟨h1,h2⟩|⟨j,x,h1,h2,h3,h4⟩
 ·exact .inl ⟨h1,qdD fun m y _ hy=>h2 m y hy⟩
 ·exact .inr ⟨j,x,h1,by rw[h4];congr 1;omega,qff h1 h2 h3⟩
theorem oclones_any (A:Option Addr)(n c:Nat)(vs:List Value)(w:World)(hs:Sl w 2 A n c vs)(h1: ∀u∈vs,u.oneCell'=true)(hn:n<=100000):
  Calls Tryz.prog 88 #[.slice A n c] w fun e w'=> ∃A' c',e= .returned (.slice A' n c')/\Hid (w'.ownsRow w.heap.size 30 2 (.slice A' n c') n vs)/\Hid (Below w.heap.size w w'):=by
 have H1:=zq h1;clear h1
 cases hA:A with
 |none=>
  subst hA;obtain⟨rfl,rfl⟩:=hs.2.1 rfl;have e0:vs=[]:=List.eq_nil_of_length_eq_zero (by simpa using hs.1);subst e0;have HO0:Hid (w.ownsRow w.heap.size 30 2 (.slice none 0 0) 0 []):=zq (World.ownsRow_nil w w.heap.size 30 2);have q1:=fun w:World=>Lib.run_eql_slice_nil (P:=Tryz.prog) w 35 30 none 0 0 0 0 Tryz.underlying35;simp only[Option.isNone]at q1;clear hs;go_enter Tryz.func88,Tryz.ntmps88;go_wp2;go_ret
  exact⟨none,0,rfl,HO0,zq (Below.refl _ _)⟩
 |some ad=>
  subst hA;have HSL:=zq (hs.beside (.cells #[] 30));have HO:=zq (World.ownsRow_lit (base:=w.heap.size) (e:=30) (size:=2) w #[] 0 (Nat.le_refl _) (by unfold maxLen;omega) rfl);have HB:Hid (0+n<=maxLen/\(0+n)*16<=140737488355328/\w.heap.size<=(w.alloc (.cells #[] 30)).heap.size):=zq ⟨by unfold maxLen;omega,by omega,by simp⟩;have HBL:Hid (Below w.heap.size w (w.alloc (.cells #[] 30))):=zq (bA);have q1:=fun w:World=>Lib.run_eql_slice_nil (P:=Tryz.prog) w 35 30 (some ad) n c 0 0 Tryz.underlying35;simp only[Option.isNone]at q1;clear hs;go_enter Tryz.func88,Tryz.ntmps88;go_wp2_with (with_reducible refine qaG (o:=⟨some 7,_,_,_,_,_⟩) rfl (.tmp 5) (.tmp 6) 35 rfl w.heap.size 30 (.agg #[.int .i64 0,.bool false]) 2 16 Tryz.underlying35 qfm ?hz (by decide) (some ⟨w.heap.size,0,none⟩) 0 0 [] ?hs HO (some ad) n c vs ?hx HSL H1 HB ?next)
  all_goals try rfl
  intro A4 c4 w4 ho4 hg4;have HO4:Hid (w4.ownsRow w.heap.size 30 2 (.slice A4 n c4) n vs):=zq (by simpa using ho4.out);clear ho4;go_wp2;go_ret
  exact⟨A4,c4,rfl,HO4,zq (qai HBL.out HB.out.2.2 HO.out (Nat.le_refl _) rfl hg4.out)⟩
theorem otp_bal (t:Tp3)(a:TpA)(id:Int)(w:World)(ht:TopR w t a)(hl:qaH t=true):
  Calls Tryz.prog 117 #[.agg (tpC t a),.int .i64 id] w fun e w'=>e= .returned (.tuple #[.agg (blA (balR t id)),.bool (balF t id).isSome])/\Below w.heap.size w w':=by
 have hn:t.bals.length<=1048576:=by have:=(qax hl).2.2.1;omega
 obtain⟨wa,hwa,hbwa,HWA,HBWA,h0,h1⟩:=bx2Z w 27 (tpC t a) 151 #[.int .i64 0,.int .i64 0,.int .i64 0];have c2:wa.cell? ⟨w.heap.size,2,none⟩=some (.slice a.ab t.bals.length a.cb):=(h0).cell 2;have H:=zq (qd0 t a id wa (ht.under hbwa) hn);have HT:=zq ht;have HP:=zq h0;have KP:=zH h0;have KZ:=zH h1;have KC:Hid (∀W,Below wa.heap.size wa W->W.cell? ⟨w.heap.size,2,none⟩=some (.slice a.ab t.bals.length a.cb)):=zq fun W hW=>(hW.cell (qah c2)).trans c2;have hfi:=qeX (fun b:Bl3=>b.id==id) t.bals;generalize hR:idxL (fun b:Bl3=>b.id==id) t.bals=R at*;clear hwa hbwa h0 h1 ht hR
 rcases hfi with⟨rfl,hf⟩|⟨j,x,hx,rfl,hf⟩
 ·have HF:=zq (show balF t id=none from hf)
  clear hf;go_enter Tryz.func117,Tryz.ntmps117;go_upto_region 1 with fail;rw[HWA.out];clear HWA c2;go_wp2_with (with_reducible refine ldZ 7 HP.out ?_);refine H.out.mono ?_;rintro e w1 ⟨rfl,hb1⟩;have HZ1:=zq (KZ.out w1 hb1);have HB1:=tB HBWA hb1;clear hb1 HBWA H HP KP KZ KC;have HR:=zq (qaa HZ1.out #[.int .i64 0,.int .i64 0,.int .i64 0]);have HBF:=zq (qab (g:=w.heap.size+1) HB1.out (by omega) #[.int .i64 0,.int .i64 0,.int .i64 0]);go_wp2_with (with_reducible refine stZ #[.int .i64 0,.int .i64 0,.int .i64 0] HZ1.out ?_);refine rtZ HR.out ?_;have e1_:balR t id=⟨0,0,0⟩:=by unfold balR;rw[HF.out];rfl
  have e2_:(balF t id).isSome=false:=by rw[HF.out];rfl
  rw[e1_,e2_];exact⟨rfl,HBF.out⟩
 ·have HF:=zq (show balF t id=some x from hf)
  have hjl:=(List.getElem?_eq_some_iff.1 hx).1;clear hf;go_enter Tryz.func117,Tryz.ntmps117;go_upto_region 1 with fail;rw[HWA.out];clear HWA c2;go_wp2_with (with_reducible refine ldZ 7 HP.out ?_);refine H.out.mono ?_;rintro e w1 ⟨rfl,hb1⟩;have HZ1:=zq (KZ.out w1 hb1);have HB1:=tB HBWA hb1;have c2:=KC.out w1 hb1;obtain⟨bk,off,hab,d0,d1,d2⟩:=(HT.out.under HB1.out).b.bal hx;rw[hab]at c2;have y0:(0:Int)<=j:=by omega
  have y1:(j:Int)<t.bals.length:=by omega
  have y2: ¬(j:Int)<0:=by omega
  clear hb1 HBWA H HP KP KZ KC hx hab;generalize t.bals.length=m at*;have HR:=zq (qaa HZ1.out #[.int .i64 x.id,.int .i64 x.edge,.int .i64 x.at_]);have HBF:=zq (qab (g:=w.heap.size+1) HB1.out (by omega) #[.int .i64 x.id,.int .i64 x.edge,.int .i64 x.at_]);go_wp2_with (with_reducible refine stZ #[.int .i64 x.id,.int .i64 x.edge,.int .i64 x.at_] HZ1.out ?_);refine rtZ HR.out ?_;have e1_:balR t id=x:=by unfold balR;rw[HF.out];rfl
  have e2_:(balF t id).isSome=true:=by rw[HF.out];rfl
  rw[e1_,e2_];exact⟨rfl,HBF.out⟩
theorem otlong_any (t:Tp3)(a:TpA)(w:World):
  Calls Tryz.prog 98 #[.agg (tpC t a)] w fun e w'=>e= .returned (.bool (longB t))/\Below w.heap.size w w':=by
 obtain⟨wa,hwa,hbwa,HWA,HBWA,h0⟩:=bx1Z w 27 (tpC t a);have c0:wa.cell? ⟨w.heap.size,0,none⟩=some (.slice a.ae t.edges.length a.ce):=(h0).cell 0;have c1:wa.cell? ⟨w.heap.size,1,none⟩=some (.slice a.aj t.joints.length a.cj):=(h0).cell 1;have c2:wa.cell? ⟨w.heap.size,2,none⟩=some (.slice a.ab t.bals.length a.cb):=(h0).cell 2;have c3:wa.cell? ⟨w.heap.size,3,none⟩=some (.slice a.ar t.routes.length a.cr):=(h0).cell 3;unfold longB;clear hwa hbwa h0;unfold tpC at*;obtain⟨m0,hm0⟩: ∃m,t.edges.length=m:=⟨_,rfl⟩
 obtain⟨m1,hm1⟩: ∃m,t.joints.length=m:=⟨_,rfl⟩
 obtain⟨m2,hm2⟩: ∃m,t.bals.length=m:=⟨_,rfl⟩
 obtain⟨m3,hm3⟩: ∃m,t.routes.length=m:=⟨_,rfl⟩
 rw[hm0,hm1,hm2,hm3]at HWA;rw[hm0]at c0;rw[hm1]at c1;rw[hm2]at c2;rw[hm3]at c3;rw[hm0,hm1,hm2,hm3];clear hm0 hm1 hm2 hm3;by_cases h0:40<m0
 ·rw[decide_eq_true h0,Bool.true_or]
  have g0:(m0:Int)>40:=by omega
  go_enter Tryz.func98,Tryz.ntmps98;go_upto_region 1 with fail;rw[HWA.out];clear HWA;go_wp2;go_ret
  exact⟨rfl,HBWA.out⟩
 ·rw[decide_eq_false h0,Bool.false_or]
  by_cases h1:80<m1
  ·rw[decide_eq_true h1,Bool.true_or]
   have g0: ¬(m0:Int)>40:=by omega
   have g1:(m1:Int)>80:=by omega
   go_enter Tryz.func98,Tryz.ntmps98;go_upto_region 1 with fail;rw[HWA.out];clear HWA;go_wp2;go_ret
   exact⟨rfl,HBWA.out⟩
  ·rw[decide_eq_false h1,Bool.false_or]
   by_cases h2:80<m2
   ·rw[decide_eq_true h2,Bool.true_or]
    have g0: ¬(m0:Int)>40:=by omega
    have g1: ¬(m1:Int)>80:=by omega
    have g2:(m2:Int)>80:=by omega
    go_enter Tryz.func98,Tryz.ntmps98;go_upto_region 1 with fail;rw[HWA.out];clear HWA;go_wp2;go_ret
    exact⟨rfl,HBWA.out⟩
   ·rw[decide_eq_false h2,Bool.false_or]
    by_cases h3:30<m3
    ·rw[decide_eq_true h3]
     have g0: ¬(m0:Int)>40:=by omega
     have g1: ¬(m1:Int)>80:=by omega
     have g2: ¬(m2:Int)>80:=by omega
     have g3:(m3:Int)>30:=by omega
     go_enter Tryz.func98,Tryz.ntmps98;go_upto_region 1 with fail;rw[HWA.out];clear HWA;go_wp2;go_ret
     exact⟨rfl,HBWA.out⟩
    ·rw[decide_eq_false h3]
     have g0: ¬(m0:Int)>40:=by omega
     have g1: ¬(m1:Int)>80:=by omega
     have g2: ¬(m2:Int)>80:=by omega
     have g3: ¬(m3:Int)>30:=by omega
     go_enter Tryz.func98,Tryz.ntmps98;go_upto_region 1 with fail;rw[HWA.out];clear HWA;go_wp2;go_ret
     exact⟨rfl,HBWA.out⟩
end
section
open Go.RowKit
open Go.Great
theorem stc_one13 (l:List St3): ∀u∈l.flatMap stC,u.oneCell'=true:=by
 intro u hu;obtain⟨s,_,h⟩:=List.mem_flatMap.1 hu;unfold stC at h
 rcases List.mem_cons.1 h with rfl|h
 ·rfl
 ·rcases List.mem_cons.1 h with rfl|h
  ·rfl
  ·cases h
def repB (path:List St3)(i:Nat):Bool:=match path[i]? with|none=>false|some s=>(path.take i).any fun x=>x.edge==s.edge
theorem qd4 {path:List St3}:(∃i,i<path.length/\repB path i=true)↔qbs path=true:=by
 unfold qbs;rw[decide_eq_true_eq,List.nodup_iff_pairwise_ne,List.pairwise_iff_getElem]
 constructor
 ·rintro⟨i,hi,h⟩ hn
  unfold repB at h;rw[List.getElem?_eq_getElem hi]at h;simp only[List.any_eq_true,beq_iff_eq]at h;obtain⟨x,hx,e⟩:=h;obtain⟨m,hm,rfl⟩:=List.getElem_of_mem hx;rw[List.length_take]at hm;refine hn m i (by rw[List.length_map];omega) (by rw[List.length_map];exact hi) (by omega) ?_;rw[List.getElem_map,List.getElem_map];rw[List.getElem_take]at e;exact e
 ·intro hn
  refine Classical.byContradiction fun hc=>hn fun a b ha hb hab e=>hc ?_;rw[List.length_map]at ha hb;refine⟨b,hb,?_⟩;unfold repB;rw[List.getElem?_eq_getElem hb];simp only[List.any_eq_true,beq_iff_eq];refine⟨path[a],List.mem_of_getElem? (i:=a) (by rw[List.getElem?_take_of_lt hab];exact List.getElem?_eq_getElem ha),?_⟩
  simpa using e
theorem otrep_any (path:List St3)(A:Option Addr)(n c:Nat)(w:World)(hp:SlO stC 2 w A n c path)(hn:n<=1048576)(hc:n<=c):
  Calls Tryz.prog 177 #[.slice A n c] w fun e w'=>e= .returned (.bool (qbs path))/\Below w.heap.size w w':=by
 have HS:=zq hp;have HN:Hid (path.length=n):=zq hp.1;clear hp;obtain⟨Q,hQ⟩:=geZ (qbs path);have HQ:=zq hQ;rw[hQ];clear hQ;go_enter Tryz.func177,Tryz.ntmps177;go_wp2;go_loopg [7] n (fun kk v wl=> ∃i:Nat,i<=n/\n-i<=kk/\v= .int .i64 i/\Hid (∀m,m<i->repB path m=false)/\Hid (Below w.heap.size w wl))
 case atStart=>exact⟨0,by omega,by omega,rfl,zq fun m h=>absurd h (by omega),zq (Below.refl _ _)⟩
 obtain⟨i,hi,hik,rfl,HNO,HBL⟩:=hrel;by_cases hlt:i<n;rotate_left
 ·have y1: ¬(i:Int)<n:=by omega
  have HF:Hid (Q=false):=zq (by
   rw[<-HQ.out]
   cases hq:qbs path with
   |false=>rfl
   |true=>
    obtain⟨m,hm,h⟩:=qd4.2 hq;rw[HNO.out m (by have:=HN.out;omega)]at h
    cases h)
  go_wp2;go_ret
  exact⟨by rw[HF.out];rfl,HBL.out⟩
 obtain⟨x,hx⟩:=glZ path (i) (by rw[HN.out];omega);obtain⟨bk,off,rfl,d0,d1⟩:=(HS.out.under HBL.out).step hx;have y0:(0:Int)<=i:=by omega
 have y1:(i:Int)<n:=by omega
 have y2:(i:Int)<=c:=by omega
 obtain⟨q,hq⟩:=geZ (repB path i);have hqe:((path.take i).any fun y=>y.edge==x.edge)=q:=by rw[<-hq];unfold repB;rw[hx]
 have HQI:=zq hq;go_upto_region 4 with fail;obtain⟨wb,hwb⟩:=geZ (wr.alloc (.cells #[.int .i64 x.edge,.bool x.rev] 30));rw[hwb];have hbb:Below wr.heap.size wr wb:=by rw[<-hwb];exact bA
 have hH:Has wb wr.heap.size 30 #[.int .i64 x.edge,.bool x.rev]:=by rw[<-hwb];exact Has.made _ _ _
 have HBB:=tB HBL hbb;have hc0:wb.cell? ⟨wr.heap.size,0,none⟩=some (.int .i64 x.edge):=hH.cell 0;have HC:=zq (oct_re (fun y=>y.edge==x.edge) (path.take i) (some ⟨bk,off,none⟩) i c wr.heap.size wb ((HS.out.under HBB.out).take (fun _=>rfl) (by simp) hi) (by omega) (zq fun y W hW=>otre_any y x.edge wr.heap.size W ((hW.cell (qah hc0)).trans hc0)));rw[hqe]at HC;clear hwb hbb hH hc0 d0 d1 hqe hx hq
 cases q with
 |true=>
  have HF:Hid (Q=true):=zq (by rw[<-HQ.out];exact qd4.1 ⟨i,by have:=HN.out;omega,HQI.out⟩);go_wp2_with fail;refine HC.out.mono ?_;rintro e w1 ⟨rfl,hb1⟩;have HB1:=tB HBB hb1;clear hb1 HNO;go_wp2;go_ret
  exact⟨by rw[HF.out];rfl,HB1.out⟩
 |false=>
  go_wp2_with fail;refine HC.out.mono ?_;rintro e w1 ⟨rfl,hb1⟩;have HB1:=tB HBB hb1;have HN2:Hid (∀m,m<i+1->repB path m=false):=zq fun m hm=>by
   by_cases h:m=i
   ·rw[h];exact HQI.out
   ·exact HNO.out m (by omega)
  clear hb1 HNO;go_wp2;go_roundg (gk-1)
  case measure=>omega
  case rel=>exact⟨i+1,by omega,by omega,by go_num,HN2,HB1⟩
theorem othave_any (t:Tp3)(a:TpA)(path:List St3)(A:Option Addr)(n c:Nat)(w:World)(ht:TopR w t a)(hb:t.bals.length<=100)(hp:SlO stC 2 w A n c path)(hn:n<=1048576):
  Calls Tryz.prog 178 #[.agg (tpC t a),.slice A n c] w fun e w'=>e= .returned (.bool (path.all (qcr t)))/\Below w.heap.size w w':=by
 obtain⟨wa,hwa,hbwa,HWA,HBWA,h0⟩:=bx1Z w 27 (tpC t a);have HS:=zq (hp.under hbwa);have HT:=zq (ht.under hbwa);have HN:Hid (path.length=n):=zq hp.1;have HP:=zq h0;have KC:Hid (∀W,Below wa.heap.size wa W->W.cell? ⟨w.heap.size,2,none⟩=some (.slice a.ab t.bals.length a.cb)):=zq fun W hW=>by
  have c2:wa.cell? ⟨w.heap.size,2,none⟩=some (.slice a.ab t.bals.length a.cb):=h0.cell 2;exact(hW.cell (qah c2)).trans c2
 clear hwa hbwa h0 ht hp;obtain⟨Q,hQ⟩:=geZ (path.all (qcr t));have HQ:=zq hQ;rw[hQ];clear hQ;unfold tpC at HWA;unfold tpC;go_enter Tryz.func178,Tryz.ntmps178;go_upto_region 1 with fail;rw[HWA.out];clear HWA;go_wp2;go_loopg [9] n (fun kk v wl=> ∃i:Nat,i<=n/\n-i<=kk/\v= .int .i64 i/\Hid (∀m s,m<i->path[m]?=some s->qcr t s=true)/\Hid (Below wa.heap.size wa wl))
 case atStart=>exact⟨0,by omega,by omega,rfl,zq fun m s h=>absurd h (by omega),zq (Below.refl _ _)⟩
 obtain⟨i,hi,hik,rfl,HNO,HBL⟩:=hrel;by_cases hlt:i<n;rotate_left
 ·have y1: ¬(i:Int)<n:=by omega
  have HF:Hid (Q=true):=zq (by
   rw[<-HQ.out,List.all_eq_true];intro s hs;obtain⟨m,hm,rfl⟩:=List.getElem_of_mem hs;exact HNO.out m _ (by have:=HN.out;omega) (List.getElem?_eq_getElem hm))
  have HBF:=zq (HBWA.out.trans (HBL.out.mono HBWA.out.size));go_wp2;go_ret
  exact⟨by rw[HF.out];rfl,HBF.out⟩
 obtain⟨x,hx⟩:=glZ path (i) (by rw[HN.out];omega);obtain⟨bk,off,rfl,d0,d1⟩:=(HS.out.under HBL.out).step hx;have HX:=zq hx;have y0:(0:Int)<=i:=by omega
 have y1:(i:Int)<n:=by omega
 obtain⟨q,hq⟩:=geZ (qcr t x);have hqe:(t.bals.any fun b=>b.edge==x.edge)=q:=hq;have HQI:=zq hq;go_upto_region 4 with fail;obtain⟨wb,hwb⟩:=geZ (wr.alloc (.cells #[.int .i64 x.edge,.bool x.rev] 30));rw[hwb];have hbb:Below wr.heap.size wr wb:=by rw[<-hwb];exact bA
 have hH:Has wb wr.heap.size 30 #[.int .i64 x.edge,.bool x.rev]:=by rw[<-hwb];exact Has.made _ _ _
 have HBB:=tB HBL hbb;have hc0:wb.cell? ⟨wr.heap.size,0,none⟩=some (.int .i64 x.edge):=hH.cell 0;have c2:=KC.out wb HBB.out;have HC:=zq (oct_hb (fun b=>b.edge==x.edge) t.bals a.ab t.bals.length a.cb wr.heap.size wb (HT.out.under HBB.out).b (by omega) (zq fun y W hW=>othb_any y x.edge wr.heap.size W ((hW.cell (qah hc0)).trans hc0)));rw[hqe]at HC;clear hwb hbb hH hc0 d0 d1 hqe hx hq;generalize t.bals.length=mb at*
 cases q with
 |true=>
  go_wp2_with fail;refine HC.out.mono ?_;rintro e w1 ⟨rfl,hb1⟩;have HB1:=tB HBB hb1;have HN2:Hid (∀m s,m<i+1->path[m]?=some s->qcr t s=true):=zq fun m s hm hs=>by
   by_cases h:m=i
   ·subst h;rw[HX.out]at hs;cases hs;exact HQI.out
   ·exact HNO.out m s (by omega) hs
  clear hb1 HNO c2;go_wp2;go_roundg (gk-1)
  case measure=>omega
  case rel=>exact⟨i+1,by omega,by omega,by go_num,HN2,HB1⟩
 |false=>
  have HF:Hid (Q=false):=zq (by rw[<-HQ.out,List.all_eq_false];exact⟨x,List.mem_of_getElem? HX.out,by rw[HQI.out];decide⟩);go_wp2_with fail;refine HC.out.mono ?_;rintro e w1 ⟨rfl,hb1⟩;have HB1:=zq (HBWA.out.trans ((bu HBB.out hb1).mono HBWA.out.size));clear hb1 HNO c2;go_wp2;go_ret
  exact⟨by rw[HF.out];rfl,HB1.out⟩
end
section
open Go.RowKit
open Go.Great
theorem qfJ (w:World)(xs:Array Value)(i:Nat):(part 147 xs i).run Tryz.prog w= .ok (.agg (xs.extract i (i+2))) w:=by
 simp[part,Tryz.isAgg147,Tryz.sizeOf147]
theorem eq_endd13 (d:Nat)(a b:Int×Int)(W:World):(Op.equalIn (d+2) 147 (.agg (endA a)) (.agg (endA b))).run Tryz.prog W= .ok (eqE a b) W:=by
 rw[show d+2=(d+1)+1 from rfl,run_equalIn_struct W (d+1) 147 _ _ (by kernel_rfl) (by kernel_rfl)];simp only[Program.fieldsOf,Tryz.underlying147];unfold eqE endA;by_cases h0:a.1=b.1;rotate_left
 ·refine(qa5 W (d+1) (endA a) (endA b) _ _ (.int .i64 a.1) (.int .i64 b.1) (by decide) (qag W 3 (endA a) 0 (.int .i64 a.1) (by kernel_rfl) rfl) (qag W 3 (endA b) 0 (.int .i64 b.1) (by kernel_rfl) rfl) (by rw[run_equalIn_int W d 3 .i64 .i64 _ _ Tryz.underlying3];simp[h0])).trans ?_
  have e:(a.1==b.1)=false:=by simp[h0]
  simp[e]
 refine(qaL W (d+1) (endA a) (endA b) _ _ (.int .i64 a.1) (.int .i64 b.1) (by decide) (qag W 3 (endA a) 0 (.int .i64 a.1) (by kernel_rfl) rfl) (qag W 3 (endA b) 0 (.int .i64 b.1) (by kernel_rfl) rfl) (by rw[run_equalIn_int W d 3 .i64 .i64 _ _ Tryz.underlying3];simp[h0])).trans ?_;by_cases h1:a.2=b.2;rotate_left
 ·refine(qa5 W (d+1) (endA a) (endA b) _ _ (.int .i64 a.2) (.int .i64 b.2) (by decide) (qag W 3 (endA a) 1 (.int .i64 a.2) (by kernel_rfl) rfl) (qag W 3 (endA b) 1 (.int .i64 b.2) (by kernel_rfl) rfl) (by rw[run_equalIn_int W d 3 .i64 .i64 _ _ Tryz.underlying3];simp[h1])).trans ?_
  have e:(a.2==b.2)=false:=by simp[h1]
  simp[e]
 refine(qaL W (d+1) (endA a) (endA b) _ _ (.int .i64 a.2) (.int .i64 b.2) (by decide) (qag W 3 (endA a) 1 (.int .i64 a.2) (by kernel_rfl) rfl) (qag W 3 (endA b) 1 (.int .i64 b.2) (by kernel_rfl) rfl) (by rw[run_equalIn_int W d 3 .i64 .i64 _ _ Tryz.underlying3];simp[h1])).trans ?_;refine(qbN W (d+1) _ _).trans ?_;simp[h0,h1]
def eqJ (a b:Jt3):Bool:=eqE a.a b.a &&eqE a.b b.b
theorem eq_jt13 (a b:Jt3)(W:World):(Op.equalIn 10000 149 (.agg (jtA a)) (.agg (jtA b))).run Tryz.prog W= .ok (eqJ a b) W:=by
 rw[show(10000:Nat)=9999+1 from rfl,run_equalIn_struct W 9999 149 _ _ (by kernel_rfl) (by kernel_rfl)];simp only[Program.fieldsOf,Tryz.underlying149];unfold eqJ;have p0: ∀x:Jt3,(part 147 (jtA x) 0).run Tryz.prog W= .ok (.agg (endA x.a)) W:=fun x=>qfJ W _ 0;have p1: ∀x:Jt3,(part 147 (jtA x) 2).run Tryz.prog W= .ok (.agg (endA x.b)) W:=fun x=>qfJ W _ 2;have q0:=eq_endd13 9997 a.a b.a W;have q1:=eq_endd13 9997 a.b b.b W
 cases h0:eqE a.a b.a with
 |false=>
  rw[h0]at q0;refine(qa5 W 9999 (jtA a) (jtA b) _ _ _ _ (by decide) (p0 a) (p0 b) q0).trans ?_
  rfl
 |true=>
  rw[h0]at q0;refine(qaL W 9999 (jtA a) (jtA b) _ _ _ _ (by decide) (p0 a) (p0 b) q0).trans ?_
  cases h1:eqE a.b b.b with
  |false=>
   rw[h1]at q1;refine(qa5 W 9999 (jtA a) (jtA b) _ _ _ _ (by decide) (p1 a) (p1 b) q1).trans ?_
   rfl
  |true=>
   rw[h1]at q1;refine(qaL W 9999 (jtA a) (jtA b) _ _ _ _ (by decide) (p1 a) (p1 b) q1).trans ?_;exact qbN W 9999 _ _
theorem join_eqJ (l:List Jt3)(j:Jt3):(l.any (eqJ j)||l.any (eqJ ⟨j.b,j.a⟩))=joinB l j.a j.b:=by
 unfold joinB;rw[Bool.eq_iff_iff];simp only[Bool.or_eq_true,List.any_eq_true,eqJ,joinJ,Bool.and_eq_true]
 constructor
 ·rintro(⟨y,hy,h1,h2⟩|⟨y,hy,h1,h2⟩)
  ·exact⟨y,hy,.inl ⟨by rw[qco];exact h1,by rw[qco];exact h2⟩⟩
  ·exact⟨y,hy,.inr ⟨by rw[qco];exact h1,by rw[qco];exact h2⟩⟩
 ·rintro⟨y,hy,(⟨h1,h2⟩|⟨h1,h2⟩)⟩
  ·exact .inl ⟨y,hy,by rw[qco];exact h1,by rw[qco];exact h2⟩
  ·exact .inr ⟨y,hy,by rw[qco];exact h1,by rw[qco];exact h2⟩
theorem oixj_any (l:List Jt3)(v:Jt3)(A:Option Addr)(n c:Nat)(w:World)(hs:SlO jtC 4 w A n c l)(hbig:n<=1048576):
  Calls Tryz.prog 206 #[.slice A n c,.agg (jtA v)] w fun e w'=>e= .returned (.int .i64 (idxL (eqJ v) l))/\Below w.heap.size w w':=by
 obtain⟨wa,hwa,hbwa,HWA,HBWA,h0⟩:=bx1Z w 149 (jtA v);have HN:Hid (l.length=n):=zq hs.1;have HW:=zq (hs.under hbwa);have c0:wa.cell? ⟨w.heap.size,0,none⟩=some (.int .i64 v.a.1):=h0.cell 0;have c1:wa.cell? ⟨w.heap.size,1,none⟩=some (.int .i64 v.a.2):=h0.cell 1;have c2:wa.cell? ⟨w.heap.size,2,none⟩=some (.int .i64 v.b.1):=h0.cell 2;have c3:wa.cell? ⟨w.heap.size,3,none⟩=some (.int .i64 v.b.2):=h0.cell 3;have HQ:=zq (fun x=>eq_jt13 v x);clear hs hwa hbwa h0;have x0:(0:Int)<=n:=by omega
 obtain⟨R,hR⟩:=geZ (idxL (eqJ v) l);have HR:=zq hR;rw[hR];clear hR;unfold jtA at*;go_enter Tryz.func206,Tryz.ntmps206;go_upto_region 1 with fail;rw[HWA.out];clear HWA;go_wp2;go_loopg [8] n (fun kk s8 wl=> ∃j q:Nat,j<=n/\n-j<=kk/\s8= .int .i64 j/\Hid (∀i x,i<j->l[i]?=some x->eqJ v x=false)/\wl=wa.drewN q)
 case atStart=>exact⟨0,0,by omega,by omega,rfl,zq fun i x h=>absurd h (by omega),rfl⟩
 obtain⟨j,q,hj,hjk,rfl,HNO,rfl⟩:=hrel;by_cases hlt:j<n
 ·obtain⟨x,hx⟩:=glZ l (j) (by rw[HN.out];omega)
  obtain⟨bk,off,rfl,d0,d1,d2,d3⟩:=HW.out.joint hx;have HX:=zq hx;have y0:(0:Int)<=j:=by omega
  have y1:(j:Int)<n:=by omega
  have q1:=HQ.out x;clear hx;generalize hb:eqJ v x=b at*;have HBE:=zq hb;clear hb;go_upto_region 4 with fail
  cases b with
  |true=>
   have HF:Hid (R=j):=zq (by rw[<-HR.out];exact qbE HX.out HBE.out HNO.out);go_quiet (fail);go_wp2;go_ret
   exact⟨by rw[HF.out];rfl,by first|exact qac HBWA.out _|(rw[World.drewN_drewN];exact qac HBWA.out _)⟩
  |false=>
   have HN2:Hid (∀i y,i<j+1->l[i]?=some y->eqJ v y=false):=zq fun i y hi hy=>by
    by_cases h:i=j
    ·subst h;rw[HX.out]at hy;cases hy;exact HBE.out
    ·exact HNO.out i y (by omega) hy
   go_quiet (fail);go_wp2;go_roundg (gk-1)
   case measure=>omega
   case rel=>exact⟨j+1,_,by omega,by omega,by go_num,HN2,by first|rfl|rw[World.drewN_drewN]⟩
 ·have y1: ¬(j:Int)<n:=by omega
  have HF:Hid (R= -1):=zq (by rw[<-HR.out];exact qbc fun i y hi hy=>HNO.out i y (by have:=HN.out;omega) hy);go_wp2;go_ret
  exact⟨by rw[HF.out];rfl,qac HBWA.out _⟩
theorem octj_any (l:List Jt3)(v:Jt3)(A:Option Addr)(n c:Nat)(w:World)(hs:SlO jtC 4 w A n c l)(hbig:n<=1048576):
  Calls Tryz.prog 174 #[.slice A n c,.agg (jtA v)] w fun e w'=>e= .returned (.bool (l.any (eqJ v)))/\Below w.heap.size w w':=by
 obtain⟨wa,hwa,hbwa,HWA,HBWA,h0⟩:=bx1Z w 149 (jtA v);have H:=zq (oixj_any l v A n c wa (hs.under hbwa) hbig);have HV:=zq h0;clear hs hwa hbwa h0;rw[<-qbn];generalize idxL (eqJ v) l=R at*;go_enter Tryz.func174,Tryz.ntmps174;go_upto_region 1 with fail;rw[HWA.out];clear HWA;go_wp2_with (with_reducible refine ldZ 6 HV.out ?_);refine H.out.mono ?_;rintro e w1 ⟨rfl,hb1⟩;have HB1:=tB HBWA hb1;clear hb1 H HV HBWA;go_wp2;go_ret
 exact⟨rfl,HB1.out⟩
end
section
open Go.RowKit
open Go.Great
theorem otcj_any (t:Tp3)(a:TpA)(i:Nat)(j:Jt3)(w:World)(ht:TopR w t a)(hl:t.edges.length<=100)(hjl:t.joints.length<=100)(hcj:t.joints.length<=a.cj)(hj:t.joints[i]?=some j):
  Calls Tryz.prog 102 #[.agg (tpC t a),.int .i64 i] w fun e w'=>e= .returned (.int .i64 (qbl t i))/\Below w.heap.size w w':=by
 obtain⟨wa,hwa,hbwa,HWA,HBWA,h0⟩:=bx1Z w 27 (tpC t a);have hil:=(List.getElem?_eq_some_iff.1 hj).1;rw[jointE_at hj];obtain⟨nj,hnj⟩: ∃n,t.joints.length=n:=⟨_,rfl⟩
 obtain⟨AJ,hAJ⟩: ∃A,a.aj=A:=⟨_,rfl⟩
 have hjs:SlO jtC 4 w AJ nj a.cj t.joints:=by rw[<-hAJ,<-hnj];exact ht.j
 obtain⟨bk,off,rfl,-,-,-,-⟩:=hjs.joint hj;have HJS:=zq hjs;have HCX:=zq (fun W (hW:Below w.heap.size w W)=>(show W.cell? ⟨bk,off+i*4,none⟩=some (.int .i64 j.a.1)/\W.cell? ⟨bk,off+i*4+1,none⟩=some (.int .i64 j.a.2)/\W.cell? ⟨bk,off+i*4+2,none⟩=some (.int .i64 j.b.1)/\W.cell? ⟨bk,off+i*4+3,none⟩=some (.int .i64 j.b.2)from by obtain⟨b_,o_,e_,h_⟩:=(hjs.under hW).joint hj;injection e_ with e_;injection e_ with e1_ e2_ _;subst e1_ e2_;exact h_));have c1:wa.cell? ⟨w.heap.size,1,none⟩=some (.slice (some ⟨bk,off,none⟩) nj a.cj):=by rw[<-hnj,<-hAJ];exact h0.cell 1
 have HC1:=zq (fun W (hW:Below wa.heap.size wa W)=>(hW.cell (qah c1)).trans c1);have HBA:=zq (fun W (hW:Below wa.heap.size wa W)=>hbwa.trans (hW.mono hbwa.size));have HH0:=zq h0;have HL:=zq hl;have HJL:Hid (nj<=100):=zq (by rw[<-hnj];exact hjl);have y0:(0:Int)<=i:=by omega
 have y1:(i:Int)<nj:=by omega
 have y2:(i:Int)<=a.cj:=by omega
 have HIL:Hid (i<nj):=zq (by omega);have HCN:=zq (fun W=>qgs t a j W hl);have q1:=qdp j.a j.b;have HJE:=join_eqJ (t.joints.take i) j;obtain⟨k1,hk1⟩: ∃b,(t.joints.take i).any (eqJ j)=b:=⟨_,rfl⟩
 obtain⟨k2,hk2⟩: ∃b,(t.joints.take i).any (eqJ ⟨j.b,j.a⟩)=b:=⟨_,rfl⟩
 rw[hk1,hk2]at HJE;have HOC1:=zq (fun W (hW:Below w.heap.size w W)=>(octj_any (t.joints.take i) j (some ⟨bk,off,none⟩) i a.cj W ((hjs.under hW).take (fun _=>rfl) (by simp) (by omega)) (by omega)));have HOC2:=zq (fun W (hW:Below w.heap.size w W)=>(octj_any (t.joints.take i) ⟨j.b,j.a⟩ (some ⟨bk,off,none⟩) i a.cj W ((hjs.under hW).take (fun _=>rfl) (by simp) (by omega)) (by omega)));rw[hk1]at HOC1;rw[hk2]at HOC2;have hce:(endB t j.a &&endB t j.b)=connB t j:=rfl;rw[hce,<-HJE];obtain⟨cn,hcn⟩: ∃b,connB t j=b:=⟨_,rfl⟩
 obtain⟨eq,heq⟩: ∃b,eqE j.a j.b=b:=⟨_,rfl⟩
 rw[hcn,heq];rw[hcn]at HCN;rw[heq]at q1;clear hwa hbwa h0 ht hl hjl hcj hj hjs hil hnj hAJ hk1 hk2 hce hcn heq HJE c1;obtain⟨⟨j1,j2⟩,⟨j3,j4⟩⟩:=j;unfold jtA at HCN HOC1 HOC2;unfold endA at q1;dsimp only at*;go_enter Tryz.func102,Tryz.ntmps102;go_upto_region 1 with fail;rw[HWA.out];clear HWA;refine wp_region_held_drew (S:=(fun W_=>Has W_ (w.heap.size) 27 (tpC t a)/\Below wa.heap.size wa W_)) (by kernel_rfl) ?_ (fun hHeld=>?_)
 ·exact⟨HH0.out.draw,qaf (Below.refl _ _)⟩
 refine tkZ 0 8 (h:=?_);simp only[lyZ];refine tqZ 1 9 (fun w_ hSw=>HC1.out w_ hSw.2) (h:=?_);simp only[lyZ];refine tkZ 2 10 (h:=?_);simp only[lyZ];refine tkZ 3 11 (h:=?_);simp only[lyZ];refine tqZ 4 12 (fun w_ hSw=>HCX.out w_ (HBA.out w_ hSw.2)) (h:=?_);simp only[lyZ];refine tkZ 5 13 (h:=?_);simp only[lyZ];refine tqZ 6 14 (fun w_ hSw=>HC1.out w_ hSw.2) (h:=?_);simp only[lyZ];refine tkZ 7 15 (h:=?_);simp only[lyZ];refine tkZ 8 16 (h:=?_);simp only[lyZ];refine rdZ [9] ?_;refine acZ (some 5) (fun K hK=>?_) ?_
 ·go_simp
  obtain⟨s0,s1⟩:=hHeld;obtain⟨gx,hgx⟩:=geZ (wa.heap.size);have hgl:w.heap.size<gx:=by rw[<-hgx];exact s0.lt
  have hgl2:wa.heap.size<=gx:=by rw[<-hgx];exact s1.size
  rw[hgx];refine hK.out _ _ ?_ (fun hHeld=>?_)
  ·exact⟨s0.beside _,qan s1 _⟩
  refine qaw (T:=(fun W_=>Has W_ (w.heap.size) 27 (tpC t a)/\Below wa.heap.size wa W_/\(∃o_:Array Value,Has W_ (gx) 149 o_/\o_.size=4))) (fun _ ⟨s0,s1,s2⟩=>⟨s0,s1⟩) ?_;have hHeld2:(fun W_=>Has W_ (w.heap.size) 27 (tpC t a)/\Below wa.heap.size wa W_/\(∃o_:Array Value,Has W_ (gx) 149 o_/\o_.size=4)) _:=⟨s0.beside (.cells #[.int .i64 0,.int .i64 0,.int .i64 0,.int .i64 0] 149),qan s1 (.cells #[.int .i64 0,.int .i64 0,.int .i64 0,.int .i64 0] 149),⟨#[.int .i64 0,.int .i64 0,.int .i64 0,.int .i64 0],(by rw[<-hgx];exact Has.made _ _ _),by kernel_rfl⟩⟩
  clear hHeld;have hHeld:=hHeld2;clear hHeld2 hK K hgx s0 s1
  try simp only[lyZ]
  refine rdZ [10] ?_;refine acZ none (fun K hK=>?_) ?_
  ·rw[if_pos (by rfl)]
   obtain⟨s0,s1,s2⟩:=hHeld;obtain⟨o_,h_,e_⟩:=s2;refine wp_store_row 149 _ _ rfl (gx) #[.int .i64 j1,.int .i64 j2,.int .i64 j3,.int .i64 j4] (by rfl) (by rfl) 149 o_ h_.raw11 (by kernel_rfl) e_ (by kernel_rfl) ?_;refine hK.out _ _ ?_ (fun hHeld=>?_)
   ·exact⟨qad s0 (by omega) _,qab s1 (by omega) _,⟨_,qaa h_ #[.int .i64 j1,.int .i64 j2,.int .i64 j3,.int .i64 j4],by kernel_rfl⟩⟩
   refine qaw (T:=(fun W_=>Has W_ (w.heap.size) 27 (tpC t a)/\Below wa.heap.size wa W_/\Has W_ (gx) 149 #[.int .i64 j1,.int .i64 j2,.int .i64 j3,.int .i64 j4])) (fun _ ⟨s0,s1,s2⟩=>⟨s0,s1,⟨_,s2,by kernel_rfl⟩⟩) ?_;have hHeld2:(fun W_=>Has W_ (w.heap.size) 27 (tpC t a)/\Below wa.heap.size wa W_/\Has W_ (gx) 149 #[.int .i64 j1,.int .i64 j2,.int .i64 j3,.int .i64 j4]) _:=⟨qad s0 (by omega) _,qab s1 (by omega) _,qaa h_ #[.int .i64 j1,.int .i64 j2,.int .i64 j3,.int .i64 j4]⟩
   clear hHeld;have hHeld:=hHeld2;clear hHeld2 hK K h_ e_ s0 s1
   try simp only[Act.put]
   refine tkZ 11 6 (h:=?_);simp only[lyZ];refine dnZ ?_;obtain⟨w2,hw2⟩:=geZ (((wa.alloc (.cells #[.int .i64 0,.int .i64 0,.int .i64 0,.int .i64 0] 149)).drew).setRow gx #[.int .i64 j1,.int .i64 j2,.int .i64 j3,.int .i64 j4]);have hS2:Has w2 (w.heap.size) 27 (tpC t a)/\Below wa.heap.size wa w2/\Has w2 (gx) 149 #[.int .i64 j1,.int .i64 j2,.int .i64 j3,.int .i64 j4]:=by rw[<-hw2];exact hHeld
   rw[hw2];clear hw2;have HS2:=zq hS2;clear hHeld hS2;have e0:w2.cell? ⟨gx,0,none⟩=some (.int .i64 j1):=HS2.out.2.2.cell 0;have e1:w2.cell? ⟨gx,1,none⟩=some (.int .i64 j2):=HS2.out.2.2.cell 1;have e2:w2.cell? ⟨gx,2,none⟩=some (.int .i64 j3):=HS2.out.2.2.cell 2;have e3:w2.cell? ⟨gx,3,none⟩=some (.int .i64 j4):=HS2.out.2.2.cell 3;clear y0 y1 y2;go_upto_region 3 with fail;obtain⟨w3,hw3⟩:=geZ (w2.alloc (.cells #[.int .i64 j3,.int .i64 j4,.int .i64 j1,.int .i64 j2] 149));rw[hw3];have hb3:Below w2.heap.size w2 w3:=by rw[<-hw3];exact bA
   have hY3:Has w3 w2.heap.size 149 #[.int .i64 j3,.int .i64 j4,.int .i64 j1,.int .i64 j2]:=by rw[<-hw3];exact Has.made _ _ _
   have HY3:=zq hY3;have HX3:=zq (HS2.out.2.2.under hb3 HS2.out.2.2.lt);have H03:=zq (HS2.out.1.under hb3 HS2.out.1.lt);have HB3:=zq (HS2.out.2.1.trans (hb3.mono HS2.out.2.1.size));obtain⟨gy,hgy⟩: ∃g,w2.heap.size=g:=⟨_,rfl⟩
   rw[hgy]at HY3;simp only[hgy];clear hw3 hb3 hY3 hgy e0 e1 e2 e3 HS2;go_wp2_with (first|(with_reducible refine ldZ 23 H03.out ?_)|(with_reducible refine ldZ 24 HX3.out ?_));refine(HCN.out _).mono ?_;rintro e w4 ⟨rfl,hb4⟩;have HX4:=uH HX3 hb4;have HY4:=uH HY3 hb4;have HB4:=tB HB3 hb4;have e0:w4.cell? ⟨gx,0,none⟩=some (.int .i64 j1):=HX4.out.cell 0;have e1:w4.cell? ⟨gx,1,none⟩=some (.int .i64 j2):=HX4.out.cell 1;have e2:w4.cell? ⟨gx,2,none⟩=some (.int .i64 j3):=HX4.out.cell 2;have e3:w4.cell? ⟨gx,3,none⟩=some (.int .i64 j4):=HX4.out.cell 3;clear hb4 HX3 HY3 HB3 H03 HCN
   cases cn with
   |false=>
    go_wp2;go_ret
    exact⟨rfl,HBA.out _ HB4.out⟩
   |true=>
    cases eq with
    |true=>
     go_wp2;go_ret
     exact⟨rfl,HBA.out _ HB4.out⟩
    |false=>
     have HOA:=zq (HOC1.out w4 (HBA.out _ HB4.out));go_upto_region 5 with fail;clear e0 e1 e2 e3 q1;go_wp2_with (with_reducible refine ldZ 36 HX4.out ?_);refine HOA.out.mono ?_;rintro e w5 ⟨rfl,hb5⟩;have HB5:=tB HB4 hb5;have HY5:=uH HY4 hb5;clear hb5 HOA HX4
     cases k1 with
     |true=>
      go_wp2;go_ret
      exact⟨rfl,HBA.out _ HB5.out⟩
     |false=>
      have HOB:=zq (HOC2.out w5 (HBA.out _ HB5.out));go_wp2_with ((with_reducible refine qbF 40 ?_);refine qaC (o:=⟨some 40,_,_,_,_,_⟩) 149 _ rfl (by kernel_rfl) (gy) rfl 149 #[.int .i64 j3,.int .i64 j4,.int .i64 j1,.int .i64 j2] (0,0) _ (HY5.out).raw11 Tryz.underlying149 rfl (by kernel_rfl) ?_);refine HOB.out.mono ?_;rintro e w6 ⟨rfl,hb6⟩;have HB6:=tB HB5 hb6;clear hb6 HOB HY5
      cases k2 with
      |true=>
       go_wp2;go_ret
       exact⟨rfl,HBA.out _ HB6.out⟩
      |false=>
       go_wp2;go_ret
       exact⟨rfl,HBA.out _ HB6.out⟩
  exact AllReadyH.nil
 exact AllReadyH.nil
end
section
open Go.RowKit
open Go.Great
theorem qdv (n a b:Int)(w:World):Calls Tryz.prog 101 #[.int .i64 n,.int .i64 a,.int .i64 b] w fun e w'=>e= .returned (.bool (qas n a b))/\Below w.heap.size w w':=
 (qbM n a b w).mono fun _ _ ⟨h1,h2⟩=>⟨h1,by rw[h2];exact Below.refl _ _⟩
theorem idx_take {α:Type}{p:α->Bool}{l:List α}{k:Nat}{x:α}(hx:l[k]?=some x)(hp:p x=true):decide (idxL p l<(k:Int))=(l.take k).any p:=by
 unfold idxL
 rcases qbO p l 0 with⟨_,h2⟩|⟨j,y,h1,h2,h3,h4⟩
 ·rw[h2 k x hx]at hp;cases hp
 ·rw[h4,Bool.eq_iff_iff,decide_eq_true_eq,List.any_eq_true]
  constructor
  ·intro h
   exact⟨y,List.mem_of_getElem? (i:=j) (by rw[List.getElem?_take_of_lt (by omega)];exact h1),h2⟩
  ·rintro⟨z,hz,e⟩
   obtain⟨m,hm,rfl⟩:=List.getElem_of_mem hz;rw[List.length_take]at hm;rw[List.getElem_take]at e;have: ¬m<j:=fun hmj=>by
    rw[h3 m _ hmj (List.getElem?_eq_getElem (by omega))]at e
    cases e
   omega
theorem balE_w {t:Tp3}{i:Nat}{b:Bl3}(h:t.bals[i]?=some b):balE t i=if((qas b.id 0 16777214 &&edgeB t b.edge) &&qas b.at_ 0 (t.edges.getD b.edge.toNat 0))=true then(if((t.bals.take i).any fun x=>x.id==b.id)=true then 5 else 0)else 1:=by
 rw[balE_at h];unfold qas;simp only[Bool.and_assoc]
theorem otcb_any (t:Tp3)(a:TpA)(i:Nat)(b:Bl3)(w:World)(ht:TopR w t a)(hl:t.edges.length<=100)(hbl:t.bals.length<=100)(hb:t.bals[i]?=some b):
  Calls Tryz.prog 103 #[.agg (tpC t a),.int .i64 i] w fun e w'=>e= .returned (.int .i64 (balE t i))/\Below w.heap.size w w':=by
 obtain⟨wa,hwa,hbwa,HWA,HBWA,h0⟩:=bx1Z w 27 (tpC t a);have hil:=(List.getElem?_eq_some_iff.1 hb).1;rw[balE_w hb];have hix:=idx_take (p:=fun y:Bl3=>y.id==b.id) hb (by simp);have HFB:=zq (fun W (hW:Below w.heap.size w W)=>qd0 t a b.id W (ht.under hW) (by omega));have HW1:=zq (fun W=>qdv b.id 0 16777214 W);have HED:=zq (fun W=>qeo t a b.edge W hl);have HW3:=zq (fun W=>qdv b.at_ 0 (t.edges.getD b.edge.toNat 0) W);obtain⟨nb,hnb⟩: ∃n,t.bals.length=n:=⟨_,rfl⟩
 obtain⟨AB,hAB⟩: ∃A,a.ab=A:=⟨_,rfl⟩
 have hbs:SlO blC 3 wa AB nb a.cb t.bals:=by rw[<-hAB,<-hnb];exact(ht.under hbwa).b
 obtain⟨bk,off,rfl,d0,d1,d2⟩:=hbs.bal hb;have c2:wa.cell? ⟨w.heap.size,2,none⟩=some (.slice (some ⟨bk,off,none⟩) nb a.cb):=by rw[<-hnb,<-hAB];exact h0.cell 2
 have HBA:=zq (fun W (hW:Below wa.heap.size wa W)=>hbwa.trans (hW.mono hbwa.size));have HH0:=zq h0;have HT:=zq ht;have y0:(0:Int)<=i:=by omega
 have y1:(i:Int)<nb:=by omega
 have HBX:=zq (show edgeB t b.edge=true->0<=b.edge/\b.edge<t.edges.length from fun h=>by unfold edgeB at h;simpa using h);obtain⟨R,hR⟩:=geZ (idxL (fun y:Bl3=>y.id==b.id) t.bals);rw[hR]at hix HFB;obtain⟨kk,hkk⟩: ∃x,((t.bals.take i).any fun y:Bl3=>y.id==b.id)=x:=⟨_,rfl⟩
 rw[hkk]at hix;have HIX:=zq hix;obtain⟨b1,hb1⟩: ∃x,qas b.id 0 16777214=x:=⟨_,rfl⟩
 obtain⟨b2,hb2⟩: ∃x,edgeB t b.edge=x:=⟨_,rfl⟩
 obtain⟨q,hq⟩: ∃x,t.edges.getD b.edge.toNat 0=x:=⟨_,rfl⟩
 rw[hq]at HW3;obtain⟨b3,hb3⟩: ∃x,qas b.at_ 0 q=x:=⟨_,rfl⟩
 rw[hkk,hb1,hb2,hq,hb3];rw[hb1]at HW1;rw[hb2]at HED HBX;rw[hb3]at HW3;have HQ:=zq hq;clear hwa hbwa h0 ht hl hbl hb hbs hil hnb hAB hix hR hkk hb1 hb2 hb3 hq;obtain⟨bi,be,ba⟩:=b;dsimp only at*;go_enter Tryz.func103,Tryz.ntmps103;go_upto_region 1 with fail;rw[HWA.out];clear HWA;go_upto_region 2 with fail;obtain⟨wb,hwb⟩:=geZ (wa.alloc (.cells #[.int .i64 bi,.int .i64 be,.int .i64 ba] 151));rw[hwb];have hbb:Below wa.heap.size wa wb:=by rw[<-hwb];exact bA
 have hX:Has wb wa.heap.size 151 #[.int .i64 bi,.int .i64 be,.int .i64 ba]:=by rw[<-hwb];exact Has.made _ _ _
 have HB0:=uH HH0 hbb;have HBB:=zq hbb;obtain⟨gb,hgb⟩: ∃g,wa.heap.size=g:=⟨_,rfl⟩
 rw[hgb]at hX;simp only[hgb];have HX:=zq hX;have HCE:Hid (∀W,Below wa.heap.size wa W->W.cell? ⟨w.heap.size,0,none⟩=some (.slice a.ae t.edges.length a.ce)):=zq fun W hW=>by
  have c_:wa.cell? ⟨w.heap.size,0,none⟩=some (.slice a.ae t.edges.length a.ce):=HH0.out.cell 0;exact(hW.cell (qah c_)).trans c_
 clear hwb hbb hX hgb d0 d1 d2 c2 HH0
 cases b1 with
 |false=>
  refine wp_region_held_drew (S:=(fun W_=>Has W_ (gb) 151 #[.int .i64 bi,.int .i64 be,.int .i64 ba]/\Has W_ (w.heap.size) 27 (tpC t a)/\Below wb.heap.size wb W_)) (by kernel_rfl) ?_ (fun hHeld=>?_)
  ·exact⟨HX.out.draw,HB0.out.draw,qaf (Below.refl _ _)⟩
  refine tkZ 0 12 (h:=?_);simp only[lyZ];refine tqZ 1 13 (fun w_ hSw=>(show w_.cell? ⟨gb,0,none⟩=some (.int .i64 bi:Value)from hSw.1.cell 0)) (h:=?_);simp only[lyZ];refine rdZ [2] ?_;refine acZ (some 14) (fun K hK=>?_) ?_
  ·go_simp
   obtain⟨s0,s1,s2⟩:=hHeld;refine(HW1.out _).mono ?_;rintro e_ v1 ⟨rfl,hbs⟩;go_wp2_with fail;refine hK.out _ _ ?_ (fun hHeld=>?_)
   ·exact⟨s0.u hbs,s1.u hbs,bu s2 hbs⟩
   clear hK K s0 s1 s2
   try simp only[lyZ]
   refine tkZ 3 15 (h:=?_);simp only[lyZ];refine tkZ 4 16 (h:=?_);simp only[lyZ];refine skZ 5 17 (h:=?_);simp only[lyZ];refine skZ 6 18 (h:=?_);simp only[lyZ];refine skZ 7 19 (h:=?_);simp only[lyZ];refine skZ 8 20 (h:=?_);simp only[lyZ];refine skZ 9 21 (h:=?_);simp only[lyZ];refine tkZ 10 22 (h:=?_);simp only[lyZ];refine tkZ 11 23 (h:=?_);simp only[lyZ];refine skZ 12 24 (h:=?_);simp only[lyZ];refine skZ 13 25 (h:=?_);simp only[lyZ];refine skZ 14 26 (h:=?_);simp only[lyZ];refine skZ 15 27 (h:=?_);simp only[lyZ];refine skZ 16 28 (h:=?_);simp only[lyZ];refine skZ 17 29 (h:=?_);simp only[lyZ];refine skZ 18 30 (h:=?_);simp only[lyZ];refine skZ 19 31 (h:=?_);simp only[lyZ];refine skZ 20 32 (h:=?_);simp only[lyZ];refine skZ 21 33 (h:=?_);simp only[lyZ];refine tkZ 22 34 (h:=?_);simp only[lyZ];refine tkZ 23 11 (h:=?_);simp only[lyZ];refine dnZ ?_;have HE:=zq (HBA.out _ (HBB.out.trans (hHeld.2.2.mono HBB.out.size)));clear hHeld;go_wp2;go_ret
   exact⟨rfl,HE.out⟩
  exact AllReadyH.nil
 |true=>
  cases b2 with
  |false=>
   refine wp_region_held_drew (S:=(fun W_=>Has W_ (gb) 151 #[.int .i64 bi,.int .i64 be,.int .i64 ba]/\Has W_ (w.heap.size) 27 (tpC t a)/\Below wb.heap.size wb W_)) (by kernel_rfl) ?_ (fun hHeld=>?_)
   ·exact⟨HX.out.draw,HB0.out.draw,qaf (Below.refl _ _)⟩
   refine tkZ 0 12 (h:=?_);simp only[lyZ];refine tqZ 1 13 (fun w_ hSw=>(show w_.cell? ⟨gb,0,none⟩=some (.int .i64 bi:Value)from hSw.1.cell 0)) (h:=?_);simp only[lyZ];refine rdZ [2] ?_;refine acZ (some 14) (fun K hK=>?_) ?_
   ·go_simp
    obtain⟨s0,s1,s2⟩:=hHeld;refine(HW1.out _).mono ?_;rintro e_ v1 ⟨rfl,hbs⟩;go_wp2_with fail;refine hK.out _ _ ?_ (fun hHeld=>?_)
    ·exact⟨s0.u hbs,s1.u hbs,bu s2 hbs⟩
    clear hK K s0 s1 s2
    try simp only[lyZ]
    refine tkZ 3 15 (h:=?_);simp only[lyZ];refine tkZ 4 16 (h:=?_);simp only[lyZ];refine tlZ 5 17 w.heap.size (tpC t a) (fun _ ⟨_,h_,_⟩=>h_) (h:=?_);simp only[lyZ];refine tkZ 6 18 (h:=?_);simp only[lyZ];refine tqZ 7 19 (fun w_ hSw=>(show w_.cell? ⟨gb,1,none⟩=some (.int .i64 be:Value)from hSw.1.cell 1)) (h:=?_);simp only[lyZ];refine rdZ [8] ?_;refine acZ (some 20) (fun K hK=>?_) ?_
    ·go_simp
     obtain⟨s0,s1,s2⟩:=hHeld;refine(HED.out _).mono ?_;rintro e_ v2 ⟨rfl,hbs⟩;go_wp2_with fail;refine hK.out _ _ ?_ (fun hHeld=>?_)
     ·exact⟨s0.u hbs,s1.u hbs,bu s2 hbs⟩
     clear hK K s0 s1 s2
     try simp only[lyZ]
     refine tkZ 9 21 (h:=?_);simp only[lyZ];refine tkZ 10 22 (h:=?_);simp only[lyZ];refine tkZ 11 23 (h:=?_);simp only[lyZ];refine skZ 12 24 (h:=?_);simp only[lyZ];refine skZ 13 25 (h:=?_);simp only[lyZ];refine skZ 14 26 (h:=?_);simp only[lyZ];refine skZ 15 27 (h:=?_);simp only[lyZ];refine skZ 16 28 (h:=?_);simp only[lyZ];refine skZ 17 29 (h:=?_);simp only[lyZ];refine skZ 18 30 (h:=?_);simp only[lyZ];refine skZ 19 31 (h:=?_);simp only[lyZ];refine skZ 20 32 (h:=?_);simp only[lyZ];refine skZ 21 33 (h:=?_);simp only[lyZ];refine tkZ 22 34 (h:=?_);simp only[lyZ];refine tkZ 23 11 (h:=?_);simp only[lyZ];refine dnZ ?_;have HE:=zq (HBA.out _ (HBB.out.trans (hHeld.2.2.mono HBB.out.size)));clear hHeld;go_wp2;go_ret
     exact⟨rfl,HE.out⟩
    exact AllReadyH.nil
   exact AllReadyH.nil
  |true=>
   have hed:=HBX.out (by first|rfl|trivial);obtain⟨en,hen⟩: ∃e:Nat,be=e:=⟨be.toNat,by omega⟩
   have hel:en<t.edges.length:=by omega
   obtain⟨bke,oe,hae,ce⟩:=(HT.out.under (HBA.out wa (Below.refl _ _))).e.edge hel;have hqq:t.edges.getD en 0=q:=by rw[<-HQ.out,hen];rfl
   rw[hqq]at ce;obtain⟨ne,hne⟩: ∃n,t.edges.length=n:=⟨_,rfl⟩
   have HCE2:Hid (∀W,Below wa.heap.size wa W->W.cell? ⟨w.heap.size,0,none⟩=some (.slice (some ⟨bke,oe,none⟩) ne a.ce)):=zq fun W hW=>by rw[<-hae,<-hne];exact HCE.out W hW
   have HCQ:=zq (fun W (hW:Below wa.heap.size wa W)=>(hW.cell (qah ce)).trans ce);have y2:(0:Int)<=en:=by omega
   have y3:(en:Int)<ne:=by omega
   subst hen;clear hed hel hae ce hqq hne HCE HBX HQ;refine wp_region_held_drew (S:=(fun W_=>Has W_ (gb) 151 #[.int .i64 bi,.int .i64 (en:Nat),.int .i64 ba]/\Has W_ (w.heap.size) 27 (tpC t a)/\Below wb.heap.size wb W_)) (by kernel_rfl) ?_ (fun hHeld=>?_)
   ·exact⟨HX.out.draw,HB0.out.draw,qaf (Below.refl _ _)⟩
   refine tkZ 0 12 (h:=?_);simp only[lyZ];refine tqZ 1 13 (fun w_ hSw=>(show w_.cell? ⟨gb,0,none⟩=some (.int .i64 bi:Value)from hSw.1.cell 0)) (h:=?_);simp only[lyZ];refine rdZ [2] ?_;refine acZ (some 14) (fun K hK=>?_) ?_
   ·go_simp
    obtain⟨s0,s1,s2⟩:=hHeld;refine(HW1.out _).mono ?_;rintro e_ v1 ⟨rfl,hbs⟩;go_wp2_with fail;refine hK.out _ _ ?_ (fun hHeld=>?_)
    ·exact⟨s0.u hbs,s1.u hbs,bu s2 hbs⟩
    clear hK K s0 s1 s2
    try simp only[lyZ]
    refine tkZ 3 15 (h:=?_);simp only[lyZ];refine tkZ 4 16 (h:=?_);simp only[lyZ];refine tlZ 5 17 w.heap.size (tpC t a) (fun _ ⟨_,h_,_⟩=>h_) (h:=?_);simp only[lyZ];refine tkZ 6 18 (h:=?_);simp only[lyZ];refine tqZ 7 19 (fun w_ hSw=>(show w_.cell? ⟨gb,1,none⟩=some (.int .i64 (en:Nat):Value)from hSw.1.cell 1)) (h:=?_);simp only[lyZ];refine rdZ [8] ?_;refine acZ (some 20) (fun K hK=>?_) ?_
    ·go_simp
     obtain⟨s0,s1,s2⟩:=hHeld;refine(HED.out _).mono ?_;rintro e_ v2 ⟨rfl,hbs⟩;go_wp2_with fail;refine hK.out _ _ ?_ (fun hHeld=>?_)
     ·exact⟨s0.u hbs,s1.u hbs,bu s2 hbs⟩
     clear hK K s0 s1 s2
     try simp only[lyZ]
     refine tkZ 9 21 (h:=?_);simp only[lyZ];refine tkZ 10 22 (h:=?_);simp only[lyZ];refine tkZ 11 23 (h:=?_);simp only[lyZ];refine tkZ 12 24 (h:=?_);simp only[lyZ];refine tqZ 13 25 (fun w_ hSw=>(show w_.cell? ⟨gb,2,none⟩=some (.int .i64 ba:Value)from hSw.1.cell 2)) (h:=?_);simp only[lyZ];refine tkZ 14 26 (h:=?_);simp only[lyZ];refine tqZ 15 27 (fun w_ hSw=>(show w_.cell? ⟨w.heap.size,0,none⟩=some (.slice (some ⟨bke,oe,none⟩) ne a.ce:Value)from HCE2.out w_ (HBB.out.trans (hSw.2.2.mono HBB.out.size)))) (h:=?_);simp only[lyZ];refine tkZ 16 28 (h:=?_);simp only[lyZ];refine tqZ 17 29 (fun w_ hSw=>(show w_.cell? ⟨gb,1,none⟩=some (.int .i64 (en:Nat):Value)from hSw.1.cell 1)) (h:=?_);simp only[lyZ];refine tkZ 18 30 (h:=?_);simp only[lyZ];refine tqZ 19 31 (fun w_ hSw=>HCQ.out w_ (HBB.out.trans (hSw.2.2.mono HBB.out.size))) (h:=?_);simp only[lyZ];refine rdZ [20] ?_;refine acZ (some 32) (fun K hK=>?_) ?_
     ·go_simp
      obtain⟨s0,s1,s2⟩:=hHeld;refine(HW3.out _).mono ?_;rintro e_ v3 ⟨rfl,hbs⟩;go_wp2_with fail;refine hK.out _ _ ?_ (fun hHeld=>?_)
      ·exact⟨s0.u hbs,s1.u hbs,bu s2 hbs⟩
      clear hK K s0 s1 s2
      try simp only[lyZ]
      refine tkZ 21 33 (h:=?_);simp only[lyZ];refine tkZ 22 34 (h:=?_);simp only[lyZ];refine tkZ 23 11 (h:=?_);simp only[lyZ];refine dnZ ?_;have HS:=zq hHeld;clear hHeld y2 y3
      cases b3 with
      |false=>
       have HE:=zq (HBA.out _ (HBB.out.trans (HS.out.2.2.mono HBB.out.size)));go_wp2;go_ret
       exact⟨rfl,HE.out⟩
      |true=>
       have HE:=zq (HBA.out _ (HBB.out.trans (HS.out.2.2.mono HBB.out.size)));have z0:=HS.out.1.cell 0;have z0':World.cell? v3 ⟨gb,0,none⟩=some (.int .i64 bi):=z0;have HF:=zq (HFB.out v3 HE.out);go_upto_region 4 with fail;go_wp2_with (with_reducible refine ldZ 36 HS.out.2.1 ?_);refine HF.out.mono ?_;rintro e v4 ⟨rfl,hb4⟩;have HB4:=tB HE hb4;have hlt:=HIX.out;clear hb4 HF z0 z0'
       cases kk with
       |true=>
        have hlt2:R<(i:Int):=by simpa using hlt
        clear hlt;go_wp2;go_ret
        exact⟨rfl,HB4.out⟩
       |false=>
        have hlt2: ¬R<(i:Int):=by simpa using hlt
        clear hlt;go_wp2;go_ret
        exact⟨rfl,HB4.out⟩
     exact AllReadyH.nil
    exact AllReadyH.nil
   exact AllReadyH.nil
end
section
open Go.RowKit
open Go.Maps (Keyed has IsMap)
theorem laid13:laidOutB Tryz.prog=true:=by kernel_rfl
theorem row_st13:(30:TypeId)<Tryz.prog.types.size:=of_decide_eq_true (by kernel_rfl)
theorem wide_st13:(match Tryz.prog.underlying 30 with|some (.array _ _)|some (.struct _)=>true|_=>false)=true:=by kernel_rfl
theorem size_st13:1<=Tryz.prog.types.size:=of_decide_eq_true (by kernel_rfl)
theorem qdn:Tryz.prog.cellsOf 30=2:=by kernel_rfl
theorem qgl:Tryz.prog.keyType 30=true:=by kernel_rfl
theorem qda:Keyed Tryz.prog 30:=Keyed.of_law (deep_law_laid laid13 (m:=3) (by omega) row_st13 (by kernel_rfl) wide_st13)
def wfS (s:St3):Prop:=(Lit.int .i64 s.edge).wf=true
def stK (s:St3):Lit:= .string (keyBytes [.int .i64 s.edge,.bool s.rev])
theorem lits_st13 (d:Nat)(n:Int)(b:Bool)(h:(Lit.int .i64 n).wf=true):Tryz.prog.keyLits (d+2) 30 [.int .i64 n,.bool b]=some [.int .i64 n,.bool b]:=by
 have kI:Tryz.prog.cellsOf 3=1:=by kernel_rfl
 have kB:Tryz.prog.cellsOf 4=1:=by kernel_rfl
 simp[Program.keyLits,Tryz.underlying30,Tryz.underlying3,Tryz.underlying4,qdn,kI,kB,h]
theorem qcX {s:St3}(h:wfS s):keyOf Tryz.prog 30 (.agg (stA13 s))=some (stK s):=by
 obtain⟨d,hd⟩: ∃d,Tryz.prog.types.size+1=d+2:=⟨Tryz.prog.types.size-1,by have:=size_st13;omega⟩
 have hf:(Value.agg (stA13 s)).formed Tryz.prog 30=true:=by
  simp[Value.formed,Tryz.underlying30,qdn,stA13]
 unfold keyOf;rw[Tryz.underlying30];simp only[qgl,hf,Bool.and_self,if_true,hd];rw[show(Value.agg (stA13 s)).cells.toList=[.int .i64 s.edge,.bool s.rev]from rfl,lits_st13 d _ _ h]
 rfl
theorem qeK {v:Value}{kl:Lit}(h:keyOf Tryz.prog 30 v=some kl): ∃s,v= .agg (stA13 s)/\wfS s/\kl=stK s:=by
 have kI:Tryz.prog.cellsOf 3=1:=by kernel_rfl
 have kB:Tryz.prog.cellsOf 4=1:=by kernel_rfl
 have h0:=h;obtain⟨d,hd⟩: ∃d,Tryz.prog.types.size+1=d+2:=⟨Tryz.prog.types.size-1,by have:=size_st13;omega⟩
 unfold keyOf at h;rw[Tryz.underlying30]at h;simp only[qgl,Bool.true_and,hd]at h;split at h
 ·rename_i hf
  cases v with
  |agg cs=>
   simp[Value.formed,Tryz.underlying30,qdn]at hf;obtain⟨cl⟩:=cs
   match cl,hf with
   |[v0,v1],_=>
    have he:(Value.agg #[v0,v1]).cells.toList=[v0,v1]:=rfl;rw[he]at h;simp only[Program.keyLits,Tryz.underlying30,qdn,List.length_cons,List.length_nil]at h
    cases v0 with
    |int k n=>
     cases v1 with
     |bool c=>
      by_cases hw:k= .i64/\(Lit.int .i64 n).wf=true
      ·simp[Tryz.underlying3,Tryz.underlying4,kI,kB,hw]at h
       obtain⟨rfl,hw⟩:=hw;exact⟨⟨n,c⟩,rfl,hw,h.symm⟩
      ·simp[Tryz.underlying3,Tryz.underlying4,kI,kB,hw]at h
     |_=>simp[Tryz.underlying3,Tryz.underlying4,kI,kB]at h
    |_=>simp[Tryz.underlying3,Tryz.underlying4,kI,kB]at h
  |_=>simp[Value.formed,Tryz.underlying30]at hf
 ·cases h
theorem stK_inj {a b:St3}(ha:wfS a)(hb:wfS b)(h:stK a=stK b):a=b:=by
 have:=qda.inj (qcX ha) (by rw[h];exact qcX hb);obtain⟨a1,a2⟩:=a;obtain⟨b1,b2⟩:=b;unfold stA13 at this;simp at this;obtain⟨rfl,rfl⟩:=this
 rfl
theorem stK_key {a:St3}(ha:wfS a):WideAt.IsKeyLit (stK a):=qda.key (qcX ha)
theorem stK_same {a b:St3}(ha:wfS a)(hb:wfS b):(stK a).sameKey (stK b)=eqS a b:=by
 cases h:(stK a).sameKey (stK b)with
 |true=>
  have:=stK_inj ha hb (WideAt.sameKey_eq h);exact((qaX a b).2 this).symm
 |false=>
  cases h2:eqS a b with
  |false=>rfl
  |true=>
   rw[qaX]at h2;subst h2;rw[WideAt.sameKey_self (stK_key ha)]at h
   cases h
theorem wfS_of {t:Tp3}{s:St3}(h:edgeB t s.edge=true)(hl:t.edges.length<=100):wfS s:=by
 unfold edgeB at h;simp only[Bool.and_eq_true,decide_eq_true_eq]at h;show(decide (IntKind.i64.min<=s.edge) &&decide (s.edge<=IntKind.i64.max))=true
 rw[Bool.and_eq_true,decide_eq_true_eq,decide_eq_true_eq];exact(show -9223372036854775808<=s.edge/\s.edge<=9223372036854775807 by omega)
structure SetM (D:DataW Unit) (p:St3->Bool):Prop where
 map:IsMap D
 tr: ∀kl,D.atKey kl (.lit (.bool false))= .lit (.bool (has D kl))
 mem: ∀x,wfS x->has D (stK x)=p x
theorem SetM.empty:SetM (.map []) fun _=>false:=⟨Go.Maps.isMap_empty,fun _=>rfl,fun _ _=>rfl⟩
theorem SetM.put {D:DataW Unit}{p:St3->Bool}(h:SetM D p){y:St3}(hy:wfS y):SetM (D.put (stK y) (.lit (.bool true))) fun x=>p x||eqS y x:=by
 refine⟨h.map.put _ _,fun kl=>?_,fun x hx=>?_⟩
 ·by_cases e:kl=stK y
  ·subst e
   rw[Go.Maps.atKey_put_same h.map (stK_key hy),Go.Maps.has_put_same h.map (stK_key hy)]
  ·rw[Go.Maps.atKey_put_other e,Go.Maps.has_put_other e,h.tr]
 ·by_cases e:y=x
  ·subst e
   rw[Go.Maps.has_put_same h.map (stK_key hy),(qaX _ _).2 rfl,Bool.or_true]
  ·have e2:eqS y x=false:=by
    cases h2:eqS y x with
    |false=>rfl
    |true=>exact absurd ((qaX _ _).1 h2) e
   rw[Go.Maps.has_put_other (fun he=>e (stK_inj hy hx he.symm)),h.mem x hx,e2,Bool.or_false]
theorem SetM.is {D:DataW Unit}{p q:St3->Bool}(h:SetM D p)(e: ∀x,p x=q x):SetM D q:=⟨h.map,h.tr,fun x hx=>by rw[h.mem x hx,e]⟩
end
end Go.Proofs.YtahadmeilajdgaaGreatDoor
