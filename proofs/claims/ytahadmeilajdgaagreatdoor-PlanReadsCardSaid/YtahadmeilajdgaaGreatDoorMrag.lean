/-
  Our own text, joined.
-/
import Derived.Test.YtahadmeilajdgaaGreatDoorMraf
import Derived.Deep.LoopGhost
import Derived.Test.YtahadmeilajdgaaGreatDoorMraa
import Derived.BigQuiet
import Derived.IntWalk
import Derived.Test.YtahadmeilajdgaaGreatDoorMrac
namespace Go.Proofs.YtahadmeilajdgaaGreatDoor
set_option maxRecDepth 100000
set_option maxHeartbeats 20000000
section
open Go.RowKit
theorem ref_unit (s:Int)(w:World):
  Calls Tryz.prog 191 #[.int .i64 s] w fun e w'=>e= .returned (.int .i64 (qaS s))/\Below w.heap.size w w':=by
 have hb0:=(Below.refl w.heap.size w).alloc (Nat.le_refl _) (.cells #[.int .i64 1,.int .i64 10,.int .i64 100] 3);have HB:=zq hb0;clear hb0;by_cases h:s<0
 ·rw[show qaS s=0 by simp only[qaS];rw[if_neg (by omega),if_neg (by omega),if_neg (by omega)]]
  go_enter Tryz.func191,Tryz.ntmps191;go_wp2;go_ret
  exact⟨rfl,HB.out⟩
 ·by_cases h2:2<s
  ·rw[show qaS s=0 by simp only[qaS];rw[if_neg (by omega),if_neg (by omega),if_neg (by omega)]]
   go_enter Tryz.func191,Tryz.ntmps191;go_wp2;go_ret
   exact⟨rfl,HB.out⟩
  ·obtain rfl|rfl|rfl:s=0\/s=1\/s=2:=by omega
   ·rw[show qaS 0=1 from rfl]
    clear h h2;go_enter Tryz.func191,Tryz.ntmps191;go_wp2;go_ret
    exact⟨rfl,HB.out⟩
   ·rw[show qaS 1=10 from rfl]
    clear h h2;go_enter Tryz.func191,Tryz.ntmps191;go_wp2;go_ret
    exact⟨rfl,HB.out⟩
   ·rw[show qaS 2=100 from rfl]
    clear h h2;go_enter Tryz.func191,Tryz.ntmps191;go_wp2;go_ret
    exact⟨rfl,HB.out⟩
theorem ref_dm (n s:Int)(w:World):
  Calls Tryz.prog 137 #[.int .i64 n,.int .i64 s] w fun e w'=>e= .returned (pair (dmOf n s))/\Below w.heap.size w w':=by
 have hu:=qcN s;have c:=ref_unit s w;rw[dmOf];generalize qaS s=u at*;have C:=zq c;clear c;by_cases h0:u=0
 ·subst h0
  rw[if_pos rfl];clear hu;go_enter Tryz.func137,Tryz.ntmps137;go_wp2_with fail;refine(C.out).mono ?_;rintro e w' ⟨rfl,hb⟩;have HB:=zq hb;clear hb;go_wp2;go_ret2
  exact⟨rfl,HB.out⟩
 ·rw[if_neg h0]
  by_cases hn:n<0\/32766<n
  ·rw[if_pos hn]
   obtain h|⟨g,h⟩:n<0\/(¬n<0/\32766<n):=by omega
   ·clear hu hn
    go_enter Tryz.func137,Tryz.ntmps137;go_wp2_with fail;refine(C.out).mono ?_;rintro e w' ⟨rfl,hb⟩;have HB:=zq hb;clear hb;go_wp2;go_ret2
    exact⟨rfl,HB.out⟩
   ·clear hu hn
    go_enter Tryz.func137,Tryz.ntmps137;go_wp2_with fail;refine(C.out).mono ?_;rintro e w' ⟨rfl,hb⟩;have HB:=zq hb;clear hb;go_wp2;go_ret2
    exact⟨rfl,HB.out⟩
  ·rw[if_neg hn]
   obtain⟨h1,h2⟩: ¬n<0/\ ¬32766<n:=by omega
   have hb:0<=n*u/\n*u<=3276600:=by
    rcases hu with rfl|rfl|rfl|rfl<;>omega
   have hm:wrap64 (n*u)=n*u:=by simp only[wrap64];omega
   clear hu hn;go_enter Tryz.func137,Tryz.ntmps137;go_wp2_with fail;refine(C.out).mono ?_;rintro e w' ⟨rfl,hb⟩;have HB:=zq hb;clear hb;go_wp2;go_ret2
   exact⟨rfl,HB.out⟩
end
section
open Go.RowKit
open Go.Great
theorem qbO:(Tryz.prog.info? 66).map (fun i=>(i.zero,i.size,i.bytes))=some (some (.agg #[.int .i64 0,.int .i64 0]),2,16):=by kernel_rfl
theorem qdy (s:Sc3): ∀u∈scC17 s,u.oneCell'=true:=by
 intro u hu;simp only[scC17,List.mem_cons,List.not_mem_nil,or_false]at hu
 rcases hu with rfl|rfl<;>rfl
theorem SlO.num17 {w:World}{A:Option Addr}{n c:Nat}{l:List Int}(h:SlO inC 1 w A n c l)(h0:0<n): ∃b off,A=some ⟨b,off,none⟩/\ ∀j,j<n->w.cell? ⟨b,off+j,none⟩=some (.int .i64 (l.getD j 0)):=by
 obtain⟨x,hx⟩:=glZ l (0) (by rw[h.1];exact h0);obtain⟨b,off,e,_⟩:=h.at_ (fun _=>rfl) (by decide) hx;refine⟨b,off,e,fun j hj=>?_⟩;obtain⟨y,hy⟩:=glZ l (j) (by rw[h.1];exact hj);obtain⟨b',off',e',hc⟩:=h.at_ (fun _=>rfl) (by decide) hy;rw[e]at e';injection e' with e'
 injection e' with e1 e2 _
 subst e1 e2;rw[List.getD_eq_getElem?_getD,hy]
 simpa using hc 0 _ rfl
theorem SlO.rest17 {w:World}{b off n c k:Nat}{l:List Int}(h:SlO inC 1 w (some ⟨b,off,none⟩) n c l)(hk:k<=n):SlO inC 1 w (some ⟨b,off+k,none⟩) (n-k) (c-k) (l.drop k):=by
 have hl:=h.1;refine⟨by rw[List.length_drop,hl],by rw[qbJ (f:=inC) (k:=1) (fun _=>rfl),List.length_drop,hl],(fun e=>by cases e),fun ad e j u hu=>?_⟩;injection e with e
 subst e;have h1:l.flatMap inC=(l.take k).flatMap inC++(l.drop k).flatMap inC:=by rw[<-List.flatMap_append,List.take_append_drop]
 have h2:((l.take k).flatMap inC).length=k:=by rw[qbJ (f:=inC) (k:=1) (fun _=>rfl),List.length_take];omega
 have h3:(l.flatMap inC)[k+j]?=some u:=by rw[h1,List.getElem?_append_right (by omega),h2,Nat.add_sub_cancel_left];exact hu
 have h4:=h.2.2.2 _ rfl (k+j) u h3;rw[WideShapes.add_plain]at h4⊢;rw[Nat.add_assoc];exact h4
theorem dm_hi17 {n u:Int}(h:(dmOf n u).2=0):0<=(dmOf n u).1/\(dmOf n u).1<=3276600:=by
 unfold dmOf at h⊢;split at h
 ·cases h
 ·rename_i h1
  split at h
  ·cases h
  ·rename_i h2
   rw[if_neg h1,if_neg h2];have h3:=qcN u;dsimp only
   rcases h3 with h3|h3|h3|h3<;>rw[h3]at h1⊢ <;>omega
def joinS (q:List Sc3)(r:List Sc3×List Int×Int):List Sc3×List Int×Int:=if r.2.2≠0 then([],[],r.2.2)else(q++r.1,r.2.1,0)
theorem join_nil (r:List Sc3×List Int×Int)(h:r.2.2≠0->r.1=[]/\r.2.1=[]):joinS [] r=r:=by
 obtain⟨a,b,e⟩:=r;unfold joinS;dsimp only at*;by_cases he:e=0
 ·rw[if_neg (by simp[he]),List.nil_append,he]
 ·rw[if_pos he,(h he).1,(h he).2]
theorem qgr (u:Int)(k:Nat)(to_:Int)(v:List Int):(qaf u k to_ v).2.2≠0->(qaf u k to_ v).1=[]/\(qaf u k to_ v).2.1=[]:=by
 cases k with
 |zero=>intro h;exact absurd rfl h
 |succ k=>
  rw[qaf];split
  ·intro _;exact⟨rfl,rfl⟩
  ·split
   ·intro _;exact⟨rfl,rfl⟩
   ·split
    ·intro _;exact⟨rfl,rfl⟩
    ·dsimp only
     split
     ·intro _;exact⟨rfl,rfl⟩
     ·intro h;exact absurd rfl h
theorem join_step {u:Int}{k:Nat}{to_:Int}{v:List Int}{q:List Sc3}(h1:v.getD 1 0=1)(h2: ¬(v.getD 2 0<1\/1000<v.getD 2 0\/v.getD 0 0=0))(h3:(dmOf (v.getD 0 0) u).2=0):joinS q (qaf u (k+1) to_ v)=joinS (q++[⟨to_+(dmOf (v.getD 0 0) u).1,v.getD 2 0⟩]) (qaf u k (to_+(dmOf (v.getD 0 0) u).1) (v.drop 4)):=by
 rw[qaf,if_neg (fun h=>h h1),if_neg h2,if_neg (fun h=>h h3)];dsimp only;generalize qaf u k (to_+(dmOf (v.getD 0 0) u).1) (v.drop 4)=r;generalize (dmOf (v.getD 0 0) u).1=d;generalize v.getD 2 0=x2;obtain⟨a,b,e⟩:=r;unfold joinS;dsimp only;by_cases he:e=0
 ·subst he
  simp
 ·simp[he]
theorem qbT {q:List Sc3}{u:Int}{k:Nat}{to_ e:Int}{v:List Int}(h:qaf u k to_ v=([],[],e))(he:e≠0):joinS q (qaf u k to_ v)=([],[],e):=by
 rw[h];exact if_pos he
theorem rsections17 (V:List Int)(k:Nat)(u:Int)(A:Option Addr)(n c:Nat)(w:World)(hs:SlO inC 1 w A n c V)(hc:n<=c)(hn:n<=1048576)(hk:k<=100)(h4:4*k<n):
  Calls Tryz.prog 69 #[.slice A n c,.int .i64 k,.int .i64 u] w fun r w'=> ∃X x B d,r= .returned (.tuple #[.slice X (qaf u k 0 V).1.length x,.slice B (qaf u k 0 V).2.1.length d,.int .i64 (qaf u k 0 V).2.2])/\OwR scC17 2 66 w.heap.size w' X (qaf u k 0 V).1.length x (qaf u k 0 V).1/\SlO inC 1 w' B (qaf u k 0 V).2.1.length d (qaf u k 0 V).2.1/\(qaf u k 0 V).2.1.length<=d/\Below w.heap.size w w':=by
 obtain⟨R,hR⟩:=geZ (qaf u k 0 V);have HR:=zq (show joinS [] (qaf u k 0 V)=R from by rw[join_nil _ (qgr u k 0 V)];exact hR);rw[hR];have HS:=zq hs;have HC:=zq (show n<=c/\n<=1048576/\k<=100/\4*k<n from⟨hc,hn,hk,h4⟩);clear hR hs hc hn hk h4;go_enter Tryz.func69,Tryz.ntmps69;go_wp2;go_loopg [0,9,10,11] k (fun kk v0 v9 v10 v11 wl=> ∃(i m d:Nat) (B X:Option Addr) (x:Nat) (q:List Sc3) (Y:List Int) (to_:Int),i<=k/\k-i<=kk/\v11= .int .i64 i/\v0= .slice B m d/\v9= .slice X i x/\v10= .int .i64 to_/\Hid (joinS q (qaf u (k-i) to_ Y)=R)/\Hid (SlO inC 1 w B m d Y)/\Hid (m<=d/\m<=1048576/\4*(k-i)<m)/\Hid (0<=to_/\to_<=i*3276600)/\Hid (OwR scC17 2 66 w.heap.size wl X i x q)/\Hid (Below w.heap.size w wl))
 case atStart=>exact⟨0,n,c,A,none,0,[],V,0,by omega,by omega,rfl,rfl,rfl,rfl,HR,HS,zq (by have:=HC.out;omega),zq (by omega),zq (OwR.nil _ _ _ _ _),zq (Below.refl _ _)⟩
 clear HR HS;obtain⟨i,m,d,B,X,x,q,Y,to_,hi,hik,rfl,rfl,rfl,rfl,HR,HS,HM,HTO,HO,HB⟩:=hrel;obtain⟨k1,hk1⟩: ∃k1,k1=gk:=⟨_,rfl⟩
 subst hk1;obtain⟨wv,hwv⟩: ∃wv,wv=wr:=⟨_,rfl⟩
 subst hwv;by_cases hlt:i<k;rotate_left
 ·obtain rfl:i=k:=by omega
  have x1: ¬(i:Int)<i:=by omega
  have HF:=zq (show R=(q,Y,0)from by have h_:=HR.out;rw[Nat.sub_self]at h_;rw[<-h_];show joinS q ([],Y,0)=_;unfold joinS;rw[if_neg (by simp),List.append_nil]);clear hik hlt hi;go_wp2;go_ret3
  rw[HF.out];dsimp only;rw[show q.length=i from HO.out.2,show Y.length=m from HS.out.1];exact⟨X,x,B,d,rfl,HO.out,HS.out.under HB.out,HM.out.1,HB.out⟩
 obtain⟨b,off,rfl,hc⟩:=(HS.out.under HB.out).num17 (by have:=HM.out;omega);have d0:=hc 0 (by have:=HM.out;omega);have d1:=hc 1 (by have:=HM.out;omega);have d2:=hc 2 (by have:=HM.out;omega);rw[Nat.add_zero]at d0;have HIN:=zq (show i<k/\k-i<=k1 from⟨hlt,hik⟩);have x1:(i:Int)<k:=by omega
 clear hc hlt hik hi;obtain⟨v0,hv0⟩: ∃v,Y.getD 0 0=v:=⟨_,rfl⟩
 obtain⟨v1,hv1⟩: ∃v,Y.getD 1 0=v:=⟨_,rfl⟩
 obtain⟨v2,hv2⟩: ∃v,Y.getD 2 0=v:=⟨_,rfl⟩
 rw[hv0]at d0;rw[hv1]at d1;rw[hv2]at d2;have HV:=zq (And.intro hv0 (And.intro hv1 hv2));have HKS:=zq (show k-i=(k-(i+1))+1 from by have:=HIN.out;omega);clear hv0 hv1 hv2;have y1:(1:Int)<m:=by have:=HM.out;have:=HIN.out;omega
 have y0:(0:Int)<m:=by omega
 have y2:(2:Int)<m:=by have:=HM.out;have:=HIN.out;omega
 by_cases z1:v1=1;rotate_left
 ·have q1:(v1 !=1)=true:=by simp[z1]
  have HF:=zq (show R=([],[],20)from by have h_:=HR.out;rw[HKS.out,qbT (e:=20) (by rw[qaf,if_pos (by rw[HV.out.2.1];exact z1)]) (by decide)]at h_;exact h_.symm);go_wp2;go_ret3
  rw[HF.out];exact⟨none,0,none,0,rfl,OwR.nil _ _ _ _ _,SlO.nil _ _ _,Nat.le_refl _,HB.out⟩
 have q1:(v1 !=1)=false:=by simp[z1]
 by_cases z2:v2<1
 ·skip
  have HF:=zq (show R=([],[],20)from by have h_:=HR.out;rw[HKS.out,qbT (e:=20) (by rw[qaf,if_neg (by rw[HV.out.2.1];simp[z1]),if_pos (.inl (by rw[HV.out.2.2];exact z2))]) (by decide)]at h_;exact h_.symm);go_wp2;go_ret3
  rw[HF.out];exact⟨none,0,none,0,rfl,OwR.nil _ _ _ _ _,SlO.nil _ _ _,Nat.le_refl _,HB.out⟩
 by_cases z3:1000<v2
 ·skip
  have HF:=zq (show R=([],[],20)from by have h_:=HR.out;rw[HKS.out,qbT (e:=20) (by rw[qaf,if_neg (by rw[HV.out.2.1];simp[z1]),if_pos (.inr (.inl (by rw[HV.out.2.2];exact z3)))]) (by decide)]at h_;exact h_.symm);go_wp2;go_ret3
  rw[HF.out];exact⟨none,0,none,0,rfl,OwR.nil _ _ _ _ _,SlO.nil _ _ _,Nat.le_refl _,HB.out⟩
 by_cases z4:v0=0
 ·have q4:(v0==0)=true:=by simp[z4]
  have HF:=zq (show R=([],[],20)from by have h_:=HR.out;rw[HKS.out,qbT (e:=20) (by rw[qaf,if_neg (by rw[HV.out.2.1];simp[z1]),if_pos (.inr (.inr (by rw[HV.out.1];exact z4)))]) (by decide)]at h_;exact h_.symm);go_wp2;go_ret3
  rw[HF.out];exact⟨none,0,none,0,rfl,OwR.nil _ _ _ _ _,SlO.nil _ _ _,Nat.le_refl _,HB.out⟩
 have q4:(v0==0)=false:=by simp[z4]
 have HZ3:=zq (show v1=1/\ ¬(v2<1\/1000<v2\/v0=0)from⟨z1,by omega⟩);go_upto_region 12 with fail;go_wp2_with fail;refine(ref_dm v0 u wv).mono ?_;obtain⟨dd,hdd⟩: ∃p,dmOf v0 u=p:=⟨_,rfl⟩
 rw[hdd];have HDD:=zq hdd;clear hdd;obtain⟨dv,de⟩:=dd;unfold pair;dsimp only;rintro e_ w2 ⟨rfl,hb2⟩;have HB2:=tB HB hb2;have HO2:=zq (HO.out.under hb2);clear hb2 HO HB d0 d1 d2 y1 y0 y2 q1 q4 z1 z2 z3 z4;by_cases z5:de=0;rotate_left
 ·have q5:(de !=0)=true:=by simp[z5]
  have HF:=zq (show R=([],[],7)from by have h_:=HR.out;rw[HKS.out,qbT (e:=7) (by rw[qaf,if_neg (by rw[HV.out.2.1];simp[HZ3.out.1]),if_neg (by rw[HV.out.1,HV.out.2.2];exact HZ3.out.2),if_pos (by rw[HV.out.1,HDD.out];exact z5)]) (by decide)]at h_;exact h_.symm);go_wp2;go_ret3
  rw[HF.out];exact⟨none,0,none,0,rfl,OwR.nil _ _ _ _ _,SlO.nil _ _ _,Nat.le_refl _,HB2.out⟩
 subst z5;have HDH:=zq (show 0<=dv/\dv<=3276600 from by have h_:=dm_hi17 (n:=v0) (u:=u) (by rw[HDD.out]);rw[HDD.out]at h_;exact h_);have HRN:=zq (show joinS (q++[⟨to_+dv,v2⟩]) (qaf u (k-(i+1)) (to_+dv) (Y.drop 4))=R from by have h_:=HR.out;rw[HKS.out,join_step (by rw[HV.out.2.1];exact HZ3.out.1) (by rw[HV.out.1,HV.out.2.2];exact HZ3.out.2) (by rw[HV.out.1,HDD.out]),HV.out.1,HV.out.2.2,HDD.out]at h_;exact h_);obtain⟨t2,ht2⟩: ∃z,to_+dv=z:=⟨_,rfl⟩
 rw[ht2]at HRN;have HT2:=zq (show 0<=t2/\t2<=((i+1:Nat):Int)*3276600 from by have h1_:=HTO.out;have h2_:=HDH.out;omega);have hw1:wrap64 (to_+dv)=t2:=by rw[IntWalk.wrap64_in _ (by have h1_:=HTO.out;have h2_:=HDH.out;have h3_:=HIN.out;have h4_:=HC.out;omega)];exact ht2
 clear ht2 HR;go_upto_region 16 with fail;obtain⟨hN,hO,hC,h1,hBD⟩:=pushR (f:=scC17) (k:=2) (e:=66) (w:=w2) 16 ⟨t2,v2⟩ #[.int .i64 t2,.int .i64 v2] rfl rfl (qdy _) HO2.out HB2.out.size (by have h1_:=HIN.out;have h2_:=HC.out;omega) (by omega);have HBW:=zq (show Below w.heap.size w (w2.alloc (.cells #[.int .i64 t2,.int .i64 v2] 66))from HB2.out.alloc HB2.out.size _);have HLN:=zq HO2.out.2;go_wp2_with (with_reducible refine qaZ (o:=⟨some 57,_,_,_,_,_⟩) rfl (.tmp 52) (.tmp 56) 36 rfl w.heap.size 66 (.agg #[.int .i64 0,.int .i64 0]) 2 16 Tryz.underlying36 qbO ?hz (by decide) X (i) x ((q).flatMap scC17) ?hs hO ⟨w2.heap.size,0,none⟩ 1 1 (scC17 ⟨t2,v2⟩) ?hx hN hC h1 hBD ?next)
 all_goals try rfl
 intro A3 c3 w3 ho hg;have HO3:=zq (OwR.snoc HLN.out ho.out);have HB3:=zq (qas HBW.out HBW.out.size hO.out (Nat.le_refl _) rfl hg.out);clear ho hg hN hO hC h1 hBD HBW HLN HO2 HB2;have y0:(4:Int)<=m:=by have h1_:=HM.out;have h2_:=HIN.out;omega
 have y1:4<=m:=by omega
 have y2: ¬d=4:=by have h1_:=HM.out;have h2_:=HIN.out;omega
 have y3:(4:Int)<=d:=by have h1_:=HM.out;omega
 have y4:m<=d:=HM.out.1;have y5:(m:Int)<=d:=by omega
 have y6:4<=d:=by omega
 go_wp2;clear y0 y1 y2 y3 y4 y5 y6;go_roundg (k1-1)
 case measure=>have:=HIN.out;omega
 case rel=>exact⟨i+1,m-4,d-4,_,A3,c3,q++[⟨t2,v2⟩],Y.drop 4,t2,by have:=HIN.out;omega,by have:=HIN.out;omega,by first|go_num|(rw[IntWalk.wrap64_in _ (by have h1_:=HIN.out;have h2_:=HC.out;omega)];go_num),rfl,rfl,by first|rfl|rw[hw1],HRN,zq (HS.out.rest17 (by have h1_:=HM.out;have h2_:=HIN.out;omega)),zq (by have h1_:=HM.out;have h2_:=HIN.out;omega),HT2,HO3,HB3⟩
def qcx:List Sc3->List Sc3->Bool
 |[],[]=>true
 |x::r,y::q=>eqC17 x y &&qcx r q
 |_,_=>false
theorem qbQ (a b:List Sc3):qcx a b=true↔a=b:=by
 induction a generalizing b with
 |nil=>cases b<;>simp[qcx]
 |cons x r ih=>
  cases b with
  |nil=>simp[qcx]
  |cons y q=>simp only[qcx,Bool.and_eq_true,qcA,ih,List.cons.injEq]
def sameM17 (a b:Ma3):Bool:=decide (a.path=b.path) &&((a.ref==b.ref) &&((a.rev==b.rev) &&((a.gap==b.gap) &&qcx a.sects b.sects)))
theorem qfD (a b:Ma3):sameM17 a b=true↔a=b:=by
 obtain⟨x1,x2,x3,x4,x5⟩:=a;obtain⟨y1,y2,y3,y4,y5⟩:=b;unfold sameM17;simp only[Bool.and_eq_true,decide_eq_true_eq,beq_iff_eq,qbQ,Ma3.mk.injEq]
 constructor
 ·rintro⟨h1,h2,h3,h4,h5⟩;exact⟨h2,h3,h1,h5,h4⟩
 ·rintro⟨h2,h3,h1,h5,h4⟩;exact⟨h1,h2,h3,h4,h5⟩
theorem rsame17 (m m':Ma3)(b b':MaA)(w:World)(hm:MaR w m b)(hm':MaR w m' b')(hn:m.path.length<=1048576)(hk:m.sects.length<=1048576):
  Calls Tryz.prog 16 #[.agg (maC m b),.agg (maC m' b')] w fun r w'=>r= .returned (.bool (sameM17 m m'))/\Below w.heap.size w w':=by
 obtain⟨wa,hwa,hbwa,HWA,HBWA,h0,h1⟩:=bx2Z w 38 (maC m b) 38 (maC m' b');have HM:=zq (fun W (hW:Below wa.heap.size wa W)=>(hm.under hbwa).under hW);have HM':=zq (fun W (hW:Below wa.heap.size wa W)=>(hm'.under hbwa).under hW);have H0:=zH h0;have H1:=zH h1;have HNP:=zq hn;have HNK:=zq hk;have a2:wa.cell? ⟨w.heap.size,2,none⟩=some (.slice b.ap m.path.length b.cp):=h0.cell 2;have b2:wa.cell? ⟨w.heap.size+1,2,none⟩=some (.slice b'.ap m'.path.length b'.cp):=h1.cell 2;obtain⟨R,hR⟩:=geZ (sameM17 m m');rw[hR];obtain⟨qp,hqp⟩: ∃q,decide (m.path=m'.path)=q:=⟨_,rfl⟩
 obtain⟨qs,hqs⟩: ∃q,qcx m.sects m'.sects=q:=⟨_,rfl⟩
 have HR:=zq (show(qp &&((m.ref==m'.ref) &&((m.rev==m'.rev) &&((m.gap==m'.gap) &&qs))))=R from by rw[<-hqp,<-hqs];exact hR);have HC:=zq (rsteps_any b.ap b'.ap m.path.length b.cp m'.path.length b'.cp m.path m'.path wa (hm.under hbwa).path (hm'.under hbwa).path hn);rw[hqp]at HC;have HQS:=zq hqs;clear hwa hbwa h0 h1 hm hm' hn hk hR hqp hqs;go_enter Tryz.func16,Tryz.ntmps16;go_upto_region 1 with fail;rw[HWA.out];clear HWA;go_wp2_with fail;refine HC.out.mono ?_;rintro e_ w1 ⟨rfl,hb1⟩;have HB1:=zq hb1;clear HC a2 b2;have a0:w1.cell? ⟨w.heap.size,0,none⟩=some (.int .i64 m.ref):=(H0.out w1 hb1).cell 0;have a1:w1.cell? ⟨w.heap.size,1,none⟩=some (.bool m.rev):=(H0.out w1 hb1).cell 1;have a3:w1.cell? ⟨w.heap.size,3,none⟩=some (.slice b.aq m.sects.length b.cs):=(H0.out w1 hb1).cell 3;have a4:w1.cell? ⟨w.heap.size,4,none⟩=some (.int .i64 m.gap):=(H0.out w1 hb1).cell 4;have b0:w1.cell? ⟨w.heap.size+1,0,none⟩=some (.int .i64 m'.ref):=(H1.out w1 hb1).cell 0;have b1:w1.cell? ⟨w.heap.size+1,1,none⟩=some (.bool m'.rev):=(H1.out w1 hb1).cell 1;have b3:w1.cell? ⟨w.heap.size+1,3,none⟩=some (.slice b'.aq m'.sects.length b'.cs):=(H1.out w1 hb1).cell 3;have b4:w1.cell? ⟨w.heap.size+1,4,none⟩=some (.int .i64 m'.gap):=(H1.out w1 hb1).cell 4;have HBF:=tB HBWA hb1;clear hb1;obtain⟨fa,hfa⟩: ∃z,m.ref=z:=⟨_,rfl⟩
 rw[hfa]at a0 HR;obtain⟨fb,hfb⟩: ∃z,m'.ref=z:=⟨_,rfl⟩
 rw[hfb]at b0 HR;obtain⟨va,hva⟩: ∃z,m.rev=z:=⟨_,rfl⟩
 rw[hva]at a1 HR;obtain⟨vb,hvb⟩: ∃z,m'.rev=z:=⟨_,rfl⟩
 rw[hvb]at b1 HR;obtain⟨ga,hga⟩: ∃z,m.gap=z:=⟨_,rfl⟩
 rw[hga]at a4 HR;obtain⟨gb,hgb⟩: ∃z,m'.gap=z:=⟨_,rfl⟩
 rw[hgb]at b4 HR;obtain⟨na,hna⟩: ∃z,m.sects.length=z:=⟨_,rfl⟩
 rw[hna]at a3;obtain⟨nb,hnb⟩: ∃z,m'.sects.length=z:=⟨_,rfl⟩
 rw[hnb]at b3;have HNA:=zq hna;have HNB:=zq hnb;clear hfa hfb hva hvb hga hgb hna hnb
 cases qp with
 |false=>
  obtain rfl:R=false:=HR.out.symm;go_wp2;go_ret
  exact⟨rfl,HBF.out⟩
 |true=>
 rw[Bool.true_and]at HR;by_cases e0:fa=fb;rotate_left
 ·have g0:(fa !=fb)=true:=by simp[e0]
  have g0':(fa==fb)=false:=by simp[e0]
  obtain rfl:R=false:=by rw[<-HR.out,g0'];rfl
  go_wp2;go_ret
  exact⟨rfl,HBF.out⟩
 have g0:(fa !=fb)=false:=by simp[e0]
 have g0':(fa==fb)=true:=by simp[e0]
 rw[g0',Bool.true_and]at HR;subst e0;by_cases e1:va=vb;rotate_left
 ·have g1:(va !=vb)=true:=by simp[e1]
  have g1':(va==vb)=false:=by simp[e1]
  obtain rfl:R=false:=by rw[<-HR.out,g1'];rfl
  go_wp2;go_ret
  exact⟨rfl,HBF.out⟩
 have g1:(va !=vb)=false:=by simp[e1]
 have g1':(va==vb)=true:=by simp[e1]
 rw[g1',Bool.true_and]at HR;subst e1;by_cases e2:ga=gb;rotate_left
 ·have g2:(ga !=gb)=true:=by simp[e2]
  have g2':(ga==gb)=false:=by simp[e2]
  obtain rfl:R=false:=by rw[<-HR.out,g2'];rfl
  go_wp2;go_ret
  exact⟨rfl,HBF.out⟩
 have g2:(ga !=gb)=false:=by simp[e2]
 have g2':(ga==gb)=true:=by simp[e2]
 rw[g2',Bool.true_and]at HR;subst e2;have HRQ:=zq (show qs=R from HR.out);clear HR;by_cases e3:na=nb;rotate_left
 ·have g3:((na:Int) !=nb)=true:=by simp;omega
  have g3': ¬(na:Int)=nb:=by omega
  obtain rfl:R=false:=by
   rw[<-HRQ.out,<-HQS.out]
   cases hq:qcx m.sects m'.sects with
   |false=>rfl
   |true=>exact absurd (by rw[<-HNA.out,(qbQ _ _).1 hq,HNB.out]) e3
  go_wp2;go_ret
  exact⟨rfl,HBF.out⟩
 subst e3;have g3:((na:Int) !=na)=false:=by simp
 cases va with
 |false=>
  go_wp2;clear a0 a1 a4 b0 b1 b4 g0 g1 g2 g3 g0' g1' g2';go_loopg [6] na (fun kk v6 wl=> ∃i:Nat,i<=na/\na-i<=kk/\v6= .int .i64 i/\Hid (∀j x y,j<i->m.sects[j]?=some x->m'.sects[j]?=some y->x=y)/\Hid (Below wa.heap.size wa wl))
  case atStart=>exact⟨0,by omega,by omega,rfl,zq fun j x y h=>absurd h (by omega),HB1⟩
  clear a3 b3 HB1;obtain⟨i,hi,hik,rfl,HNO,HB⟩:=hrel;obtain⟨k1,hk1⟩: ∃k1,k1=gk:=⟨_,rfl⟩
  subst hk1;obtain⟨wv,hwv⟩: ∃wv,wv=wr:=⟨_,rfl⟩
  subst hwv;have a3:wv.cell? ⟨w.heap.size,3,none⟩=some (.slice b.aq na b.cs):=by rw[<-HNA.out];exact(H0.out wv HB.out).cell 3
  have b3:wv.cell? ⟨w.heap.size+1,3,none⟩=some (.slice b'.aq na b'.cs):=by rw[<-HNB.out];exact(H1.out wv HB.out).cell 3
  by_cases hlt:i<na;rotate_left
  ·have x1: ¬(i:Int)<na:=by omega
   obtain rfl:R=true:=by
    rw[<-HRQ.out,<-HQS.out,qbQ];refine List.ext_getElem? fun j=>?_;by_cases hj:j<na
    ·have h1:=List.getElem?_eq_getElem (l:=m.sects) (i:=j) (by rw[HNA.out];exact hj)
     have h2:=List.getElem?_eq_getElem (l:=m'.sects) (i:=j) (by rw[HNB.out];exact hj);rw[h1,h2,HNO.out j _ _ (by omega) h1 h2]
    ·rw[List.getElem?_eq_none (by rw[HNA.out];omega),List.getElem?_eq_none (by rw[HNB.out];omega)]
   go_wp2;go_ret
   exact⟨rfl,HBWA.out.trans (HB.out.mono HBWA.out.size)⟩
  obtain⟨x,hx⟩: ∃x,m.sects[i]?=some x:=⟨_,List.getElem?_eq_getElem (by rw[HNA.out];exact hlt)⟩
  obtain⟨y,hy⟩: ∃y,m'.sects[i]?=some y:=⟨_,List.getElem?_eq_getElem (by rw[HNB.out];exact hlt)⟩
  have HX:=zq hx;have HY:=zq hy;obtain⟨bk,off,ha_,d0,d1⟩:=(HM.out wv HB.out).sects.sect hx;obtain⟨bm,om,hb_,f0,f1⟩:=(HM'.out wv HB.out).sects.sect hy;rw[ha_]at a3;rw[hb_]at b3;have HIN:=zq (show i<na/\na-i<=k1 from⟨hlt,hik⟩);have x1:(i:Int)<na:=by omega
  have x2:(0:Int)<=i:=by omega
  have q1:=neq_sc17 x y;obtain⟨e,he⟩:=geZ (eqC17 x y);rw[he]at q1;have HEE:=zq he;unfold scA17 at q1;clear hx hy ha_ hb_ he hlt hik hi;obtain⟨xt,xm⟩:=x;obtain⟨yt,ym⟩:=y;dsimp only at d0 d1 f0 f1 q1;go_upto_region 7 with fail
  cases e with
  |false=>
   obtain rfl:R=false:=by
    rw[<-HRQ.out,<-HQS.out]
    cases hq:qcx m.sects m'.sects with
    |false=>rfl
    |true=>
     have h1:=(qbQ _ _).1 hq;have h2:=HX.out;rw[h1,HY.out]at h2;injection h2 with h2
     have h3:=HEE.out;rw[h2,(qcA _ _).2 rfl]at h3
     cases h3
   go_quiet (fail);go_wp2;go_ret
   exact⟨rfl,HBWA.out.trans ((qaa HB.out _).mono HBWA.out.size)⟩
  |true=>
   have HXY:=zq ((qcA _ _).1 HEE.out);go_quiet (fail);obtain⟨wd,hwd⟩:=geZ (wv.drewN nq);rw[hwd];have HB4:=zq (show Below wa.heap.size wa wd from by rw[<-hwd];exact qaa HB.out _);clear hwd HB a3 b3 d0 d1 f0 f1 q1 x1 x2;go_wp2;go_roundg (k1-1)
   case measure=>have:=HIN.out;omega
   case rel=>
    refine⟨i+1,by have:=HIN.out;omega,by have:=HIN.out;omega,by first|go_num|(rw[IntWalk.wrap64_in _ (by have h1_:=HIN.out;have h2_:=HNK.out;have h3_:=HNA.out;omega)];go_num),zq fun j x' y' hj hx hy=>?_,HB4⟩;by_cases hji:j=i
    ·subst hji;rw[HX.out]at hx;rw[HY.out]at hy;injection hx with hx;injection hy with hy;rw[<-hx,<-hy];exact HXY.out
    ·exact HNO.out j x' y' (by omega) hx hy
 |true=>
  go_wp2;clear a0 a1 a4 b0 b1 b4 g0 g1 g2 g3 g0' g1' g2';go_loopg [6] na (fun kk v6 wl=> ∃i:Nat,i<=na/\na-i<=kk/\v6= .int .i64 i/\Hid (∀j x y,j<i->m.sects[j]?=some x->m'.sects[j]?=some y->x=y)/\Hid (Below wa.heap.size wa wl))
  case atStart=>exact⟨0,by omega,by omega,rfl,zq fun j x y h=>absurd h (by omega),HB1⟩
  clear a3 b3 HB1;obtain⟨i,hi,hik,rfl,HNO,HB⟩:=hrel;obtain⟨k1,hk1⟩: ∃k1,k1=gk:=⟨_,rfl⟩
  subst hk1;obtain⟨wv,hwv⟩: ∃wv,wv=wr:=⟨_,rfl⟩
  subst hwv;have a3:wv.cell? ⟨w.heap.size,3,none⟩=some (.slice b.aq na b.cs):=by rw[<-HNA.out];exact(H0.out wv HB.out).cell 3
  have b3:wv.cell? ⟨w.heap.size+1,3,none⟩=some (.slice b'.aq na b'.cs):=by rw[<-HNB.out];exact(H1.out wv HB.out).cell 3
  by_cases hlt:i<na;rotate_left
  ·have x1: ¬(i:Int)<na:=by omega
   obtain rfl:R=true:=by
    rw[<-HRQ.out,<-HQS.out,qbQ];refine List.ext_getElem? fun j=>?_;by_cases hj:j<na
    ·have h1:=List.getElem?_eq_getElem (l:=m.sects) (i:=j) (by rw[HNA.out];exact hj)
     have h2:=List.getElem?_eq_getElem (l:=m'.sects) (i:=j) (by rw[HNB.out];exact hj);rw[h1,h2,HNO.out j _ _ (by omega) h1 h2]
    ·rw[List.getElem?_eq_none (by rw[HNA.out];omega),List.getElem?_eq_none (by rw[HNB.out];omega)]
   go_wp2;go_ret
   exact⟨rfl,HBWA.out.trans (HB.out.mono HBWA.out.size)⟩
  obtain⟨x,hx⟩: ∃x,m.sects[i]?=some x:=⟨_,List.getElem?_eq_getElem (by rw[HNA.out];exact hlt)⟩
  obtain⟨y,hy⟩: ∃y,m'.sects[i]?=some y:=⟨_,List.getElem?_eq_getElem (by rw[HNB.out];exact hlt)⟩
  have HX:=zq hx;have HY:=zq hy;obtain⟨bk,off,ha_,d0,d1⟩:=(HM.out wv HB.out).sects.sect hx;obtain⟨bm,om,hb_,f0,f1⟩:=(HM'.out wv HB.out).sects.sect hy;rw[ha_]at a3;rw[hb_]at b3;have HIN:=zq (show i<na/\na-i<=k1 from⟨hlt,hik⟩);have x1:(i:Int)<na:=by omega
  have x2:(0:Int)<=i:=by omega
  have q1:=neq_sc17 x y;obtain⟨e,he⟩:=geZ (eqC17 x y);rw[he]at q1;have HEE:=zq he;unfold scA17 at q1;clear hx hy ha_ hb_ he hlt hik hi;obtain⟨xt,xm⟩:=x;obtain⟨yt,ym⟩:=y;dsimp only at d0 d1 f0 f1 q1;go_upto_region 7 with fail
  cases e with
  |false=>
   obtain rfl:R=false:=by
    rw[<-HRQ.out,<-HQS.out]
    cases hq:qcx m.sects m'.sects with
    |false=>rfl
    |true=>
     have h1:=(qbQ _ _).1 hq;have h2:=HX.out;rw[h1,HY.out]at h2;injection h2 with h2
     have h3:=HEE.out;rw[h2,(qcA _ _).2 rfl]at h3
     cases h3
   go_quiet (fail);go_wp2;go_ret
   exact⟨rfl,HBWA.out.trans ((qaa HB.out _).mono HBWA.out.size)⟩
  |true=>
   have HXY:=zq ((qcA _ _).1 HEE.out);go_quiet (fail);obtain⟨wd,hwd⟩:=geZ (wv.drewN nq);rw[hwd];have HB4:=zq (show Below wa.heap.size wa wd from by rw[<-hwd];exact qaa HB.out _);clear hwd HB a3 b3 d0 d1 f0 f1 q1 x1 x2;go_wp2;go_roundg (k1-1)
   case measure=>have:=HIN.out;omega
   case rel=>
    refine⟨i+1,by have:=HIN.out;omega,by have:=HIN.out;omega,by first|go_num|(rw[IntWalk.wrap64_in _ (by have h1_:=HIN.out;have h2_:=HNK.out;have h3_:=HNA.out;omega)];go_num),zq fun j x' y' hj hx hy=>?_,HB4⟩;by_cases hji:j=i
    ·subst hji;rw[HX.out]at hx;rw[HY.out]at hy;injection hx with hx;injection hy with hy;rw[<-hx,<-hy];exact HXY.out
    ·exact HNO.out j x' y' (by omega) hx hy
end
section
open Go.RowKit
open Go.Great
def qaq (n a b:Int):Bool:=decide (a<=n) &&decide (n<=b)
theorem qc9 (t:Tp3)(n:Int):edgeB t n=qaq n 0 ((t.edges.length:Int)-1):=by
 unfold edgeB qaq;rw[Bool.eq_iff_iff];simp only[Bool.and_eq_true,decide_eq_true_eq];omega
def connB (t:Tp3)(j:Jt3):Bool:=endB t j.a &&endB t j.b
def lvS (e:Int×Int):St3:=⟨e.1,e.2==0⟩
def enS (e:Int×Int):St3:=⟨e.1,e.2==1⟩
def ltS (a b:St3):Bool:=decide (a.edge<b.edge)||((a.edge==b.edge) &&b.rev)
def cmpS (a b:St3):Int:=if eqS a b=true then 0 else if ltS a b=true then -1 else 1
def jtA (j:Jt3):Array Value:=#[.int .i64 j.a.1,.int .i64 j.a.2,.int .i64 j.b.1,.int .i64 j.b.2]
theorem qbH (n a b:Int)(w:World):
  Calls Tryz.prog 101 #[.int .i64 n,.int .i64 a,.int .i64 b] w fun e w'=>e= .returned (.bool (qaq n a b))/\w'=w:=by
 unfold qaq;by_cases h1:a<=n
 ·by_cases h2:n<=b
  ·rw[decide_eq_true h1,decide_eq_true h2]
   go_enter Tryz.func101,Tryz.ntmps101;go_wp2;go_ret
   exact⟨rfl,rfl⟩
  ·rw[decide_eq_true h1,decide_eq_false h2]
   go_enter Tryz.func101,Tryz.ntmps101;go_wp2;go_ret
   exact⟨rfl,rfl⟩
 ·rw[decide_eq_false h1,Bool.false_and]
  go_enter Tryz.func101,Tryz.ntmps101;go_wp2;go_ret
  exact⟨rfl,rfl⟩
theorem qeA (t:Tp3)(a:TpA)(n:Int)(w:World)(hl:t.edges.length<=100):
  Calls Tryz.prog 175 #[.agg (tpC t a),.int .i64 n] w fun e w'=>e= .returned (.bool (edgeB t n))/\Below w.heap.size w w':=by
 obtain⟨wa,hwa,hbwa,HWA,HBWA,h0⟩:=bx1Z w 27 (tpC t a);have c0:wa.cell? ⟨w.heap.size,0,none⟩=some (.slice a.ae t.edges.length a.ce):=(h0).cell 0;rw[qc9];clear hwa hbwa h0;unfold tpC at*;generalize t.edges.length=m at*;have H:=zq (qbH n 0 ((m:Int)-1) wa);generalize qaq n 0 ((m:Int)-1)=b at*;have r1:wrap64 ((m:Int)-1)=(m:Int)-1:=IntWalk.wrap64_in _ (by omega);go_enter Tryz.func175,Tryz.ntmps175;go_upto_region 1 with fail;rw[HWA.out];clear HWA;go_wp2_with fail;refine H.out.mono ?_;rintro e w1 ⟨rfl,rfl⟩;go_wp2;go_ret
 exact⟨rfl,HBWA.out⟩
theorem otend_any (t:Tp3)(a:TpA)(x:Int×Int)(w:World)(hl:t.edges.length<=100):
  Calls Tryz.prog 205 #[.agg (tpC t a),.agg (endA x)] w fun e w'=>e= .returned (.bool (endB t x))/\Below w.heap.size w w':=by
 obtain⟨wa,hwa,hbwa,HWA,HBWA,h0,h1⟩:=bx2Z w 27 (tpC t a) 147 (endA x);have c0:wa.cell? ⟨w.heap.size+1,0,none⟩=some (.int .i64 x.1):=h1.cell 0;have H:=zq (qeA t a x.1 wa hl);have HP:=zq h0;have HC:=zH h1;have he:endB t x=(edgeB t x.1 &&qaq x.2 0 1):=by
  unfold endB
  congr 1
  unfold qaq;rw[Bool.eq_iff_iff];simp only[Bool.or_eq_true,Bool.and_eq_true,decide_eq_true_eq,beq_iff_eq];omega
 rw[he];clear hwa hbwa h0 h1 he hl;generalize edgeB t x.1=b at*;obtain⟨x1,x2⟩:=x;unfold endA at*;dsimp only at*;have HWI:=zq (fun W=>qbH x2 0 1 W);generalize qaq x2 0 1=b2 at*
 cases b with
 |false=>
  rw[Bool.false_and];go_enter Tryz.func205,Tryz.ntmps205;go_upto_region 1 with fail;rw[HWA.out];clear HWA;go_wp2_with (with_reducible refine ldZ 5 HP.out ?_);refine H.out.mono ?_;rintro e w1 ⟨rfl,hb1⟩;have c1:w1.cell? ⟨w.heap.size+1,1,none⟩=some (.int .i64 x2):=(HC.out w1 hb1).cell 1;have HB1:=tB HBWA hb1;clear hb1 HC H HP HBWA c0;go_wp2;go_ret
  exact⟨by first|rfl|simp,HB1.out⟩
 |true=>
  rw[Bool.true_and];go_enter Tryz.func205,Tryz.ntmps205;go_upto_region 1 with fail;rw[HWA.out];clear HWA;go_wp2_with (with_reducible refine ldZ 5 HP.out ?_);refine H.out.mono ?_;rintro e w1 ⟨rfl,hb1⟩;have c1:w1.cell? ⟨w.heap.size+1,1,none⟩=some (.int .i64 x2):=(HC.out w1 hb1).cell 1;have HB1:=tB HBWA hb1;clear hb1 HC H HP HBWA c0;go_wp2_with fail;refine(HWI.out _).mono ?_;rintro e w2 ⟨rfl,rfl⟩;go_wp2;go_ret
  exact⟨by first|rfl|simp,HB1.out⟩
theorem qgg (t:Tp3)(a:TpA)(j:Jt3)(w:World)(hl:t.edges.length<=100):
  Calls Tryz.prog 170 #[.agg (tpC t a),.agg (jtA j)] w fun e w'=>e= .returned (.bool (connB t j))/\Below w.heap.size w w':=by
 obtain⟨wa,hwa,hbwa,HWA,HBWA,h0,h1⟩:=bx2Z w 27 (tpC t a) 149 (jtA j);have c0:wa.cell? ⟨w.heap.size+1,0,none⟩=some (.int .i64 j.a.1):=h1.cell 0;have c1:wa.cell? ⟨w.heap.size+1,1,none⟩=some (.int .i64 j.a.2):=h1.cell 1;have H:=zq (fun W=>otend_any t a j.a W hl);have H2:=zq (fun W=>otend_any t a j.b W hl);have HP:=zq h0;have HC:=zH h1;have HD:=zH h0;unfold connB;clear hwa hbwa h0 h1 hl;generalize endB t j.a=b at*;generalize endB t j.b=b2 at*;obtain⟨⟨j1,j2⟩,⟨j3,j4⟩⟩:=j;unfold jtA endA at*;dsimp only at*
 cases b with
 |false=>
  rw[Bool.false_and];go_enter Tryz.func170,Tryz.ntmps170;go_upto_region 1 with fail;rw[HWA.out];clear HWA;go_wp2_with (with_reducible refine ldZ 5 HP.out ?_);refine(H.out _).mono ?_;rintro e w1 ⟨rfl,hb1⟩;have d0:w1.cell? ⟨w.heap.size+1,2,none⟩=some (.int .i64 j3):=(HC.out w1 hb1).cell 2;have d1:w1.cell? ⟨w.heap.size+1,3,none⟩=some (.int .i64 j4):=(HC.out w1 hb1).cell 3;have HE:=zq (HD.out w1 hb1);have HB1:=tB HBWA hb1;clear hb1 HC HD H HP HBWA c0 c1;go_wp2;go_ret
  exact⟨by first|rfl|simp,HB1.out⟩
 |true=>
  rw[Bool.true_and];go_enter Tryz.func170,Tryz.ntmps170;go_upto_region 1 with fail;rw[HWA.out];clear HWA;go_wp2_with (with_reducible refine ldZ 5 HP.out ?_);refine(H.out _).mono ?_;rintro e w1 ⟨rfl,hb1⟩;have d0:w1.cell? ⟨w.heap.size+1,2,none⟩=some (.int .i64 j3):=(HC.out w1 hb1).cell 2;have d1:w1.cell? ⟨w.heap.size+1,3,none⟩=some (.int .i64 j4):=(HC.out w1 hb1).cell 3;have HE:=zq (HD.out w1 hb1);have HB1:=tB HBWA hb1;clear hb1 HC HD H HP HBWA c0 c1;go_wp2_with ((with_reducible refine qbx 10 ?_);refine qaB (o:=⟨some 10,_,_,_,_,_⟩) 27 _ rfl (by kernel_rfl) (w.heap.size) rfl 27 (tpC t a) (0,0) _ (HE.out).raw11 Tryz.underlying27 rfl (by kernel_rfl) ?_);refine(H2.out _).mono ?_;rintro e w2 ⟨rfl,hb2⟩;have HB2:=tB HB1 hb2;clear hb2 HE d0 d1;go_wp2;go_ret
  exact⟨by first|rfl|simp,HB2.out⟩
theorem otlv_any (x:Int×Int)(w:World):
  Calls Tryz.prog 171 #[.agg (endA x)] w fun e w'=>e= .returned (.agg (stA13 (lvS x)))/\Below w.heap.size w w':=by
 obtain⟨wa,hwa,hbwa,HWA,HBWA,h0,h1⟩:=bx2Z w 147 (endA x) 30 #[.int .i64 0,.bool false];have c0:wa.cell? ⟨w.heap.size,0,none⟩=some (.int .i64 x.1):=h0.cell 0;have c1:wa.cell? ⟨w.heap.size,1,none⟩=some (.int .i64 x.2):=h0.cell 1;have HZ:=zq h1;clear hwa hbwa h0 h1;obtain⟨n,r⟩:=x;unfold endA at*;unfold stA13 lvS;dsimp only at*;obtain⟨q,hq⟩:=geZ ((r==0));rw[hq];have HR:=zq (qab HZ.out #[.int .i64 n,.bool q]);have HBF:=zq (qac (g:=w.heap.size+1) HBWA.out (by omega) #[.int .i64 n,.bool q]);go_enter Tryz.func171,Tryz.ntmps171;go_upto_region 1 with fail;rw[HWA.out];clear HWA HBWA;go_wp2_with (with_reducible refine stZ #[.int .i64 n,.bool q] HZ.out ?_);refine roZ HR.out ?_;exact⟨rfl,HBF.out⟩
theorem oten_any (x:Int×Int)(w:World):
  Calls Tryz.prog 172 #[.agg (endA x)] w fun e w'=>e= .returned (.agg (stA13 (enS x)))/\Below w.heap.size w w':=by
 obtain⟨wa,hwa,hbwa,HWA,HBWA,h0,h1⟩:=bx2Z w 147 (endA x) 30 #[.int .i64 0,.bool false];have c0:wa.cell? ⟨w.heap.size,0,none⟩=some (.int .i64 x.1):=h0.cell 0;have c1:wa.cell? ⟨w.heap.size,1,none⟩=some (.int .i64 x.2):=h0.cell 1;have HZ:=zq h1;clear hwa hbwa h0 h1;obtain⟨n,r⟩:=x;unfold endA at*;unfold stA13 enS;dsimp only at*;obtain⟨q,hq⟩:=geZ ((r==1));rw[hq];have HR:=zq (qab HZ.out #[.int .i64 n,.bool q]);have HBF:=zq (qac (g:=w.heap.size+1) HBWA.out (by omega) #[.int .i64 n,.bool q]);go_enter Tryz.func172,Tryz.ntmps172;go_upto_region 1 with fail;rw[HWA.out];clear HWA HBWA;go_wp2_with (with_reducible refine stZ #[.int .i64 n,.bool q] HZ.out ?_);refine roZ HR.out ?_;exact⟨rfl,HBF.out⟩
theorem otcmp_any (x y:St3)(w:World):
  Calls Tryz.prog 97 #[.agg (stA13 x),.agg (stA13 y)] w fun e w'=>e= .returned (.int .i64 (cmpS x y))/\w'=(w.alloc (.cells (stA13 x) 30)).alloc (.cells (stA13 y) 30):=by
 obtain⟨wa,hwa,hbwa,HWA,HBWA,h0,h1⟩:=bx2Z w 30 (stA13 x) 30 (stA13 y);have c0:wa.cell? ⟨w.heap.size,0,none⟩=some (.int .i64 x.edge):=h0.cell 0;have c1:wa.cell? ⟨w.heap.size,1,none⟩=some (.bool x.rev):=h0.cell 1;have d0:wa.cell? ⟨w.heap.size+1,0,none⟩=some (.int .i64 y.edge):=h1.cell 0;have d1:wa.cell? ⟨w.heap.size+1,1,none⟩=some (.bool y.rev):=h1.cell 1;have he:=eql_st13 x y;unfold cmpS ltS;generalize eqS x y=b at*;obtain⟨x1,x2⟩:=x;obtain⟨y1,y2⟩:=y;unfold stA13 at*;dsimp only at*;clear hwa hbwa h0 h1 HBWA
 cases b with
 |true=>
  rw[if_pos rfl];go_enter Tryz.func97,Tryz.ntmps97;go_upto_region 1 with fail;rw[HWA.out];go_wp2;go_ret
  exact⟨by first|rfl|simp,HWA.out.symm⟩
 |false=>
  rw[if_neg (by decide)];by_cases h1:x1<y1
  ·rw[decide_eq_true h1,Bool.true_or,if_pos rfl]
   go_enter Tryz.func97,Tryz.ntmps97;go_upto_region 1 with fail;rw[HWA.out];go_wp2;go_ret
   exact⟨by first|rfl|simp,HWA.out.symm⟩
  ·rw[decide_eq_false h1,Bool.false_or]
   by_cases h2:x1=y1
   ·subst h2
    rw[beq_self_eq_true,Bool.true_and]
    cases y2 with
    |true=>
     rw[if_pos rfl];go_enter Tryz.func97,Tryz.ntmps97;go_upto_region 1 with fail;rw[HWA.out];go_wp2;go_ret
     exact⟨by first|rfl|simp,HWA.out.symm⟩
    |false=>
     rw[if_neg (by decide)];go_enter Tryz.func97,Tryz.ntmps97;go_upto_region 1 with fail;rw[HWA.out];go_wp2;go_ret
     exact⟨by first|rfl|simp,HWA.out.symm⟩
   ·have h3:(x1==y1)=false:=by simp[h2]
    rw[h3,Bool.false_and,if_neg (by decide)];go_enter Tryz.func97,Tryz.ntmps97;go_upto_region 1 with fail;rw[HWA.out];go_wp2;go_ret
    exact⟨by first|rfl|simp,HWA.out.symm⟩
end
end Go.Proofs.YtahadmeilajdgaaGreatDoor
