/-
  Our own text, joined.
-/
import Derived.Test.YtahadmeilajdgaaGreatDoorMrav
import Derived.BigQuiet
import Derived.IntWalk
import Derived.Test.YtahadmeilajdgaaGreatDoorMraa
namespace Go.Proofs.YtahadmeilajdgaaGreatDoor
set_option maxRecDepth 100000
set_option maxHeartbeats 80000000
section
open Go.RowKit
open Go.Great
def rsJ (acc:List Sc3)(r:List Sc3×List Int×Int):List Sc3×List Int×Int:=if r.2.2≠0 then([],[],r.2.2)else(acc++r.1,r.2.1,0)
def rsecE (V:List Int)(rev:Bool):List Sc3×Int×Int:=
 if V.getD 0 0≠dirB rev then([],0,20)
 else if 7<V.getD 4 0 then([],0,2)
 else
  let s:=qaf (V.getD 1 0) (V.getD 4 0+1).toNat 0 (V.drop 5)
  if s.2.2≠0 then([],0,s.2.2)else(s.1,(gapE s.2.1 (V.getD 1 0)).1,(gapE s.2.1 (V.getD 1 0)).2)
theorem rs_nil17 {u to_:Int}{k:Nat}{V:List Int}{T:List Sc3×List Int×Int}(h:qaf u k to_ V=T)(hT:T.2.2≠0):T.1=[]/\T.2.1=[]:=by
 subst h
 cases k with
 |zero=>exact absurd rfl hT
 |succ k=>
  rw[qaf]at hT⊢;split
  ·exact⟨rfl,rfl⟩
  ·rename_i h1
   rw[if_neg h1]at hT;split
   ·exact⟨rfl,rfl⟩
   ·rename_i h2
    rw[if_neg h2]at hT;split
    ·exact⟨rfl,rfl⟩
    ·rename_i h3
     rw[if_neg h3]at hT;dsimp only at hT⊢;split
     ·exact⟨rfl,rfl⟩
     ·rename_i h4
      rw[if_neg h4]at hT;exact absurd rfl hT
theorem qgu {u:Int}(h:0<=u/\u<=2):qaS u=1\/qaS u=10\/qaS u=100:=by
 unfold qaS;by_cases h0:u=0
 ·rw[if_pos h0];exact .inl rfl
 ·by_cases h1:u=1
  ·rw[if_neg h0,if_pos h1];exact .inr (.inl rfl)
  ·rw[if_neg h0,if_neg h1,if_pos (by omega)];exact .inr (.inr rfl)
theorem dm_at17 {x u:Int}(hu:0<=u/\u<=2)(hx:0<=x):dmOf x u=if 32766<x then(0,7)else(x*qaS u,0):=by
 have h:=qgu hu;unfold dmOf;rw[if_neg (by omega)];by_cases h2:32766<x
 ·rw[if_pos (Or.inr h2),if_pos h2]
 ·rw[if_neg (by omega),if_neg h2]
theorem secs_step17 {u to_:Int}{k:Nat}{V U:List Int}(acc:List Sc3)(hu:0<=u/\u<=2)(h:SecSh V U):
  rsJ acc (qaf u (k+1) to_ V)=if(qb2 V).2.2≠0 then([],[],(qb2 V).2.2)else rsJ (acc++[⟨to_+(qb2 V).1*qaS u,(qb2 V).2.1⟩]) (qaf u k (to_+(qb2 V).1*qaS u) U):=by
 obtain⟨x,q,hx,hV⟩:=h;have hd:=dm_at17 hu hx.1
 rcases hV with⟨rfl,rfl⟩|⟨rfl,a,b,ha,rfl⟩
 ·have e1:qb2 (x::0::U)=(0,0,20):=if_pos (by simp)
  rw[e1,qaf,if_pos (by simp),if_pos (by simp)]
  rfl
 ·have e1:qb2 (x::1::a::b::U)=if a<1\/1000<a\/x=0 then(0,0,20)else if 32766<x then(0,0,7)else(x,a,0):=rfl
  rw[qaf,if_neg (by simp)];show rsJ acc (if a<1\/1000<a\/x=0 then([],[],20)else if(dmOf x u).2≠0 then([],[],7)else
   let r:=qaf u k (to_+(dmOf x u).1) U
   if r.2.2≠0 then([],[],r.2.2)else(⟨to_+(dmOf x u).1,a⟩::r.1,r.2.1,0))=_
  by_cases h1:a<1\/1000<a\/x=0
  ·rw[if_pos h1]at e1⊢
   rw[e1]
   rfl
  ·rw[if_neg h1]at e1⊢
   by_cases h2:32766<x
   ·rw[if_pos h2]at e1 hd
    rw[e1,hd]
    rfl
   ·rw[if_neg h2]at e1 hd
    rw[e1,hd];dsimp only;rw[if_neg (show¬((0:Int)≠0)from fun h=>h rfl),if_neg (show¬((0:Int)≠0)from fun h=>h rfl)];generalize qaf u k (to_+x*qaS u) U=r;obtain⟨r1,r2,r3⟩:=r;unfold rsJ;dsimp only;by_cases h3:r3=0
    ·simp[h3]
    ·simp[h3]
theorem sec_rng17 {V U:List Int}(h:SecSh V U):0<=(qb2 V).1/\(qb2 V).1<=32766:=by
 obtain⟨x,q,hx,hV⟩:=h;unfold qb2;split
 ·exact⟨Int.le_refl _,by decide⟩
 ·split
  ·exact⟨Int.le_refl _,by decide⟩
  ·split
   ·exact⟨Int.le_refl _,by decide⟩
   ·rename_i h1 h2 h3
    rcases hV with⟨rfl,rfl⟩|⟨rfl,a,b,ha,rfl⟩
    ·exact⟨hx.1,by simpa using h3⟩
    ·exact⟨hx.1,by simpa using h3⟩
theorem gap_at17 {u:Int}{V:List Int}(hu:0<=u/\u<=2)(h:GapSh V):gapE V u=((qeT V).1*qaS u,(qeT V).2)/\0<=(qeT V).1/\(qeT V).1<=32766:=by
 have key: ∀(p:Int) (S:List Int),(0<=p/\p<=1)->(p=1-> ∃g z S2,(0<=g/\g<=32767)/\S=g::z::S2)->
   (if p≠1 then((0,0):Int×Int)else if(dmOf (S.getD 0 0) u).2≠0 then(0,7)else((dmOf (S.getD 0 0) u).1,0))=
    ((if p=0 then((0,0):Int×Int)else if 32766<S.getD 0 0 then(0,7)else(S.getD 0 0,0)).1*qaS u,(if p=0 then((0,0):Int×Int)else if 32766<S.getD 0 0 then(0,7)else(S.getD 0 0,0)).2)/\
   0<=(if p=0 then((0,0):Int×Int)else if 32766<S.getD 0 0 then(0,7)else(S.getD 0 0,0)).1/\(if p=0 then((0,0):Int×Int)else if 32766<S.getD 0 0 then(0,7)else(S.getD 0 0,0)).1<=32766:=by
  intro p S hp hS;by_cases h0:p=0
  ·subst h0
   rw[if_pos (by decide),if_pos rfl];exact⟨by simp,Int.le_refl _,by decide⟩
  ·obtain rfl:p=1:=by omega
   obtain⟨g,z,S2,hg,rfl⟩:=hS rfl;have hd:=dm_at17 hu hg.1;show(if(1:Int)≠1 then((0,0):Int×Int)else if(dmOf g u).2≠0 then(0,7)else((dmOf g u).1,0))=
    ((if(1:Int)=0 then((0,0):Int×Int)else if 32766<g then(0,7)else(g,0)).1*qaS u,(if(1:Int)=0 then((0,0):Int×Int)else if 32766<g then(0,7)else(g,0)).2)/\0<=(if(1:Int)=0 then((0,0):Int×Int)else if 32766<g then(0,7)else(g,0)).1/\(if(1:Int)=0 then((0,0):Int×Int)else if 32766<g then(0,7)else(g,0)).1<=32766
   have a1: ∀(α:Type) (x y:α),(if(1:Int)≠1 then x else y)=y:=fun _ _ _=>if_neg (by decide);have a2: ∀(α:Type) (x y:α),(if(1:Int)=0 then x else y)=y:=fun _ _ _=>if_neg (by decide);rw[a1,a2,hd];by_cases h2:32766<g
   ·rw[if_pos h2,if_pos h2]
    exact⟨by simp,Int.le_refl _,by show(0:Int)<=32766;decide⟩
   ·rw[if_neg h2,if_neg h2]
    exact⟨by simp,hg.1,by show g<=32766;omega⟩
 obtain⟨q,p,S,hp,hV,hS⟩:=h
 rcases hV with⟨rfl,rfl⟩|⟨rfl,a,b,rfl⟩
 ·exact key p S hp hS
 ·exact key p S hp hS
theorem oprdsecs_any (id:Int)(A:Option Addr)(n c:Nat)(V:List Int)(rev:Bool)(w:World)(hV:SlI w.heap.size w A n c V)(hn:n<=10000)(hok:qay (15,V)=true):
  Calls Tryz.prog 64 #[.agg #[.int .i64 id,.slice A n c],.bool rev] w fun r w'=> ∃(B:Option Addr) (m d:Nat) (G:Int),r= .returned (.tuple #[.slice B m d,.int .i64 G,.int .i64 (rsecE V rev).2.2])/\((rsecE V rev).2.2=0->G=(rsecE V rev).2.1/\OwR scC17 2 66 w.heap.size w' B m d (rsecE V rev).1)/\m<=8/\Below w.heap.size w w':=by
 obtain⟨R,hR⟩:=geZ (rsecE V rev);rw[hR];obtain⟨vd,u,v2,v3,nn,R0,R1,rfl,hd,hu,hn4,hrep,hgap⟩:=qda hok;have HR:=zq hR;obtain⟨N,hN⟩: ∃N:Nat,nn=(N:Int):=⟨nn.toNat,by omega⟩
 subst hN;rw[show((N:Int).toNat+1)=N+1 by omega]at hrep;have hSO:SlO inC 1 w A n c (vd::u::v2::v3::(N:Int)::R0):=⟨hV.len,by rw[qcV];exact hV.sl⟩
 have hVc:=hV.cap;clear hR hok hV hd;obtain⟨wa,hwa,hbwa,HWA,HBWA,h0⟩:=bx1Z w 98 #[.int .i64 id,.slice A n c];have p1:wa.cell? ⟨w.heap.size,1,none⟩=some (.slice A n c):=h0.cell 1;obtain⟨wb,hwb⟩: ∃u,wa.alloc (.cells #[.slice A n c] 172)=u:=⟨_,rfl⟩
 have hbb:Below wa.heap.size wa wb:=by rw[<-hwb];exact bA
 have hHb:Has wb wa.heap.size 172 #[.slice A n c]:=by rw[<-hwb];exact Has.made _ _ _
 obtain⟨g,hg⟩:=geZ (wa.heap.size);rw[hg]at hHb;have HN0:=zq (show NumR wa wb g (vd::u::v2::v3::(N:Int)::R0)from⟨A,n,c,hHb,fun W' hW=>(hSO.under hbwa).under hW,hVc,hn⟩);have HG:=zq (show wa.heap.size<=g from Nat.le_of_eq hg);have HB0:=zq hbb;have HWB:=zq hwb;have HGQ:=zq hg;have HSH:=zq (show(0<=u/\u<=2)/\(0<=(N:Int)/\(N:Int)<=31)from⟨hu,hn4⟩);have HRP:=zq hrep;have HGP:=zq hgap;clear hwa hbwa h0 hwb hbb hHb hg hSO hVc hn hu hn4 hrep hgap;go_enter Tryz.func64,Tryz.ntmps64;go_upto_region 1 with fail;rw[HWA.out];clear HWA;go_upto_region 2 with fail;rw[HWB.out];simp only[HGQ.out];clear HWB HGQ p1;go_wp2_with fail;refine(qat vd (u::v2::v3::(N:Int)::R0) g wa wb HN0.out HB0.out HG.out).mono ?_;rintro e_ w1 ⟨rfl,hn_,hg_⟩;have HN1:=zq hn_;have HB1:=zq (qan HB0.out hg_ HB0.out.size HG.out);clear hn_ hg_;obtain⟨DR,hDR⟩: ∃d,dirB rev=d:=⟨_,rfl⟩
 have HDI:=zq (fun W=>qfs rev W);rw[hDR]at HDI;have HDR:=zq hDR;clear hDR;go_wp2_with fail;refine(HDI.out w1).mono ?_;rintro e_ w1' ⟨rfl,hq1⟩;subst hq1;by_cases z:vd=DR;rotate_left
 ·have z1:(vd !=DR)=true:=by simp[z]
  have HF:=zq (show R=([],0,20)from by rw[<-HR.out];exact if_pos (by rw[HDR.out];exact z));clear z;go_wp2;go_ret3
  exact⟨none,0,0,0,by rw[HF.out];rfl,fun h_=>by rw[HF.out]at h_;exact absurd h_ (by decide),by omega,HBWA.out.trans (HB1.out.mono HBWA.out.size)⟩
 have z1:(vd !=DR)=false:=by simp[z]
 have HR:=zq (show(if 7<(N:Int)then(([],0,2):List Sc3×Int×Int)else let s:=qaf u ((N:Int)+1).toNat 0 R0;if s.2.2≠0 then([],0,s.2.2)else(s.1,(gapE s.2.1 u).1,(gapE s.2.1 u).2))=R from by rw[<-HR.out];exact(if_neg (by rw[HDR.out];exact fun h_=>h_ z)).symm);clear z HDI HDR;go_upto_region 4 with fail;clear z1;go_wp2_with fail;refine(qat u (v2::v3::(N:Int)::R0) g wa w1' HN1.out HB1.out HG.out).mono ?_;rintro e_ w2 ⟨rfl,hn_,hg_⟩;have HN2:=zq hn_;have HB2:=zq (qan HB1.out hg_ HB1.out.size HG.out);clear hn_ hg_;have HUN:=zq (fun W=>unit_any u W);obtain⟨un,hun⟩: ∃x,qaS u=x:=⟨_,rfl⟩
 rw[hun]at HUN;have HU:=zq (show un=1\/un=10\/un=100 from by rw[<-hun];exact qgu HSH.out.1);have HUE:=zq hun;clear hun;go_wp2_with fail;refine(HUN.out w2).mono ?_;rintro e_ w2' ⟨rfl,hq2⟩;subst hq2;clear HUN;go_wp2_with fail;refine(qbP (v2::v3::(N:Int)::R0) 2 (by simp) g wa w2 HN2.out HB2.out HG.out).mono ?_;rintro e_ w3 ⟨rfl,hn_,hg_⟩;have HN3:=zq (show NumR wa w3 g ((N:Int)::R0)from hn_);have HB3:=zq (qan HB2.out hg_ HB2.out.size HG.out);clear hn_ hg_ HN1 HB1 HN2 HB2 HN0 HB0;go_wp2_with fail;refine(qat (N:Int) R0 g wa w3 HN3.out HB3.out HG.out).mono ?_;rintro e_ w4 ⟨rfl,hn_,hg_⟩;have HN4:=zq hn_;have HB4:=zq (qan HB3.out hg_ HB3.out.size HG.out);clear hn_ hg_;by_cases z:7<N
 ·have z1:decide ((N:Int)≥8)=true:=decide_eq_true (by omega)
  have z2:decide ((8:Int)<=N)=true:=decide_eq_true (by omega);have z3:(8:Int)<=N:=by omega
  have z4:8<=N:=by omega
  have HF:=zq (HR.out.symm.trans (if_pos (by omega)));clear z;go_wp2;go_ret3
  exact⟨none,0,0,0,by rw[HF.out];rfl,fun h_=>by rw[HF.out]at h_;exact absurd h_ (by decide),by omega,HBWA.out.trans (HB4.out.mono HBWA.out.size)⟩
 have z1:decide ((N:Int)≥8)=false:=decide_eq_false (by omega);have z2:decide ((8:Int)<=N)=false:=decide_eq_false (by omega);have z3: ¬(8:Int)<=N:=by omega
 have z4: ¬8<=N:=by omega
 have HN7:=zq (show N<=7 from by omega);have hn7:N<=7:=by omega
 obtain⟨T,hT⟩:=geZ (qaf u (N+1) 0 R0);have HR:=zq (show(if T.2.2≠0 then(([],0,T.2.2):List Sc3×Int×Int)else(T.1,(gapE T.2.1 u).1,(gapE T.2.1 u).2))=R from by have h_:=HR.out.symm.trans (if_neg (show¬7<(N:Int) by omega));rw[show((N:Int)+1).toNat=N+1 by omega,hT]at h_;exact h_.symm);have HT:=zq hT;obtain⟨N1,hN1⟩: ∃q,N+1=q:=⟨_,rfl⟩
 have hw1:wrap64 ((N:Int)+1)=(N1:Int):=succ_w hN1 (by omega);have HNQ:=zq hN1;rw[hN1]at HRP HT;have HN8:=zq (show N1<=8 from by omega);have hn8:N1<=8:=by omega
 clear z hT hN1 HN3 HB3;go_upto_region 11 with fail;clear z1 z2 z3 z4;go_wp2;clear hw1 hn7;go_loopg [10,11,32] N1 (fun kk v10 v11 v32 wl=> ∃(i:Nat) (B:Option Addr) (d:Nat) (acc:List Sc3) (tz:Int) (W:List Int),i<=N1/\N1-i<=kk/\v32= .int .i64 i/\v11= .slice B i d/\v10= .int .i64 tz/\Hid (OwR scC17 2 66 wa.heap.size wl B i d acc)/\Hid (0<=tz/\tz<=i*3276600)/\Hid (NumR wa wl g W)/\Hid (ShRep SecSh (N1-i) W R1)/\Hid (rsJ acc (qaf u (N1-i) tz W)=T)/\Hid (Below wa.heap.size wa wl))
 case atStart=>exact⟨0,none,0,[],0,R0,by omega,by omega,rfl,rfl,rfl,zq (OwR.nil _ _ _ _ _),zq (by omega),HN4,HRP,zq (by rw[Nat.sub_zero,HT.out];unfold rsJ;split;exact Prod.ext (rs_nil17 HT.out (by assumption)).1.symm (Prod.ext (rs_nil17 HT.out (by assumption)).2.symm rfl);exact Prod.ext rfl (Prod.ext rfl (by show(0:Int)=T.2.2;omega))),HB4⟩
 clear HRP HT HN4 HB4;obtain⟨i,B,d,acc,tz,W,hi,hik,rfl,rfl,rfl,HO,HTZ,HNW,HRP,HRJ,HB⟩:=hrel;obtain⟨k1,hk1⟩: ∃k1,k1=gk:=⟨_,rfl⟩
 subst hk1;obtain⟨wv,hwv⟩: ∃wv,wv=wr:=⟨_,rfl⟩
 subst hwv;have hn8:=HN8.out;by_cases hlt:i<N1;rotate_left
 ·obtain rfl:i=N1:=by omega
  have hsh:=HRP.out;rw[Nat.sub_self]at hsh;obtain rfl:R1=W:=hsh;obtain⟨hga,hgb⟩:=gap_at17 HSH.out.1 HGP.out;have HTT:=zq (show T=(acc,R1,0)from by have h_:=HRJ.out;rw[Nat.sub_self]at h_;rw[<-h_];show rsJ acc ([],R1,0)=_;unfold rsJ;simp);obtain⟨gq,hgq⟩: ∃q,qeT R1=q:=⟨_,rfl⟩
  rw[hgq,HUE.out]at hga;rw[hgq]at hgb;obtain⟨g1,g2⟩:=gq;dsimp only at hga hgb;have HF:=zq (show R=(acc,g1*un,g2)from by rw[<-HR.out,HTT.out];dsimp only;rw[if_neg (by simp),hga]);have HRG:=zq (oprdgap_any R1 HGP.out g wa wv HNW.out HB.out HG.out);rw[hgq]at HRG;obtain⟨G,hG⟩: ∃q,g1*un=q:=⟨_,rfl⟩
  have hw1:IntKind.i64.wrap (g1*un)=G:=by rw[IntKind.wrap_i64];rcases HU.out with h_|h_|h_<;>subst h_<;>omega
  have HGE:=zq hG;have y1: ¬(i:Int)<i:=by omega
  have y2: ¬(i:Int)<(N:Int)+1:=by have:=HNQ.out;omega
  have y3: ¬i<N+1:=by have:=HNQ.out;omega
  clear hgq hga hgb hG HR HRP HRJ;go_wp2_with fail;refine HRG.out.mono ?_;rintro e_ w5 ⟨rfl,hg5⟩;have HO5:=zq (HO.out.kept hg5 (.inr (by obtain⟨A_,n_,c_,hh_,_⟩:=HNW.out;exact HO.out.apart hh_ (by decide))));have HB5:=zq (qan HB.out hg5 HB.out.size HG.out);clear hg5 HRG HO HB HNW;go_wp2;go_ret3
  exact⟨B,i,d,G,by rw[HF.out];rfl,fun _=>⟨by rw[HF.out];exact HGE.out.symm,by rw[HF.out];exact HO5.out.to_base HBWA.out.size⟩,hn8,HBWA.out.trans (HB5.out.mono HBWA.out.size)⟩
 ·obtain⟨r,hr⟩: ∃r,N1-i=r+1:=⟨N1-i-1,by omega⟩
  have hsh:=HRP.out;rw[hr]at hsh;obtain⟨U,hVU,hUR⟩:=hsh;have hst:=secs_step17 (k:=r) (to_:=tz) acc HSH.out.1 hVU;have hrj:=HRJ.out;rw[hr,hst,HUE.out]at hrj;have hrg:=sec_rng17 hVU;have HRS:=zq (oprdsec_any W U hVU g wa wv HNW.out HB.out HG.out);obtain⟨sq,hsq⟩: ∃q,qb2 W=q:=⟨_,rfl⟩
  rw[hsq]at hrj hrg HRS;obtain⟨s1,s2,s3⟩:=sq;dsimp only at hrj hrg HRS;have x1:(i:Int)<N1:=by omega
  have x1b:(i:Int)<(N:Int)+1:=by have:=HNQ.out;omega
  have x1c:i<N+1:=by have:=HNQ.out;omega
  have x2:(0:Int)<=i:=by omega
  have HIN:=zq (show i<N1/\N1-i<=k1/\N1-(i+1)=r/\N1<=8 from⟨hlt,hik,by omega,hn8⟩);have HUR:=zq hUR;have HRJ:=zq hrj;have HRG:=zq hrg;have hmf: ∀(fn:Fn) (first cap:Array Value) (w:World),(Instr.makeFunc fn first cap).run Tryz.prog w= .ok (.func fn first cap) w:=fun _ _ _ _=>rfl;clear hr hst hrj hrg hsq HRP hi hik hlt hn8;go_wp2_with fail;refine HRS.out.mono ?_;rintro e_ w5 ⟨rfl,hnw,hg5⟩;have HNU:=zq hnw;have HO5:=zq (HO.out.kept hg5 (.inr (by obtain⟨A_,n_,c_,hh_,_⟩:=HNW.out;exact HO.out.apart hh_ (by decide))));have HB5:=zq (qan HB.out hg5 HB.out.size HG.out);clear hg5 hnw HRS HO HB HNW hmf;by_cases z:s3=0;rotate_left
  ·have z1:(s3 !=0)=true:=by simp[z]
   have HTT:=zq (show T=([],[],s3)from HRJ.out.symm.trans (if_pos z));have HF:=zq (show R=([],0,s3)from by rw[<-HR.out,HTT.out];exact if_pos z);have HZ:=zq z;clear z;go_wp2;go_ret3
   exact⟨none,0,0,0,by rw[HF.out];rfl,fun h_=>by rw[HF.out]at h_;exact absurd h_ HZ.out,by omega,HBWA.out.trans (HB5.out.mono HBWA.out.size)⟩
  ·subst z
   have z1:((0:Int) !=0)=false:=rfl;obtain⟨D,hD⟩: ∃q,s1*un=q:=⟨_,rfl⟩
   have hDB:0<=D/\D<=3276600:=by have h2_:=HRG.out;rw[<-hD];rcases HU.out with h_|h_|h_<;>subst h_<;>omega
   have hw1:IntKind.i64.wrap (s1*un)=D:=by rw[hD,IntKind.wrap_i64];omega
   obtain⟨Z,hZ⟩: ∃q,tz+D=q:=⟨_,rfl⟩
   have HZB:=zq (show 0<=Z/\Z<=(i+1:Nat)*3276600 from by have h2_:=HTZ.out;omega);have hw2:IntKind.i64.wrap (tz+D)=Z:=by rw[IntKind.wrap_i64];have h2_:=HTZ.out;have h3_:=HIN.out;omega
   have HRJ:=zq (show rsJ (acc++[⟨Z,s2⟩]) (qaf u r Z U)=T from by rw[<-HRJ.out,if_neg (by simp),hD,hZ]);have HNV:=zq (show NumR wa w5 g U from HNU.out (by first|rfl|trivial));have hib:=HIN.out.1;have hnb:=HIN.out.2.2.2;clear hD hDB hZ HRG;obtain⟨hO,hSL,h1,hBD⟩:=pourR 16 (HO5.out.under ((Below.refl _ _).alloc (Nat.le_refl _) (.cells #[.int .i64 Z,.int .i64 s2] 66))) (⟨rfl,qa3 (Has.made _ _ _) rfl⟩:SlO scC17 2 (w5.alloc (.cells #[.int .i64 Z,.int .i64 s2] 66)) (some ⟨w5.heap.size,0,none⟩) 1 1 [⟨Z,s2⟩]) qdy (Nat.le_trans HB5.out.size (by simp)) (by omega) (by omega);go_wp2_with (with_reducible refine qaP (o:=⟨some 53,_,_,_,_,_⟩) rfl (.tmp 48) (.tmp 52) 36 rfl wa.heap.size 66 (.agg #[.int .i64 0,.int .i64 0]) 2 16 Tryz.underlying36 qbO ?hz1 (by decide) B i d _ ?hs1 hO (some ⟨w5.heap.size,0,none⟩) 1 1 _ ?hx1 hSL h1 hBD ?next1)
   all_goals try rfl
   intro B6 d6 w6 ho6 hg6;have HO6:=zq (show OwR scC17 2 66 wa.heap.size w6 B6 (i+1) d6 (acc++[⟨Z,s2⟩])from OwR.poured (l':=[⟨Z,s2⟩]) HO5.out.2 rfl ho6.out);have HB6:=zq (qas (HB5.out.trans ((bA).mono HB5.out.size)) (Nat.le_trans HB5.out.size (by simp)) hO.out (Nat.le_refl _) rfl hg6.out);have HN6:=zq ((HNV.out.under ((Below.refl _ _).alloc (Nat.le_refl _) (.cells #[.int .i64 Z,.int .i64 s2] 66))).grow hg6.out (by obtain⟨A_,n_,c_,hh_,_⟩:=HNV.out;exact Ne.symm (OwR.apart (show OwR scC17 2 66 wa.heap.size _ B i d acc from⟨hO.out,HO5.out.2⟩) (hh_.beside _) (by decide))));clear ho6 hg6 hO hSL h1 hBD HO5 HB5 HNU HNV hw1 hw2 z1 hib hnb;go_wp2;go_roundg (k1-1)
   case measure=>have:=HIN.out;omega
   case rel=>exact⟨i+1,B6,d6,acc++[⟨Z,s2⟩],Z,U,by have:=HIN.out;omega,by have:=HIN.out;omega,by first|go_num|(rw[IntWalk.wrap64_in _ (by have h1_:=HIN.out;omega)];go_num),rfl,rfl,HO6,HZB,HN6,zq (by rw[HIN.out.2.2.1];exact HUR.out),zq (by rw[HIN.out.2.2.1];exact HRJ.out),HB6⟩
end
section
open Go.RowKit
open Go.Great
def lkA17 (k:Lk17):Array Value:=#[.bool k.told,.int .i64 k.group,.bool k.rev]
def lkC17 (k:Lk17):List Value:=[.bool k.told,.int .i64 k.group,.bool k.rev]
theorem one_lk17 (k:Lk17): ∀u∈lkC17 k,u.oneCell'=true:=by
 intro u hu;simp only[lkC17,List.mem_cons,List.not_mem_nil,or_false]at hu
 rcases hu with rfl|rfl|rfl<;>rfl
theorem info_lk17:(Tryz.prog.info? 180).map (fun i=>(i.zero,i.size,i.bytes))=some (some (.agg #[.bool false,.int .i64 0,.bool false]),3,24):=by kernel_rfl
theorem NumR.draw17 {wb W:World}{g:Nat}{V:List Int}(h:NumR wb W g V):NumR wb W.drew g V:=by
 obtain⟨A,n,c,h1,h2⟩:=h;exact⟨A,n,c,h1.draw,h2⟩
theorem qbp {a b:World}{row:Option Nat}{g:Nat}(h:a.grownBy b row)(hg:a.heap.size<=g)(cs:Array Value):a.grownBy (b.setRow g cs) row:=
 ⟨h.os,h.tape,h.output,by simpa using h.size,fun k hk hne=>by rw[setRow_other b g k cs (by omega)];exact h.block k hk hne⟩
theorem qeY (k:Lk17)(V U:List Int)(hV:LnkSh k V U)(g:Nat)(wb w:World)(h:NumR wb w g V)(hb:Below wb.heap.size wb w)(hg:wb.heap.size<=g):
  Calls Tryz.prog 130 #[.pointer (some ⟨g,0,none⟩)] w fun r W'=>r= .returned (.agg (lkA17 k))/\NumR wb W' g U/\w.grownBy W' (some g):=by
 have hlt:=h.lt;have HG:=zq hg;obtain⟨wa,hwa,hbwa,HWA,HBWA,h0⟩:=bx1Z w 180 #[.bool false,.int .i64 0,.bool false];obtain⟨w0,hw0⟩: ∃u,wa.alloc (.cells #[.bool false,.int .i64 0,.bool false] 180)=u:=⟨_,rfl⟩
 have hb0:Below wa.heap.size wa w0:=by rw[<-hw0];exact bA
 have hM0:Has w0 wa.heap.size 180 #[.bool false,.int .i64 0,.bool false]:=by rw[<-hw0];exact Has.made _ _ _
 obtain⟨g3,hg3⟩: ∃g,wa.heap.size=g:=⟨_,rfl⟩
 rw[hg3]at hM0;have hsz:w.heap.size<g3:=by rw[<-hg3];exact h0.lt
 have hbx:wb.heap.size<=w.heap.size:=hb.size;have hbw:Below w.heap.size w w0:=bu hbwa hb0;have HM0:=zq hM0;have HZ0:=zq (h0.u hb0);have HN0:=zq (h.under hbw);have HB0:=zq (bu hb hbw);have HW0:=zq (qaL hbw (Nat.le_refl _) (some g));have HQ0:=zq hw0;have HG3:=zq hg3;clear hwa hbwa h0 hw0 hb0 hM0 hg3 hbw h hb hg;obtain⟨d,b,oo,ra,aa,hbr,hV⟩:=hV;skip
 rcases hV with⟨c,hcr,rfl,rfl⟩|⟨rfl,rfl⟩
 ·have hD: ∃q,c*16384=q:=⟨_,rfl⟩
  obtain⟨C,hC⟩:=hD;have hwc:IntKind.i64.wrap (c*16384)=C:=by rw[IntKind.wrap_i64];omega
  have hcb:0<=C/\C<=16777216:=by omega
  have HC:=zq hC;clear hC;go_enter Tryz.func130,Tryz.ntmps130;go_upto_region 1 with fail;rw[HWA.out];clear HWA;go_upto_region 2 with fail;rw[HQ0.out];simp only[HG3.out];clear HQ0 HG3;go_wp2_with fail;refine(qbP (d::1::c::b::oo::ra::aa::U) 1 (by simp) g wb w0 HN0.out HB0.out HG.out).mono ?_;rintro e_ w1 ⟨rfl,hn_,hg_⟩;have hn_:NumR wb w1 g (1::c::b::oo::ra::aa::U):=hn_;have HN1:=zq hn_;have HB1:=zq (qan HB0.out hg_ HB0.out.size HG.out);have HW1:=zq (qap HW0.out hg_);have HM1:=zq (HM0.out.grow hg_ (by intro e_;injection e_ with e_;omega));have HZ1:=zq (HZ0.out.grow hg_ (by intro e_;injection e_ with e_;omega));clear hn_ hg_ HN0 HB0 HW0 HM0 HZ0;go_wp2_with fail;refine(qat 1 (c::b::oo::ra::aa::U) g wb w1 HN1.out HB1.out HG.out).mono ?_;rintro e_ w2 ⟨rfl,hn_,hg_⟩;have HN2:=zq hn_;have HB2:=zq (qan HB1.out hg_ HB1.out.size HG.out);have HW2:=zq (qap HW1.out hg_);have HM2:=zq (HM1.out.grow hg_ (by intro e_;injection e_ with e_;omega));have HZ2:=zq (HZ1.out.grow hg_ (by intro e_;injection e_ with e_;omega));clear hn_ hg_ HN1 HB1 HW1 HM1 HZ1;have HN3:=zq (HN2.out.grow (qaj w2 g3 #[.bool true,.int .i64 0,.bool false]) (by intro e_;injection e_ with e_;omega));have HB3:=zq (qac (g:=g3) HB2.out (by omega) #[.bool true,.int .i64 0,.bool false]);have HW3:=zq (qbp (g:=g3) HW2.out (by omega) #[.bool true,.int .i64 0,.bool false]);have HM3:=zq (qab HM2.out #[.bool true,.int .i64 0,.bool false]);have HZ3:=zq (qae (g:=g3) HZ2.out (by omega) #[.bool true,.int .i64 0,.bool false]);obtain⟨w3,hw3⟩: ∃u,w2.setRow g3 #[.bool true,.int .i64 0,.bool false]=u:=⟨_,rfl⟩
  rw[hw3]at HN3 HB3 HW3 HM3 HZ3;have HQ3:=zq hw3;clear hw3;go_upto_region 4 with(with_reducible refine qal (o:=⟨none,_,_,_,_,_⟩) rfl 4 _ _ rfl (g3) 0 (.bool true) rfl rfl 180 #[.bool false,.int .i64 0,.bool false] HM2.out (Nat.le_of_ble_eq_true rfl) (by kernel_rfl) rfl #[.bool true,.int .i64 0,.bool false] rfl ?_)
  rw[HQ3.out];clear HQ3 HN2 HB2 HW2 HM2 HZ2;have m0:w3.cell? ⟨g3,0,none⟩=some (.bool true):=HM3.out.cell 0;go_upto_region 5 with fail;clear m0;go_wp2_with fail;refine(qat c (b::oo::ra::aa::U) g wb w3 HN3.out HB3.out HG.out).mono ?_;rintro e_ w4 ⟨rfl,hn_,hg_⟩;have HN4:=zq hn_;have HB4:=zq (qan HB3.out hg_ HB3.out.size HG.out);have HW4:=zq (qap HW3.out hg_);have HM4:=zq (HM3.out.grow hg_ (by intro e_;injection e_ with e_;omega));have HZ4:=zq (HZ3.out.grow hg_ (by intro e_;injection e_ with e_;omega));clear hn_ hg_ HN3 HB3 HW3 HM3 HZ3;have HN5:=zq (HN4.out.grow (qaj w4 g3 #[.bool true,.int .i64 C,.bool false]) (by intro e_;injection e_ with e_;omega));have HB5:=zq (qac (g:=g3) HB4.out (by omega) #[.bool true,.int .i64 C,.bool false]);have HW5:=zq (qbp (g:=g3) HW4.out (by omega) #[.bool true,.int .i64 C,.bool false]);have HM5:=zq (qab HM4.out #[.bool true,.int .i64 C,.bool false]);have HZ5:=zq (qae (g:=g3) HZ4.out (by omega) #[.bool true,.int .i64 C,.bool false]);obtain⟨w5,hw5⟩: ∃u,w4.setRow g3 #[.bool true,.int .i64 C,.bool false]=u:=⟨_,rfl⟩
  rw[hw5]at HN5 HB5 HW5 HM5 HZ5;have HQ5:=zq hw5;clear hw5;go_upto_region 6 with(with_reducible refine qal (o:=⟨none,_,_,_,_,_⟩) rfl 3 _ _ rfl (g3) 1 (.int .i64 C) rfl rfl 180 #[.bool true,.int .i64 0,.bool false] HM4.out (Nat.le_of_ble_eq_true rfl) (by kernel_rfl) rfl #[.bool true,.int .i64 C,.bool false] rfl ?_)
  rw[HQ5.out];clear HQ5 HN4 HB4 HW4 HM4 HZ4;skip;obtain⟨S,hS⟩: ∃s,C+b=s:=⟨_,rfl⟩
  have hws:IntKind.i64.wrap (C+b)=S:=by rw[IntKind.wrap_i64];omega
  have HS:=zq hS;have HWS:=zq hws;clear hS hws
  try simp only[Act.put]
  go_cut [] (fun wx=>NumR wb wx g (oo::ra::aa::U)/\Below wb.heap.size wb wx/\w.grownBy wx (some g)/\Has wx g3 180 #[.bool true,.int .i64 S,.bool false]/\Has wx (w.heap.size) 180 #[.bool false,.int .i64 0,.bool false])
  case first=>
   have HND:=zq (HN5.out.draw17);refine wp_region_held_drew (S:=(fun W_=>(w.grownBy W_ (some g))/\(Below wb.heap.size wb W_)/\(Has W_ (w.heap.size) 180 #[.bool false,.int .i64 0,.bool false]))) (by kernel_rfl) ?_ (fun hHeld=>?_)
   ·exact⟨only_draw HW5.out,qah HB5.out,HZ5.out.draw⟩
   have HM5:=zq HM5.out.draw;refine tkZ 0 16 (h:=?_);simp only[lyZ];refine tkZ 2 18 (h:=?_);simp only[lyZ];refine rdZ [1,3] (acZ (some 17) (fun K hK=>?za6) (acZ (some 19) (fun K hK=>?zb6) AllReadyH.nil))
   case' za6=>
    skip;obtain⟨s0,s1,s2⟩:=hHeld;have q_:=HM5.out.cell 1;go_simp;clear q_;refine hK.out _ _ ?_ (fun hHeld=>?_)
    ·exact⟨s0,s1,s2⟩
    clear hK K s0 s1 s2
    try simp only[lyZ]
    refine aoZ 3 (some 19) (fun K hK=>?_);go_simp;obtain⟨s0,s1,s2⟩:=hHeld;refine(qat b (oo::ra::aa::U) g wb _ HND.out s1 HG.out).mono ?_;rintro e_ q1 ⟨rfl,hn_,hg_⟩;have HM5:=zq (HM5.out.grow hg_ (by intro e_;injection e_ with e_;omega));have HNX:=zq (hn_);go_wp2_with fail;refine hK.out _ _ ?_ (fun hHeld=>?_)
    ·exact⟨qap s0 hg_,qan s1 hg_ s1.size HG.out,s2.grow hg_ (by intro e_;injection e_ with e_;omega)⟩
   case' zb6=>
    go_simp;obtain⟨s0,s1,s2⟩:=hHeld;refine(qat b (oo::ra::aa::U) g wb _ HND.out s1 HG.out).mono ?_;rintro e_ q1 ⟨rfl,hn_,hg_⟩;have HM5:=zq (HM5.out.grow hg_ (by intro e_;injection e_ with e_;omega));have HNX:=zq (hn_);go_wp2_with fail;refine hK.out _ _ ?_ (fun hHeld=>?_)
    ·exact⟨qap s0 hg_,qan s1 hg_ s1.size HG.out,s2.grow hg_ (by intro e_;injection e_ with e_;omega)⟩
    clear hK K s0 s1 s2
    try simp only[lyZ]
    refine aoZ 1 (some 17) (fun K hK=>?_);skip;obtain⟨s0,s1,s2⟩:=hHeld;have q_:=HM5.out.cell 1;go_simp;clear q_;refine hK.out _ _ ?_ (fun hHeld=>?_)
    ·exact⟨s0,s1,s2⟩
   all_goals
    clear hK K s0 s1 s2
    try simp only[lyZ]
    refine tqZ 4 20 (fun w_ ⟨s0,s1,s2⟩=>HWS.out) (h:=?_);simp only[lyZ];refine tkZ 5 21 (h:=?_);simp only[lyZ];refine aoZ 6 none (fun K hK=>?_);rw[if_pos (by rfl)];obtain⟨s0,s1,s2⟩:=hHeld;refine qaN 3 _ _ rfl (g3) 1 (.int .i64 S) (by rfl) (by rfl) 180 #[.bool true,.int .i64 C,.bool false] HM5.out (Nat.le_of_ble_eq_true rfl) (by kernel_rfl) rfl #[.bool true,.int .i64 S,.bool false] rfl ?_;have HNX:=zq (HNX.out.grow (qaj _ (g3) #[.bool true,.int .i64 S,.bool false]) (by intro e_;injection e_ with e_;omega));refine hK.out _ _ ?_ (fun hHeld=>?_)
    ·exact⟨qbp (g:=g3) s0 (by omega) _,qac (g:=g3) s1 (by omega) _,qae (g:=g3) s2 (by omega) _⟩
    have HM5:=zq (qab HM5.out #[.bool true,.int .i64 S,.bool false]);clear hK K s0 s1 s2
    try simp only[Act.put]
    refine dnZ ?_;go_wp2_with fail;go_meet
    exact⟨HNX.out,hHeld.2.1,hHeld.1,HM5.out,hHeld.2.2⟩
  obtain⟨hn_,hb_,hw_,hm_,hz_⟩:=hcut;obtain⟨w6,hw6⟩: ∃u,u=wc:=⟨_,rfl⟩
  subst hw6;have HN6:=zq hn_;have HB6:=zq hb_;have HW6:=zq hw_;have HM6:=zq hm_;have HZ6:=zq hz_;clear hn_ hb_ hw_ hm_ hz_ HWS HN5 HB5 HW5 HM5 HZ5;obtain⟨OB,hOB⟩: ∃q,(oo==0)=q:=⟨_,rfl⟩
  have HOB:=zq hOB;go_wp2_with fail;refine(qat oo (ra::aa::U) g wb w6 HN6.out HB6.out HG.out).mono ?_;rintro e_ w7 ⟨rfl,hn_,hg_⟩;have HN7:=zq hn_;have HB7:=zq (qan HB6.out hg_ HB6.out.size HG.out);have HW7:=zq (qap HW6.out hg_);have HM7:=zq (HM6.out.grow hg_ (by intro e_;injection e_ with e_;omega));have HZ7:=zq (HZ6.out.grow hg_ (by intro e_;injection e_ with e_;omega));clear hn_ hg_ HN6 HB6 HW6 HM6 HZ6;have HN8:=zq (HN7.out.grow (qaj w7 g3 #[.bool true,.int .i64 S,.bool OB]) (by intro e_;injection e_ with e_;omega));have HB8:=zq (qac (g:=g3) HB7.out (by omega) #[.bool true,.int .i64 S,.bool OB]);have HW8:=zq (qbp (g:=g3) HW7.out (by omega) #[.bool true,.int .i64 S,.bool OB]);have HM8:=zq (qab HM7.out #[.bool true,.int .i64 S,.bool OB]);have HZ8:=zq (qae (g:=g3) HZ7.out (by omega) #[.bool true,.int .i64 S,.bool OB]);obtain⟨w8,hw8⟩: ∃u,w7.setRow g3 #[.bool true,.int .i64 S,.bool OB]=u:=⟨_,rfl⟩
  rw[hw8]at HN8 HB8 HW8 HM8 HZ8;have HQ8:=zq hw8;clear hw8;go_upto_region 8 with(with_reducible refine qal (o:=⟨none,_,_,_,_,_⟩) rfl 4 _ _ rfl (g3) 2 (.bool OB) rfl rfl 180 #[.bool true,.int .i64 S,.bool false] HM7.out (Nat.le_of_ble_eq_true rfl) (by kernel_rfl) rfl #[.bool true,.int .i64 S,.bool OB] rfl ?_)
  rw[HQ8.out];clear hOB HQ8 HN7 HB7 HW7 HM7 HZ7;go_wp2_with fail;refine(qbP (ra::aa::U) 2 (by simp) g wb w8 HN8.out HB8.out HG.out).mono ?_;rintro e_ w9 ⟨rfl,hn_,hg_⟩;have hn_:NumR wb w9 g (U):=hn_;have HN9:=zq hn_;have HB9:=zq (qan HB8.out hg_ HB8.out.size HG.out);have HW9:=zq (qap HW8.out hg_);have HM9:=zq (HM8.out.grow hg_ (by intro e_;injection e_ with e_;omega));have HZ9:=zq (HZ8.out.grow hg_ (by intro e_;injection e_ with e_;omega));clear hn_ hg_ HN8 HB8 HW8 HM8 HZ8;have HR:=zq (qab HZ9.out #[.bool true,.int .i64 S,.bool OB]);have HWF:=zq (qbp (g:=w.heap.size) HW9.out (Nat.le_refl _) #[.bool true,.int .i64 S,.bool OB]);have HNF:=zq (HN9.out.grow (qaj w9 (w.heap.size) #[.bool true,.int .i64 S,.bool OB]) (by intro e_;injection e_ with e_;omega));go_wp2_with (first|(with_reducible refine ldZ 28 HM9.out ?_)|(with_reducible refine stZ #[.bool true,.int .i64 S,.bool OB] HZ9.out ?_));refine roZ HR.out ?_;exact⟨by rw[show lkA17 (⟨true,c*16384+b,oo==0⟩:Lk17)=lkA17 ⟨true,C+b,oo==0⟩from by rw[HC.out]];unfold lkA17;dsimp only;rw[HOB.out,HS.out],HNF.out,HWF.out⟩
 ·
  go_enter Tryz.func130,Tryz.ntmps130;go_upto_region 1 with fail;rw[HWA.out];clear HWA;go_upto_region 2 with fail;rw[HQ0.out];simp only[HG3.out];clear HQ0 HG3;go_wp2_with fail;refine(qbP (d::0::b::oo::ra::aa::U) 1 (by simp) g wb w0 HN0.out HB0.out HG.out).mono ?_;rintro e_ w1 ⟨rfl,hn_,hg_⟩;have hn_:NumR wb w1 g (0::b::oo::ra::aa::U):=hn_;have HN1:=zq hn_;have HB1:=zq (qan HB0.out hg_ HB0.out.size HG.out);have HW1:=zq (qap HW0.out hg_);have HM1:=zq (HM0.out.grow hg_ (by intro e_;injection e_ with e_;omega));have HZ1:=zq (HZ0.out.grow hg_ (by intro e_;injection e_ with e_;omega));clear hn_ hg_ HN0 HB0 HW0 HM0 HZ0;go_wp2_with fail;refine(qat 0 (b::oo::ra::aa::U) g wb w1 HN1.out HB1.out HG.out).mono ?_;rintro e_ w2 ⟨rfl,hn_,hg_⟩;have HN2:=zq hn_;have HB2:=zq (qan HB1.out hg_ HB1.out.size HG.out);have HW2:=zq (qap HW1.out hg_);have HM2:=zq (HM1.out.grow hg_ (by intro e_;injection e_ with e_;omega));have HZ2:=zq (HZ1.out.grow hg_ (by intro e_;injection e_ with e_;omega));clear hn_ hg_ HN1 HB1 HW1 HM1 HZ1;have HN3:=zq (HN2.out.grow (qaj w2 g3 #[.bool false,.int .i64 0,.bool false]) (by intro e_;injection e_ with e_;omega));have HB3:=zq (qac (g:=g3) HB2.out (by omega) #[.bool false,.int .i64 0,.bool false]);have HW3:=zq (qbp (g:=g3) HW2.out (by omega) #[.bool false,.int .i64 0,.bool false]);have HM3:=zq (qab HM2.out #[.bool false,.int .i64 0,.bool false]);have HZ3:=zq (qae (g:=g3) HZ2.out (by omega) #[.bool false,.int .i64 0,.bool false]);obtain⟨w3,hw3⟩: ∃u,w2.setRow g3 #[.bool false,.int .i64 0,.bool false]=u:=⟨_,rfl⟩
  rw[hw3]at HN3 HB3 HW3 HM3 HZ3;have HQ3:=zq hw3;clear hw3;go_upto_region 4 with(with_reducible refine qal (o:=⟨none,_,_,_,_,_⟩) rfl 4 _ _ rfl (g3) 0 (.bool false) rfl rfl 180 #[.bool false,.int .i64 0,.bool false] HM2.out (Nat.le_of_ble_eq_true rfl) (by kernel_rfl) rfl #[.bool false,.int .i64 0,.bool false] rfl ?_)
  rw[HQ3.out];clear HQ3 HN2 HB2 HW2 HM2 HZ2;have m0:w3.cell? ⟨g3,0,none⟩=some (.bool false):=HM3.out.cell 0;go_upto_region 6 with fail;obtain⟨S,hS⟩: ∃s,b=s:=⟨_,rfl⟩
  have hws:IntKind.i64.wrap (b)=S:=by rw[IntKind.wrap_i64];omega
  have HS:=zq hS;have HWS:=zq hws;clear hS hws;go_cut [] (fun wx=>NumR wb wx g (oo::ra::aa::U)/\Below wb.heap.size wb wx/\w.grownBy wx (some g)/\Has wx g3 180 #[.bool false,.int .i64 S,.bool false]/\Has wx (w.heap.size) 180 #[.bool false,.int .i64 0,.bool false])
  case first=>
   have HND:=zq (HN3.out.draw17);refine wp_region_held_drew (S:=(fun W_=>(w.grownBy W_ (some g))/\(Below wb.heap.size wb W_)/\(Has W_ (w.heap.size) 180 #[.bool false,.int .i64 0,.bool false]))) (by kernel_rfl) ?_ (fun hHeld=>?_)
   ·exact⟨only_draw HW3.out,qah HB3.out,HZ3.out.draw⟩
   have HM3:=zq HM3.out.draw;refine tkZ 0 16 (h:=?_);simp only[lyZ];refine tkZ 2 18 (h:=?_);simp only[lyZ];refine rdZ [1,3] (acZ (some 17) (fun K hK=>?za7) (acZ (some 19) (fun K hK=>?zb7) AllReadyH.nil))
   case' za7=>
    skip;obtain⟨s0,s1,s2⟩:=hHeld;have q_:=HM3.out.cell 1;go_simp;clear q_;refine hK.out _ _ ?_ (fun hHeld=>?_)
    ·exact⟨s0,s1,s2⟩
    clear hK K s0 s1 s2
    try simp only[lyZ]
    refine aoZ 3 (some 19) (fun K hK=>?_);go_simp;obtain⟨s0,s1,s2⟩:=hHeld;refine(qat b (oo::ra::aa::U) g wb _ HND.out s1 HG.out).mono ?_;rintro e_ q1 ⟨rfl,hn_,hg_⟩;have HM3:=zq (HM3.out.grow hg_ (by intro e_;injection e_ with e_;omega));have HNX:=zq (hn_);go_wp2_with fail;refine hK.out _ _ ?_ (fun hHeld=>?_)
    ·exact⟨qap s0 hg_,qan s1 hg_ s1.size HG.out,s2.grow hg_ (by intro e_;injection e_ with e_;omega)⟩
   case' zb7=>
    go_simp;obtain⟨s0,s1,s2⟩:=hHeld;refine(qat b (oo::ra::aa::U) g wb _ HND.out s1 HG.out).mono ?_;rintro e_ q1 ⟨rfl,hn_,hg_⟩;have HM3:=zq (HM3.out.grow hg_ (by intro e_;injection e_ with e_;omega));have HNX:=zq (hn_);go_wp2_with fail;refine hK.out _ _ ?_ (fun hHeld=>?_)
    ·exact⟨qap s0 hg_,qan s1 hg_ s1.size HG.out,s2.grow hg_ (by intro e_;injection e_ with e_;omega)⟩
    clear hK K s0 s1 s2
    try simp only[lyZ]
    refine aoZ 1 (some 17) (fun K hK=>?_);skip;obtain⟨s0,s1,s2⟩:=hHeld;have q_:=HM3.out.cell 1;go_simp;clear q_;refine hK.out _ _ ?_ (fun hHeld=>?_)
    ·exact⟨s0,s1,s2⟩
   all_goals
    clear hK K s0 s1 s2
    try simp only[lyZ]
    refine tqZ 4 20 (fun w_ ⟨s0,s1,s2⟩=>HWS.out) (h:=?_);simp only[lyZ];refine tkZ 5 21 (h:=?_);simp only[lyZ];refine aoZ 6 none (fun K hK=>?_);rw[if_pos (by rfl)];obtain⟨s0,s1,s2⟩:=hHeld;refine qaN 3 _ _ rfl (g3) 1 (.int .i64 S) (by rfl) (by rfl) 180 #[.bool false,.int .i64 0,.bool false] HM3.out (Nat.le_of_ble_eq_true rfl) (by kernel_rfl) rfl #[.bool false,.int .i64 S,.bool false] rfl ?_;have HNX:=zq (HNX.out.grow (qaj _ (g3) #[.bool false,.int .i64 S,.bool false]) (by intro e_;injection e_ with e_;omega));refine hK.out _ _ ?_ (fun hHeld=>?_)
    ·exact⟨qbp (g:=g3) s0 (by omega) _,qac (g:=g3) s1 (by omega) _,qae (g:=g3) s2 (by omega) _⟩
    have HM3:=zq (qab HM3.out #[.bool false,.int .i64 S,.bool false]);clear hK K s0 s1 s2
    try simp only[Act.put]
    refine dnZ ?_;go_wp2_with fail;go_meet
    exact⟨HNX.out,hHeld.2.1,hHeld.1,HM3.out,hHeld.2.2⟩
  obtain⟨hn_,hb_,hw_,hm_,hz_⟩:=hcut;obtain⟨w4,hw4⟩: ∃u,u=wc:=⟨_,rfl⟩
  subst hw4;have HN4:=zq hn_;have HB4:=zq hb_;have HW4:=zq hw_;have HM4:=zq hm_;have HZ4:=zq hz_;clear hn_ hb_ hw_ hm_ hz_ HWS HN3 HB3 HW3 HM3 HZ3;obtain⟨OB,hOB⟩: ∃q,(oo==0)=q:=⟨_,rfl⟩
  have HOB:=zq hOB;go_wp2_with fail;refine(qat oo (ra::aa::U) g wb w4 HN4.out HB4.out HG.out).mono ?_;rintro e_ w5 ⟨rfl,hn_,hg_⟩;have HN5:=zq hn_;have HB5:=zq (qan HB4.out hg_ HB4.out.size HG.out);have HW5:=zq (qap HW4.out hg_);have HM5:=zq (HM4.out.grow hg_ (by intro e_;injection e_ with e_;omega));have HZ5:=zq (HZ4.out.grow hg_ (by intro e_;injection e_ with e_;omega));clear hn_ hg_ HN4 HB4 HW4 HM4 HZ4;have HN6:=zq (HN5.out.grow (qaj w5 g3 #[.bool false,.int .i64 S,.bool OB]) (by intro e_;injection e_ with e_;omega));have HB6:=zq (qac (g:=g3) HB5.out (by omega) #[.bool false,.int .i64 S,.bool OB]);have HW6:=zq (qbp (g:=g3) HW5.out (by omega) #[.bool false,.int .i64 S,.bool OB]);have HM6:=zq (qab HM5.out #[.bool false,.int .i64 S,.bool OB]);have HZ6:=zq (qae (g:=g3) HZ5.out (by omega) #[.bool false,.int .i64 S,.bool OB]);obtain⟨w6,hw6⟩: ∃u,w5.setRow g3 #[.bool false,.int .i64 S,.bool OB]=u:=⟨_,rfl⟩
  rw[hw6]at HN6 HB6 HW6 HM6 HZ6;have HQ6:=zq hw6;clear hw6;go_upto_region 8 with(with_reducible refine qal (o:=⟨none,_,_,_,_,_⟩) rfl 4 _ _ rfl (g3) 2 (.bool OB) rfl rfl 180 #[.bool false,.int .i64 S,.bool false] HM5.out (Nat.le_of_ble_eq_true rfl) (by kernel_rfl) rfl #[.bool false,.int .i64 S,.bool OB] rfl ?_)
  rw[HQ6.out];clear hOB HQ6 HN5 HB5 HW5 HM5 HZ5;go_wp2_with fail;refine(qbP (ra::aa::U) 2 (by simp) g wb w6 HN6.out HB6.out HG.out).mono ?_;rintro e_ w7 ⟨rfl,hn_,hg_⟩;have hn_:NumR wb w7 g (U):=hn_;have HN7:=zq hn_;have HB7:=zq (qan HB6.out hg_ HB6.out.size HG.out);have HW7:=zq (qap HW6.out hg_);have HM7:=zq (HM6.out.grow hg_ (by intro e_;injection e_ with e_;omega));have HZ7:=zq (HZ6.out.grow hg_ (by intro e_;injection e_ with e_;omega));clear hn_ hg_ HN6 HB6 HW6 HM6 HZ6;have HR:=zq (qab HZ7.out #[.bool false,.int .i64 S,.bool OB]);have HWF:=zq (qbp (g:=w.heap.size) HW7.out (Nat.le_refl _) #[.bool false,.int .i64 S,.bool OB]);have HNF:=zq (HN7.out.grow (qaj w7 (w.heap.size) #[.bool false,.int .i64 S,.bool OB]) (by intro e_;injection e_ with e_;omega));go_wp2_with (first|(with_reducible refine ldZ 28 HM7.out ?_)|(with_reducible refine stZ #[.bool false,.int .i64 S,.bool OB] HZ7.out ?_));refine roZ HR.out ?_;exact⟨by rw[show lkA17 (⟨false,b,oo==0⟩:Lk17)=lkA17 ⟨false,b,oo==0⟩from rfl];unfold lkA17;dsimp only;rw[HOB.out,HS.out],HNF.out,HWF.out⟩
theorem SlK.pk17 {w:World}{A:Option Addr}{n c:Nat}{l:List PkE}(h:SlK w A n c l){j:Nat}{x:PkE}(hx:l[j]?=some x):
  ∃b off,A=some ⟨b,off,none⟩/\w.cell? ⟨b,off+j*2,none⟩=some (.int .i64 x.id)/\w.cell? ⟨b,off+j*2+1,none⟩=some (.slice x.A x.n x.c):=by
 obtain⟨hj,rfl⟩:=List.getElem?_eq_some_iff.1 hx;exact h.at_ hj
theorem oix_pk17 (p:PkE->Bool)(l:List PkE)(A:Option Addr)(n c:Nat)(w:World)(hs:SlK w A n c l)(hbig:n<=1048576)
  (HE:Hid (∀(x:PkE) W,Below w.heap.size w W->Calls Tryz.prog 129 #[.agg #[.int .i64 x.id,.slice x.A x.n x.c]] W fun e w'=>e= .returned (.bool (p x))/\Below W.heap.size W w')):
  Calls Tryz.prog 128 #[.slice A n c,.func (.func 129) #[] #[]] w fun e w'=>e= .returned (.int .i64 (idxL p l))/\Below w.heap.size w w':=by
 have HN:Hid (l.length=n):=zq hs.len;have HW:=zq hs;clear hs;have x0:(0:Int)<=n:=by omega
 obtain⟨R,hR⟩:=geZ (idxL p l);have HR:=zq hR;rw[hR];clear hR;go_enter Tryz.func128,Tryz.ntmps128;go_wp2;go_loopg [8] n (fun kk v wl=> ∃j:Nat,j<=n/\n-j<=kk/\v= .int .i64 j/\Hid (∀i x,i<j->l[i]?=some x->p x=false)/\Hid (Below w.heap.size w wl))
 case atStart=>exact⟨0,by omega,by omega,rfl,zq fun i x h=>absurd h (by omega),zq (Below.refl _ _)⟩
 obtain⟨j,hj,hjk,rfl,HNO,HBL⟩:=hrel;by_cases hlt:j<n
 ·obtain⟨x,hx⟩:=glZ l (j) (by rw[HN.out];omega)
  obtain⟨bk,off,rfl,d0,d1⟩:=(HW.out.under HBL.out).pk17 hx;have HX:=zq hx;have y0:(0:Int)<=j:=by omega
  have y1:(j:Int)<n:=by omega
  have HC:=zq (HE.out x wr HBL.out);clear hx;generalize hb:p x=b at*;have HBE:=zq hb;clear hb
  cases b with
  |true=>
   have HF:Hid (R=j):=zq (by rw[<-HR.out];exact qbC HX.out HBE.out HNO.out);go_upto_region 4 with fail;go_wp2_with fail;refine HC.out.mono ?_;rintro e w1 ⟨rfl,hb1⟩;have HB1:=tB HBL hb1;clear hb1 d0 d1 HBE HNO;go_wp2;go_ret
   exact⟨by rw[HF.out];rfl,HB1.out⟩
  |false=>
   go_upto_region 4 with fail;go_wp2_with fail;refine HC.out.mono ?_;rintro e w1 ⟨rfl,hb1⟩;have HB1:=tB HBL hb1;have HN2:Hid (∀i y,i<j+1->l[i]?=some y->p y=false):=zq fun i y hi hy=>by
    by_cases h:i=j
    ·subst h;rw[HX.out]at hy;cases hy;exact HBE.out
    ·exact HNO.out i y (by omega) hy
   clear hb1 d0 d1 HBE HNO;go_wp2;go_roundg (gk-1)
   case measure=>omega
   case rel=>exact⟨j+1,by omega,by omega,by go_num,HN2,HB1⟩
 ·have y1: ¬(j:Int)<n:=by omega
  have HF:Hid (R= -1):=zq (by rw[<-HR.out];exact qbg fun i y hi hy=>HNO.out i y (by have:=HN.out;omega) hy);go_wp2;go_ret
  exact⟨by rw[HF.out];rfl,HBL.out⟩
theorem oprl1_any (id:Int)(A:Option Addr)(n c:Nat)(w:World):Calls Tryz.prog 129 #[.agg #[.int .i64 id,.slice A n c]] w fun e w'=>e= .returned (.bool (id==5))/\Below w.heap.size w w':=by
 obtain⟨wa,hwa,hbwa,HWA,HBWA,h0⟩:=bx1Z w 98 #[.int .i64 id,.slice A n c];have c0:wa.cell? ⟨w.heap.size,0,none⟩=some (.int .i64 id):=h0.cell 0;clear hwa hbwa h0;obtain⟨q,hq⟩:=geZ ((id==5));rw[hq];go_enter Tryz.func129,Tryz.ntmps129;go_upto_region 1 with fail;rw[HWA.out];clear HWA;go_wp2;go_ret
 exact⟨by first|rfl|(rw[hq];done)|simp_all,HBWA.out⟩
def qfT (l:List PkE)(ks:List Lk17):Prop:=match (qaM l).find? fun q=>q.1==5 with
 |none=>ks=[]
 |some q=> ∀(t:Tp3) (path:List St3),qdN t path q.2=qaT t path ks
theorem plain_find17 (l:List PkE):(qaM l).find? (fun q=>q.1==5)=(l.find? fun p=>p.id==5).map fun p=>(p.id,p.V):=by
 unfold qaM;rw[List.find?_map]
 rfl
theorem oprdlinks_any (l:List PkE)(A:Option Addr)(n c:Nat)(w:World)(hs:SlK w A n c l)(hn:n<=30)(hv: ∀p∈l,p.n<=3000)(hok: ∀p∈l,qay (p.id,p.V)=true):
  Calls Tryz.prog 66 #[.slice A n c] w fun r w'=> ∃(ks:List Lk17) (B:Option Addr) (m d:Nat),r= .returned (.slice B m d)/\SlO lkC17 3 w' B m d ks/\m<=32/\qfT l ks/\Below w.heap.size w w':=by
 have HE:Hid (∀(x:PkE) W,Below w.heap.size w W->Calls Tryz.prog 129 #[.agg #[.int .i64 x.id,.slice x.A x.n x.c]] W fun e w'=>e= .returned (.bool (x.id==5))/\Below W.heap.size W w'):=zq fun x W _=>oprl1_any x.id x.A x.n x.c W;have HIX:=zq (oix_pk17 (fun x=>x.id==5) l A n c w hs (by omega) HE);have hfi:=qe5 (fun x:PkE=>x.id==5) l;have HPF:=zq (plain_find17 l);have HLN:=zq hs.len
 rcases hfi with⟨h1,h2⟩|⟨j,y,h1,h2,h3⟩
 ·rw[h1]at HIX
  have HLP:=zq (show qfT l []from by unfold qfT;rw[HPF.out,h2];rfl);clear h1 h2 hs hn hv hok HE HPF;go_enter Tryz.func66,Tryz.ntmps66;go_wp2_with fail;refine HIX.out.mono ?_;rintro e_ w1 ⟨rfl,hb1⟩;have HB1:=zq hb1;clear hb1 HIX;go_wp2;go_ret
  exact⟨[],none,0,0,rfl,SlO.nil _ _ _,by omega,HLP.out,HB1.out⟩
 ·rw[h2]at HIX
  have hy:=List.mem_of_getElem? h1;have hid5:y.id=5:=by have h4:=List.find?_some h3;simpa using h4
  have hyk:=hok y hy;rw[hid5]at hyk;obtain⟨dd,uu,R0,R1,nn,k0,ks,hyV,hk0,hnr,hks,hkr⟩:=qeQ hyk;have HLP:=zq (show qfT l (k0::ks)from by unfold qfT;rw[HPF.out,h3];show∀(t:Tp3) (path:List St3),qdN t path y.V=qaT t path (k0::ks);intro t path;rw[hyV];exact(qdb hk0 hks hkr).symm);obtain⟨N,hN⟩: ∃N:Nat,nn=(N:Int):=⟨nn.toNat,by omega⟩
  subst hN;have hyS:=hs.each y hy;have HYS:=zq (fun W (hW:Below w.heap.size w W)=>(⟨hyS.len,by rw[qcV];exact hyS.sl.under hW⟩:SlO inC 1 W y.A y.n y.c y.V));have HYC:=zq (show y.n<=y.c/\y.n<=10000 from⟨hyS.cap,by have:=hv y hy;omega⟩);have HSK:=zq (fun W (hW:Below w.heap.size w W)=>(hs.under hW).pk17 h1);have hjn:j<n:=by rw[<-hs.len];exact(List.getElem?_eq_some_iff.1 h1).1
  have HK0:=zq hk0;have HKR:=zq hkr;have HNB:=zq (show N<=31/\ks.length=N from by omega);have hj30:j<30:=by omega
  rw[hyV]at HYS;clear h1 h2 h3 hy hid5 hyk hyV hk0 hnr hks hkr hyS hs hn hv hok HE HPF HLN;go_enter Tryz.func66,Tryz.ntmps66;go_wp2_with fail;refine HIX.out.mono ?_;rintro e_ w1 ⟨rfl,hb1⟩;have HB1:=zq hb1;obtain⟨bk,off,rfl,e0,e1⟩:=HSK.out w1 hb1;clear hb1 HIX HSK;have x1:(0:Int)<=j:=by omega
  have x2:(j:Int)<n:=by omega
  have q1:decide ((j:Int)<0)=false:=decide_eq_false (by omega);obtain⟨w2,hw2⟩: ∃u,w1.alloc (.cells #[.slice y.A y.n y.c] 172)=u:=⟨_,rfl⟩
  have hb2:Below w1.heap.size w1 w2:=by rw[<-hw2];exact bA
  have hH2:Has w2 w1.heap.size 172 #[.slice y.A y.n y.c]:=by rw[<-hw2];exact Has.made _ _ _
  obtain⟨g,hg⟩:=geZ (w1.heap.size);rw[hg]at hH2;have HN2:=zq (show NumR w w2 g (dd::uu::R0)from⟨y.A,y.n,y.c,hH2,HYS.out,HYC.out.1,HYC.out.2⟩);have HG:=zq (show w.heap.size<=g from by rw[<-hg];exact HB1.out.size);have HB2:=tB HB1 hb2;have HW2:=zq hw2;have HGQ:=zq hg;clear hw2 hb2 hH2 hg HYS HYC;go_upto_region 5 with fail;rw[HW2.out];simp only[HGQ.out];clear HW2 HGQ e0 e1 x1 x2 q1 hjn hj30 HB1;go_wp2_with fail;refine(qbP (dd::uu::R0) 2 (by simp) g w w2 HN2.out HB2.out HG.out).mono ?_;rintro e_ w3 ⟨rfl,hn_,hg_⟩;have HN3:=zq (show NumR w w3 g R0 from hn_);have HB3:=zq (qan HB2.out hg_ HB2.out.size HG.out);clear hn_ hg_ HN2 HB2;go_wp2_with fail;refine(qeY k0 R0 _ HK0.out g w w3 HN3.out HB3.out HG.out).mono ?_;unfold lkA17;rintro e_ w4 ⟨rfl,hn_,hg_⟩;have HN4:=zq hn_;have HB4:=zq (qan HB3.out hg_ HB3.out.size HG.out);clear hn_ hg_ HN3 HB3;obtain⟨w5,hw5⟩: ∃u,w4.alloc (.cells #[.bool k0.told,.int .i64 k0.group,.bool k0.rev] 180)=u:=⟨_,rfl⟩
  have hb5:Below w4.heap.size w4 w5:=by rw[<-hw5];exact bA
  have HO5:=zq (show OwR lkC17 3 180 w.heap.size w5 (some ⟨w4.heap.size,0,none⟩) 1 1 [k0]from by rw[<-hw5];exact⟨World.ownsRow_lit (base:=w.heap.size) (e:=180) (size:=3) w4 #[.bool k0.told,.int .i64 k0.group,.bool k0.rev] 1 HB4.out.size (by unfold maxLen;omega) rfl,rfl⟩);have HN5:=zq (HN4.out.under hb5);have HB5:=tB HB4 hb5;have HW5:=zq hw5;clear hw5 hb5 HN4 HB4;go_upto_region 7 with fail;rw[HW5.out];clear HW5;go_wp2_with fail;refine(qat (N:Int) R1 g w w5 HN5.out HB5.out HG.out).mono ?_;rintro e_ w6 ⟨rfl,hn_,hg_⟩;have HN6:=zq hn_;have HB6:=zq (qan HB5.out hg_ HB5.out.size HG.out);have HO6:=zq (HO5.out.kept hg_ (.inr (by obtain⟨A_,n_,c_,hh_,_⟩:=HN5.out;exact HO5.out.apart hh_ (by decide))));clear hn_ hg_ HN5 HB5 HO5;have hnb:N<=31:=HNB.out.1;go_wp2;go_loopg [5,20] N (fun kk v5 v20 wl=> ∃(i:Nat) (B:Option Addr) (d:Nat) (q:List Lk17) (W:List Int),i<=N/\N-i<=kk/\v20= .int .i64 i/\v5= .slice B (i+1) d/\Hid (q=k0::ks.take i)/\Hid (OwR lkC17 3 180 w.heap.size wl B (i+1) d q)/\Hid (NumR w wl g W)/\Hid (qc4 (ks.drop i) W [])/\Hid (Below w.heap.size w wl))
  case atStart=>exact⟨0,_,1,[k0],R1,by omega,by omega,rfl,rfl,zq rfl,HO6,HN6,HKR,HB6⟩
  clear HO6 HN6 HKR HB6;obtain⟨i,B,d,q,W,hi,hik,rfl,rfl,HQI,HO,HNW,HLS,HB⟩:=hrel;obtain⟨k1,hk1⟩: ∃k1,k1=gk:=⟨_,rfl⟩
  subst hk1;obtain⟨wv,hwv⟩: ∃wv,wv=wr:=⟨_,rfl⟩
  subst hwv;by_cases hlt:i<N;rotate_left
  ·obtain rfl:i=N:=by omega
   have y1: ¬(i:Int)<i:=by omega
   have HKS:=zq (show q=k0::ks from by rw[HQI.out,List.take_of_length_le (by rw[HNB.out.2];exact Nat.le_refl _)]);have HMB:=zq (show i+1<=32 from by omega);go_wp2;go_ret
   exact⟨k0::ks,B,i+1,d,rfl,by rw[<-HKS.out];exact HO.out.sl,HMB.out,HLP.out,HB.out⟩
  ·obtain⟨kk_,hkk⟩: ∃q,ks[i]?=some q:=⟨_,List.getElem?_eq_getElem (by rw[HNB.out.2];exact hlt)⟩
   have hls:=HLS.out;rw[qcc hkk]at hls;obtain⟨W2,hkW,hrs⟩:=hls;have HTK:=zq (show q++[kk_]=k0::ks.take (i+1)from by rw[HQI.out,List.take_add_one,hkk];rfl);have HKW:=zq hkW;have HRS:=zq hrs;have x1:(i:Int)<N:=by omega
   have x2:(0:Int)<=i:=by omega
   have HIN:=zq (show i<N/\N-i<=k1 from⟨hlt,hik⟩);clear hkk hkW hrs hi hik hlt HLS;go_wp2_with fail;refine(qeY kk_ W _ HKW.out g w wv HNW.out HB.out HG.out).mono ?_;unfold lkA17;rintro e_ w7 ⟨rfl,hn_,hg_⟩;have HN7:=zq hn_;have HB7:=zq (qan HB.out hg_ HB.out.size HG.out);have HO7:=zq (HO.out.kept hg_ (.inr (by obtain⟨A_,n_,c_,hh_,_⟩:=HNW.out;exact HO.out.apart hh_ (by decide))));clear hn_ hg_ HNW HB HO HKW;obtain⟨t_,gr_,rv_⟩:=kk_;dsimp only at*;have hib:=HIN.out.1;have hnb:=HNB.out.1;obtain⟨hO,hSL,h1,hBD⟩:=pourR 24 (HO7.out.under ((Below.refl _ _).alloc (Nat.le_refl _) (.cells #[.bool t_,.int .i64 gr_,.bool rv_] 180))) (⟨rfl,qa3 (Has.made _ _ _) rfl⟩:SlO lkC17 3 (w7.alloc (.cells #[.bool t_,.int .i64 gr_,.bool rv_] 180)) (some ⟨w7.heap.size,0,none⟩) 1 1 [⟨t_,gr_,rv_⟩]) one_lk17 (Nat.le_trans HB7.out.size (by simp)) (by omega) (by omega);go_wp2_with (with_reducible refine qaP (o:=⟨some 25,_,_,_,_,_⟩) rfl (.tmp 22) (.tmp 24) 104 rfl w.heap.size 180 (.agg #[.bool false,.int .i64 0,.bool false]) 3 24 Tryz.underlying104 info_lk17 ?hz1 (by decide) B (i+1) d _ ?hs1 hO (some ⟨w7.heap.size,0,none⟩) 1 1 _ ?hx1 hSL h1 hBD ?next1)
   all_goals try rfl
   intro B8 d8 w8 ho8 hg8;have HO8:=zq (show OwR lkC17 3 180 w.heap.size w8 B8 (i+1+1) d8 (q++[⟨t_,gr_,rv_⟩])from OwR.poured (l':=[⟨t_,gr_,rv_⟩]) HO7.out.2 rfl ho8.out);have HB8:=zq (qas (HB7.out.trans ((bA).mono HB7.out.size)) (Nat.le_trans HB7.out.size (by simp)) hO.out (Nat.le_refl _) rfl hg8.out);have HN8:=zq ((HN7.out.under ((Below.refl _ _).alloc (Nat.le_refl _) (.cells #[.bool t_,.int .i64 gr_,.bool rv_] 180))).grow hg8.out (by obtain⟨A_,n_,c_,hh_,_⟩:=HN7.out;exact Ne.symm (OwR.apart (show OwR lkC17 3 180 w.heap.size _ B (i+1) d q from⟨hO.out,HO7.out.2⟩) (hh_.beside _) (by decide))));clear ho8 hg8 hO hSL h1 hBD HO7 HB7 HN7 hib hnb;go_wp2;go_roundg (k1-1)
   case measure=>have:=HIN.out;omega
   case rel=>exact⟨i+1,B8,d8,q++[⟨t_,gr_,rv_⟩],W2,by have:=HIN.out;omega,by have:=HIN.out;omega,by first|go_num|(rw[IntWalk.wrap64_in _ (by have h1_:=HIN.out;have h2_:=HNB.out;omega)];go_num),rfl,HTK,HO8,HN8,HRS,HB8⟩
end
end Go.Proofs.YtahadmeilajdgaaGreatDoor
