/-
  Our own text, joined.
-/
import Derived.Test.YtahadmeilajdgaaGreatDoorMcai
import Derived.BigQuiet
import Derived.IntWalk
import Derived.Test.YtahadmeilajdgaaGreatDoorMcaa
import Derived.Test.YtahadmeilajdgaaGreatDoorMcae
import Derived.Deep.RegionHeld3
import Derived.Deep.DeepCutAuto
import Derived.StillTailTactics
import Derived.Deep.AppendLies
namespace Go.Proofs.YtahadmeilajdgaaGreatDoor
set_option maxRecDepth 100000
set_option maxHeartbeats 80000000
section
open Go.RowKit
open Go.Great
def NumR (wb W:World)(g:Nat)(V:List Int):Prop:= ∃(A:Option Addr) (n c:Nat),Has W g 172 #[.slice A n c]/\(∀W',Below wb.heap.size wb W'->SlO inC 1 W' A n c V)/\n<=c/\n<=10000
theorem NumR.under {wb W W':World}{g:Nat}{V:List Int}(h:NumR wb W g V)(hb:Below W.heap.size W W'):NumR wb W' g V:=by
 obtain⟨A,n,c,h1,h2⟩:=h;exact⟨A,n,c,h1.u hb,h2⟩
theorem NumR.grow {wb W W':World}{g:Nat}{V:List Int}{row:Option Nat}(h:NumR wb W g V)(hg:W.grownBy W' row)(hne:some g≠row):NumR wb W' g V:=by
 obtain⟨A,n,c,h1,h2⟩:=h;exact⟨A,n,c,h1.grow hg hne,h2⟩
theorem NumR.lt {wb W:World}{g:Nat}{V:List Int}(h:NumR wb W g V):g<W.heap.size:=by
 obtain⟨A,n,c,h1,h2⟩:=h;exact h1.lt
def secOne (V:List Int):Int×Int×Int:=
 if V.getD 1 0≠1 then(0,0,20)else if V.getD 2 0<1\/1000<V.getD 2 0\/V.getD 0 0=0 then(0,0,20)else if 32766<V.getD 0 0 then(0,0,7)else(V.getD 0 0,V.getD 2 0,0)
def gapOne (V:List Int):Int×Int:=
 let v:=if V.getD 0 0=1 then V.drop 2 else V
 if v.getD 1 0=0 then(0,0)else if 32766<v.getD 2 0 then(0,7)else(v.getD 2 0,0)
theorem opnext_any (x:Int)(U:List Int)(g:Nat)(wb W:World)(h:NumR wb W g (x::U))(hb:Below wb.heap.size wb W)(_hg:wb.heap.size<=g):
  Calls Tryz.prog 124 #[.pointer (some ⟨g,0,none⟩)] W fun r W'=>r= .returned (.int .i64 x)/\NumR wb W' g U/\W.grownBy W' (some g):=by
 obtain⟨A,n,c,h1,h2,h3,h4⟩:=h;have hs:=h2 W hb;have hn:n=U.length+1:=by rw[<-hs.1];rfl
 obtain⟨m,hm⟩:=geZ (U.length);rw[hm]at hn;subst hn;obtain⟨bk,off,hA,d0⟩:=hs.int13 (j:=0) (x:=x) rfl;subst hA;have d0':W.cell? ⟨bk,off,none⟩=some (.int .i64 x):=d0;have e0:W.cell? ⟨g,0,none⟩=some (.slice (some ⟨bk,off,none⟩) (m+1) c):=h1.cell 0;have h5:1<=m+1:=by omega
 have u1:(0:Int)<((m+1:Nat):Int):=by omega
 have hcu: ∀W,(Instr.sliceAt 22 (.slice (some ⟨bk,off,none⟩) (m+1) c) (some (.int .i64 1)) none none).run Tryz.prog W= .ok (.slice (if c=1 then(some ⟨bk,off,none⟩:Option Addr)else(some ⟨bk,off,none⟩:Option Addr).map (·.add (1*1))) (m+1-1) (c-1)) W:=fun W=>cut_from17 (P:=Tryz.prog) 1 22 3 Tryz.underlying22 (by kernel_rfl) (some ⟨bk,off,none⟩) (m+1) c 1 h5 W;have HS:=zq (fun W' (hW:Below wb.heap.size wb W')=>(h2 W' hW).from17 (fun _=>rfl) h3 h5);obtain⟨A2,hA2⟩:=geZ ((if c=1 then(some ⟨bk,off,none⟩:Option Addr)else(some ⟨bk,off,none⟩:Option Addr).map (·.add (1*1))));obtain⟨c2,hc2⟩: ∃m,c-1=m:=⟨_,rfl⟩
 rw[hA2,hc2]at hcu HS;have HC:=zq (show m<=c2/\m<=10000 from by omega);have HG:=zq h1;clear hA2 hc2 h1 h2 h3 h4 h5 hs hm d0 hb;go_enter Tryz.func124,Tryz.ntmps124;go_wp2_with (with_reducible refine wpList_store_cell17 (o:=⟨none,_,_,_,_,_⟩) rfl 22 _ _ rfl (g) 0 (.slice A2 m c2) rfl rfl 172 #[.slice (some ⟨bk,off,none⟩) (m+1) c] HG.out (Nat.le_of_ble_eq_true rfl) (by kernel_rfl) rfl #[.slice A2 m c2] rfl ?_);go_ret
 exact⟨rfl,⟨A2,m,c2,has_row11 HG.out _,HS.out,HC.out.1,HC.out.2⟩,only_row11 _ _ _⟩
theorem opskip_any (V:List Int)(k:Nat)(hk:k<=V.length)(g:Nat)(wb W:World)(h:NumR wb W g V)(hb:Below wb.heap.size wb W)(_hg:wb.heap.size<=g):
  Calls Tryz.prog 125 #[.pointer (some ⟨g,0,none⟩),.int .i64 k] W fun r W'=>r= .returned (.tuple #[])/\NumR wb W' g (V.drop k)/\W.grownBy W' (some g):=by
 obtain⟨A,n,c,h1,h2,h3,h4⟩:=h;have hs:=h2 W hb;have hn:k<=n:=by rw[<-hs.1];exact hk
 have e0:W.cell? ⟨g,0,none⟩=some (.slice A n c):=h1.cell 0;have hcu: ∀W,(Instr.sliceAt 22 (.slice A n c) (some (.int .i64 k)) none none).run Tryz.prog W= .ok (.slice (if c=k then A else A.map (·.add (k*1))) (n-k) (c-k)) W:=fun W=>cut_from17 (P:=Tryz.prog) 1 22 3 Tryz.underlying22 (by kernel_rfl) A n c k hn W;have HS:=zq (fun W' (hW:Below wb.heap.size wb W')=>(h2 W' hW).from17 (fun _=>rfl) h3 hn);obtain⟨A2,hA2⟩:=geZ ((if c=k then A else A.map (·.add (k*1))));obtain⟨c2,hc2⟩: ∃m,c-k=m:=⟨_,rfl⟩
 obtain⟨m,hm⟩:=geZ (n-k);rw[hA2,hc2,hm]at hcu HS;have HC:=zq (show m<=c2/\m<=10000 from by omega);have HG:=zq h1;clear hA2 hc2 h1 h2 h3 h4 hs hm hb hk hn;go_enter Tryz.func125,Tryz.ntmps125;go_wp2_with (with_reducible refine wpList_store_cell17 (o:=⟨none,_,_,_,_,_⟩) rfl 22 _ _ rfl (g) 0 (.slice A2 m c2) rfl rfl 172 #[.slice A n c] HG.out (Nat.le_of_ble_eq_true rfl) (by kernel_rfl) rfl #[.slice A2 m c2] rfl ?_);go_end0
 exact⟨rfl,⟨A2,m,c2,has_row11 HG.out _,HS.out,HC.out.1,HC.out.2⟩,only_row11 _ _ _⟩
theorem oprdsec_any (V U:List Int)(hV:SecSh V U)(g:Nat)(wb W:World)(h:NumR wb W g V)(hb:Below wb.heap.size wb W)(hg:wb.heap.size<=g):
  Calls Tryz.prog 126 #[(.func (.func 124) #[.pointer (some ⟨g,0,none⟩)] #[])] W fun r W'=>r= .returned (.tuple #[.int .i64 (secOne V).1,.int .i64 (secOne V).2.1,.int .i64 (secOne V).2.2])/\((secOne V).2.2=0->NumR wb W' g U)/\W.grownBy W' (some g):=by
 obtain⟨x,q,hx,hV⟩:=hV;obtain⟨R,hR⟩:=geZ (secOne V);rw[hR];have HR:=zq hR;have HN0:=zq h;have HB0:=zq hb;have HG:=zq hg;clear hR h hb hg
 rcases hV with⟨rfl,rfl⟩|⟨rfl,a,b,ha,rfl⟩
 ·have HF:=zq (show R=(0,0,20)from by rw[<-HR.out];exact if_pos (by simp))
  clear HR hx;go_enter Tryz.func126,Tryz.ntmps126;go_wp2_with fail;refine(opnext_any x (0::U) g wb W HN0.out HB0.out HG.out).mono ?_;rintro e_ w1 ⟨rfl,hn_,hg_⟩;have HN1:=zq hn_;have HW1:=zq (hg_);have HB1:=zq (below_only HB0.out hg_ HB0.out.size HG.out);clear hn_ hg_;go_wp2_with fail;refine(opnext_any 0 U g wb w1 HN1.out HB1.out HG.out).mono ?_;rintro e_ w2 ⟨rfl,hn_,hg_⟩;have HN2:=zq hn_;have HW2:=zq (only_trans HW1.out hg_);have HB2:=zq (below_only HB1.out hg_ HB1.out.size HG.out);clear hn_ hg_;go_wp2;go_ret3
  exact⟨by rw[HF.out];rfl,fun h_=>by rw[HF.out]at h_;exact absurd h_ (by decide),HW2.out⟩
 ·have HRR:=zq (show(if a<1\/1000<a\/x=0 then((0,0,20):Int×Int×Int)else if 32766<x then(0,0,7)else(x,a,0))=R from HR.out)
  have HT:=zq (fun W=>optimer_any a W);clear HR;go_enter Tryz.func126,Tryz.ntmps126;go_wp2_with fail;refine(opnext_any x (1::a::b::U) g wb W HN0.out HB0.out HG.out).mono ?_;rintro e_ w1 ⟨rfl,hn_,hg_⟩;have HN1:=zq hn_;have HW1:=zq (hg_);have HB1:=zq (below_only HB0.out hg_ HB0.out.size HG.out);clear hn_ hg_;go_wp2_with fail;refine(opnext_any 1 (a::b::U) g wb w1 HN1.out HB1.out HG.out).mono ?_;rintro e_ w2 ⟨rfl,hn_,hg_⟩;have HN2:=zq hn_;have HW2:=zq (only_trans HW1.out hg_);have HB2:=zq (below_only HB1.out hg_ HB1.out.size HG.out);clear hn_ hg_;go_wp2_with fail;refine(opnext_any a (b::U) g wb w2 HN2.out HB2.out HG.out).mono ?_;rintro e_ w3 ⟨rfl,hn_,hg_⟩;have HN3:=zq hn_;have HW3:=zq (only_trans HW2.out hg_);have HB3:=zq (below_only HB2.out hg_ HB2.out.size HG.out);clear hn_ hg_;go_wp2_with fail;refine(opnext_any b U g wb w3 HN3.out HB3.out HG.out).mono ?_;rintro e_ w4 ⟨rfl,hn_,hg_⟩;have HN4:=zq hn_;have HW4:=zq (only_trans HW3.out hg_);have HB4:=zq (below_only HB3.out hg_ HB3.out.size HG.out);clear hn_ hg_;obtain⟨tb,htb⟩: ∃q,(decide (1<=a) &&decide (a<=1000))=q:=⟨_,rfl⟩
  rw[htb]at HT;go_wp2_with fail;refine(HT.out w4).mono ?_;rintro e_ w4' ⟨rfl,rfl⟩
  cases tb with
  |false=>
   have HF:=zq (show R=(0,0,20)from by rw[<-HRR.out];refine if_pos ?_;simp only[Bool.and_eq_false_iff,decide_eq_false_iff_not]at htb;omega);clear htb;go_wp2;go_ret3
   exact⟨by rw[HF.out];rfl,fun h_=>by rw[HF.out]at h_;exact absurd h_ (by decide),HW4.out⟩
  |true=>
   by_cases z:x=0
   ·have z1:(x==0)=true:=by simp[z]
    have HF:=zq (show R=(0,0,20)from by rw[<-HRR.out];exact if_pos (Or.inr (Or.inr z)));clear htb z;go_wp2;go_ret3
    exact⟨by rw[HF.out];rfl,fun h_=>by rw[HF.out]at h_;exact absurd h_ (by decide),HW4.out⟩
   ·have z1:(x==0)=false:=by simp[z]
    have hne: ¬(a<1\/1000<a\/x=0):=by simp only[Bool.and_eq_true,decide_eq_true_eq]at htb;omega
    by_cases z2:32766<x
    ·have z3:decide (32766<x)=true:=decide_eq_true z2
     have HF:=zq (show R=(0,0,7)from by rw[<-HRR.out,if_neg hne,if_pos z2]);clear htb z hne;go_wp2;go_ret3
     exact⟨by rw[HF.out];rfl,fun h_=>by rw[HF.out]at h_;exact absurd h_ (by decide),HW4.out⟩
    ·have z3:decide (32766<x)=false:=decide_eq_false z2
     have HF:=zq (show R=(x,a,0)from by rw[<-HRR.out,if_neg hne,if_neg z2]);clear htb z hne;go_wp2;go_ret3
     exact⟨by rw[HF.out];rfl,fun _=>HN4.out,HW4.out⟩
theorem oprdgap_any (V:List Int)(hV:GapSh V)(g:Nat)(wb W:World)(h:NumR wb W g V)(hb:Below wb.heap.size wb W)(hg:wb.heap.size<=g):
  Calls Tryz.prog 127 #[.pointer (some ⟨g,0,none⟩)] W fun r W'=>r= .returned (.tuple #[.int .i64 (gapOne V).1,.int .i64 (gapOne V).2])/\W.grownBy W' (some g):=by
 obtain⟨q,p,S,hp,hV,hS⟩:=hV;obtain⟨R,hR⟩:=geZ (gapOne V);rw[hR];have HR:=zq hR;have HN0:=zq h;have HB0:=zq hb;have HG:=zq hg;clear hR h hb hg
 rcases hV with⟨rfl,rfl⟩|⟨rfl,a,b,rfl⟩
 ·have HRR:=zq (show(if p=0 then((0,0):Int×Int)else if 32766<S.getD 0 0 then(0,7)else(S.getD 0 0,0))=R from HR.out)
  clear HR;go_enter Tryz.func127,Tryz.ntmps127;go_wp2_with fail;refine(opnext_any 0 (p::S) g wb W HN0.out HB0.out HG.out).mono ?_;rintro e_ w1 ⟨rfl,hn_,hg_⟩;have HN1:=zq hn_;have HW1:=zq (hg_);have HB1:=zq (below_only HB0.out hg_ HB0.out.size HG.out);clear hn_ hg_;by_cases z:p=0
  ·subst z
   have HF:=zq (show R=(0,0)from HRR.out.symm.trans (if_pos rfl));clear HRR hS hp;go_wp2_with fail;refine(opnext_any 0 S g wb w1 HN1.out HB1.out HG.out).mono ?_;rintro e_ wx ⟨rfl,hn_,hg_⟩;have HN2:=zq hn_;have HW2:=zq (only_trans HW1.out hg_);have HB2:=zq (below_only HB1.out hg_ HB1.out.size HG.out);clear hn_ hg_;go_wp2;go_ret2
   exact⟨by rw[HF.out];rfl,HW2.out⟩
  ·obtain rfl:p=1:=by omega
   obtain⟨gp,zz,S2,hgp,rfl⟩:=hS rfl;have HRR:=zq (show(if 32766<gp then((0,7):Int×Int)else(gp,0))=R from HRR.out);clear hS hp z;go_wp2_with fail;refine(opnext_any 1 (gp::zz::S2) g wb w1 HN1.out HB1.out HG.out).mono ?_;rintro e_ wx ⟨rfl,hn_,hg_⟩;have HN2:=zq hn_;have HW2:=zq (only_trans HW1.out hg_);have HB2:=zq (below_only HB1.out hg_ HB1.out.size HG.out);clear hn_ hg_;go_wp2_with fail;refine(opnext_any gp (zz::S2) g wb wx HN2.out HB2.out HG.out).mono ?_;rintro e_ wy ⟨rfl,hn_,hg_⟩;have HN3:=zq hn_;have HW3:=zq (only_trans HW2.out hg_);have HB3:=zq (below_only HB2.out hg_ HB2.out.size HG.out);clear hn_ hg_;by_cases z2:32766<gp
   ·have z3:decide (32766<gp)=true:=decide_eq_true z2
    have HF:=zq (HRR.out.symm.trans (if_pos z2));clear HRR;go_wp2;go_ret2
    exact⟨by rw[HF.out];rfl,HW3.out⟩
   ·have z3:decide (32766<gp)=false:=decide_eq_false z2
    have HF:=zq (HRR.out.symm.trans (if_neg z2));clear HRR;go_wp2;go_ret2
    exact⟨by rw[HF.out];rfl,HW3.out⟩
 ·have HRR:=zq (show(if p=0 then((0,0):Int×Int)else if 32766<S.getD 0 0 then(0,7)else(S.getD 0 0,0))=R from HR.out)
  clear HR;go_enter Tryz.func127,Tryz.ntmps127;go_wp2_with fail;refine(opnext_any 1 (a::b::p::S) g wb W HN0.out HB0.out HG.out).mono ?_;rintro e_ w1 ⟨rfl,hn_,hg_⟩;have HN1:=zq hn_;have HW1:=zq (hg_);have HB1:=zq (below_only HB0.out hg_ HB0.out.size HG.out);clear hn_ hg_;go_wp2_with fail;refine(opskip_any (a::b::p::S) 2 (by simp) g wb w1 HN1.out HB1.out HG.out).mono ?_;rintro e_ w2 ⟨rfl,hn_,hg_⟩;have HN2:=zq (show NumR wb w2 g (p::S)from hn_);have HW2:=zq (only_trans HW1.out hg_);have HB2:=zq (below_only HB1.out hg_ HB1.out.size HG.out);clear hn_ hg_;by_cases z:p=0
  ·subst z
   have HF:=zq (show R=(0,0)from HRR.out.symm.trans (if_pos rfl));clear HRR hS hp;go_wp2_with fail;refine(opnext_any 0 S g wb w2 HN2.out HB2.out HG.out).mono ?_;rintro e_ wx ⟨rfl,hn_,hg_⟩;have HN3:=zq hn_;have HW3:=zq (only_trans HW2.out hg_);have HB3:=zq (below_only HB2.out hg_ HB2.out.size HG.out);clear hn_ hg_;go_wp2;go_ret2
   exact⟨by rw[HF.out];rfl,HW3.out⟩
  ·obtain rfl:p=1:=by omega
   obtain⟨gp,zz,S2,hgp,rfl⟩:=hS rfl;have HRR:=zq (show(if 32766<gp then((0,7):Int×Int)else(gp,0))=R from HRR.out);clear hS hp z;go_wp2_with fail;refine(opnext_any 1 (gp::zz::S2) g wb w2 HN2.out HB2.out HG.out).mono ?_;rintro e_ wx ⟨rfl,hn_,hg_⟩;have HN3:=zq hn_;have HW3:=zq (only_trans HW2.out hg_);have HB3:=zq (below_only HB2.out hg_ HB2.out.size HG.out);clear hn_ hg_;go_wp2_with fail;refine(opnext_any gp (zz::S2) g wb wx HN3.out HB3.out HG.out).mono ?_;rintro e_ wy ⟨rfl,hn_,hg_⟩;have HN4:=zq hn_;have HW4:=zq (only_trans HW3.out hg_);have HB4:=zq (below_only HB3.out hg_ HB3.out.size HG.out);clear hn_ hg_;by_cases z2:32766<gp
   ·have z3:decide (32766<gp)=true:=decide_eq_true z2
    have HF:=zq (HRR.out.symm.trans (if_pos z2));clear HRR;go_wp2;go_ret2
    exact⟨by rw[HF.out];rfl,HW4.out⟩
   ·have z3:decide (32766<gp)=false:=decide_eq_false z2
    have HF:=zq (HRR.out.symm.trans (if_neg z2));clear HRR;go_wp2;go_ret2
    exact⟨by rw[HF.out];rfl,HW4.out⟩
end
section
open Go.RowKit
open Go.Great
def rsJ (acc:List Sc3)(r:List Sc3×List Int×Int):List Sc3×List Int×Int:=if r.2.2≠0 then([],[],r.2.2)else(acc++r.1,r.2.1,0)
def rsecE (V:List Int)(rev:Bool):List Sc3×Int×Int:=
 if V.getD 0 0≠dirB rev then([],0,20)
 else if 7<V.getD 4 0 then([],0,2)
 else
  let s:=readSecs (V.getD 1 0) (V.getD 4 0+1).toNat 0 (V.drop 5)
  if s.2.2≠0 then([],0,s.2.2)else(s.1,(gapE s.2.1 (V.getD 1 0)).1,(gapE s.2.1 (V.getD 1 0)).2)
theorem rs_nil17 {u to_:Int}{k:Nat}{V:List Int}{T:List Sc3×List Int×Int}(h:readSecs u k to_ V=T)(hT:T.2.2≠0):T.1=[]/\T.2.1=[]:=by
 subst h
 cases k with
 |zero=>exact absurd rfl hT
 |succ k=>
  rw[readSecs]at hT⊢;split
  ·exact⟨rfl,rfl⟩
  ·rename_i h1
   rw[if_neg h1]at hT;split
   ·exact⟨rfl,rfl⟩
   ·rename_i h2
    rw[if_neg h2]at hT;split
    ·exact⟨rfl,rfl⟩
    ·rename_i h3
     rw[if_neg h3]at hT;dsimp only at hT⊢;split
     ·exact⟨rfl,rfl⟩
     ·rename_i h4
      rw[if_neg h4]at hT;exact absurd rfl hT
theorem unit_two17 {u:Int}(h:0<=u/\u<=2):unitOf u=1\/unitOf u=10\/unitOf u=100:=by
 unfold unitOf;by_cases h0:u=0
 ·rw[if_pos h0];exact .inl rfl
 ·by_cases h1:u=1
  ·rw[if_neg h0,if_pos h1];exact .inr (.inl rfl)
  ·rw[if_neg h0,if_neg h1,if_pos (by omega)];exact .inr (.inr rfl)
theorem dm_at17 {x u:Int}(hu:0<=u/\u<=2)(hx:0<=x):dmOf x u=if 32766<x then(0,7)else(x*unitOf u,0):=by
 have h:=unit_two17 hu;unfold dmOf;rw[if_neg (by omega)];by_cases h2:32766<x
 ·rw[if_pos (Or.inr h2),if_pos h2]
 ·rw[if_neg (by omega),if_neg h2]
theorem secs_step17 {u to_:Int}{k:Nat}{V U:List Int}(acc:List Sc3)(hu:0<=u/\u<=2)(h:SecSh V U):
  rsJ acc (readSecs u (k+1) to_ V)=if(secOne V).2.2≠0 then([],[],(secOne V).2.2)else rsJ (acc++[⟨to_+(secOne V).1*unitOf u,(secOne V).2.1⟩]) (readSecs u k (to_+(secOne V).1*unitOf u) U):=by
 obtain⟨x,q,hx,hV⟩:=h;have hd:=dm_at17 hu hx.1
 rcases hV with⟨rfl,rfl⟩|⟨rfl,a,b,ha,rfl⟩
 ·have e1:secOne (x::0::U)=(0,0,20):=if_pos (by simp)
  rw[e1,readSecs,if_pos (by simp),if_pos (by simp)]
  rfl
 ·have e1:secOne (x::1::a::b::U)=if a<1\/1000<a\/x=0 then(0,0,20)else if 32766<x then(0,0,7)else(x,a,0):=rfl
  rw[readSecs,if_neg (by simp)];show rsJ acc (if a<1\/1000<a\/x=0 then([],[],20)else if(dmOf x u).2≠0 then([],[],7)else
   let r:=readSecs u k (to_+(dmOf x u).1) U
   if r.2.2≠0 then([],[],r.2.2)else(⟨to_+(dmOf x u).1,a⟩::r.1,r.2.1,0))=_
  by_cases h1:a<1\/1000<a\/x=0
  ·rw[if_pos h1]at e1⊢
   rw[e1]
   rfl
  ·rw[if_neg h1]at e1⊢
   by_cases h2:32766<x
   ·rw[if_pos h2]at e1 hd
    rw[e1,hd]
    rfl
   ·rw[if_neg h2]at e1 hd
    rw[e1,hd];dsimp only;rw[if_neg (show¬((0:Int)≠0)from fun h=>h rfl),if_neg (show¬((0:Int)≠0)from fun h=>h rfl)];generalize readSecs u k (to_+x*unitOf u) U=r;obtain⟨r1,r2,r3⟩:=r;unfold rsJ;dsimp only;by_cases h3:r3=0
    ·simp[h3]
    ·simp[h3]
theorem sec_rng17 {V U:List Int}(h:SecSh V U):0<=(secOne V).1/\(secOne V).1<=32766:=by
 obtain⟨x,q,hx,hV⟩:=h;unfold secOne;split
 ·exact⟨Int.le_refl _,by decide⟩
 ·split
  ·exact⟨Int.le_refl _,by decide⟩
  ·split
   ·exact⟨Int.le_refl _,by decide⟩
   ·rename_i h1 h2 h3
    rcases hV with⟨rfl,rfl⟩|⟨rfl,a,b,ha,rfl⟩
    ·exact⟨hx.1,by simpa using h3⟩
    ·exact⟨hx.1,by simpa using h3⟩
theorem gap_at17 {u:Int}{V:List Int}(hu:0<=u/\u<=2)(h:GapSh V):gapE V u=((gapOne V).1*unitOf u,(gapOne V).2)/\0<=(gapOne V).1/\(gapOne V).1<=32766:=by
 have key: ∀(p:Int) (S:List Int),(0<=p/\p<=1)->(p=1-> ∃g z S2,(0<=g/\g<=32767)/\S=g::z::S2)->
   (if p≠1 then((0,0):Int×Int)else if(dmOf (S.getD 0 0) u).2≠0 then(0,7)else((dmOf (S.getD 0 0) u).1,0))=
    ((if p=0 then((0,0):Int×Int)else if 32766<S.getD 0 0 then(0,7)else(S.getD 0 0,0)).1*unitOf u,(if p=0 then((0,0):Int×Int)else if 32766<S.getD 0 0 then(0,7)else(S.getD 0 0,0)).2)/\
   0<=(if p=0 then((0,0):Int×Int)else if 32766<S.getD 0 0 then(0,7)else(S.getD 0 0,0)).1/\(if p=0 then((0,0):Int×Int)else if 32766<S.getD 0 0 then(0,7)else(S.getD 0 0,0)).1<=32766:=by
  intro p S hp hS;by_cases h0:p=0
  ·subst h0
   rw[if_pos (by decide),if_pos rfl];exact⟨by simp,Int.le_refl _,by decide⟩
  ·obtain rfl:p=1:=by omega
   obtain⟨g,z,S2,hg,rfl⟩:=hS rfl;have hd:=dm_at17 hu hg.1;show(if(1:Int)≠1 then((0,0):Int×Int)else if(dmOf g u).2≠0 then(0,7)else((dmOf g u).1,0))=
    ((if(1:Int)=0 then((0,0):Int×Int)else if 32766<g then(0,7)else(g,0)).1*unitOf u,(if(1:Int)=0 then((0,0):Int×Int)else if 32766<g then(0,7)else(g,0)).2)/\0<=(if(1:Int)=0 then((0,0):Int×Int)else if 32766<g then(0,7)else(g,0)).1/\(if(1:Int)=0 then((0,0):Int×Int)else if 32766<g then(0,7)else(g,0)).1<=32766
   have a1: ∀(α:Type) (x y:α),(if(1:Int)≠1 then x else y)=y:=fun _ _ _=>if_neg (by decide);have a2: ∀(α:Type) (x y:α),(if(1:Int)=0 then x else y)=y:=fun _ _ _=>if_neg (by decide);rw[a1,a2,hd];by_cases h2:32766<g
   ·rw[if_pos h2,if_pos h2]
    exact⟨by simp,Int.le_refl _,by show(0:Int)<=32766;decide⟩
   ·rw[if_neg h2,if_neg h2]
    exact⟨by simp,hg.1,by show g<=32766;omega⟩
 obtain⟨q,p,S,hp,hV,hS⟩:=h
 rcases hV with⟨rfl,rfl⟩|⟨rfl,a,b,rfl⟩
 ·exact key p S hp hS
 ·exact key p S hp hS
theorem oprdsecs_any (id:Int)(A:Option Addr)(n c:Nat)(V:List Int)(rev:Bool)(w:World)(hV:SlI w.heap.size w A n c V)(hn:n<=10000)(hok:itemsOk (15,V)=true):
  Calls Tryz.prog 64 #[.agg #[.int .i64 id,.slice A n c],.bool rev] w fun r w'=> ∃(B:Option Addr) (m d:Nat) (G:Int),r= .returned (.tuple #[.slice B m d,.int .i64 G,.int .i64 (rsecE V rev).2.2])/\((rsecE V rev).2.2=0->G=(rsecE V rev).2.1/\OwR scC17 2 66 w.heap.size w' B m d (rsecE V rev).1)/\m<=8/\Below w.heap.size w w':=by
 obtain⟨R,hR⟩:=geZ (rsecE V rev);rw[hR];obtain⟨vd,u,v2,v3,nn,R0,R1,rfl,hd,hu,hn4,hrep,hgap⟩:=fifteen_shape17 hok;have HR:=zq hR;obtain⟨N,hN⟩: ∃N:Nat,nn=(N:Int):=⟨nn.toNat,by omega⟩
 subst hN;rw[show((N:Int).toNat+1)=N+1 by omega]at hrep;have hSO:SlO inC 1 w A n c (vd::u::v2::v3::(N:Int)::R0):=⟨hV.len,by rw[flat_ints17];exact hV.sl⟩
 have hVc:=hV.cap;clear hR hok hV hd;obtain⟨wa,hwa,hbwa,HWA,HBWA,h0⟩:=bx1Z w 98 #[.int .i64 id,.slice A n c];have p1:wa.cell? ⟨w.heap.size,1,none⟩=some (.slice A n c):=h0.cell 1;obtain⟨wb,hwb⟩: ∃u,wa.alloc (.cells #[.slice A n c] 172)=u:=⟨_,rfl⟩
 have hbb:Below wa.heap.size wa wb:=by rw[<-hwb];exact bA
 have hHb:Has wb wa.heap.size 172 #[.slice A n c]:=by rw[<-hwb];exact Has.made _ _ _
 obtain⟨g,hg⟩:=geZ (wa.heap.size);rw[hg]at hHb;have HN0:=zq (show NumR wa wb g (vd::u::v2::v3::(N:Int)::R0)from⟨A,n,c,hHb,fun W' hW=>(hSO.under hbwa).under hW,hVc,hn⟩);have HG:=zq (show wa.heap.size<=g from Nat.le_of_eq hg);have HB0:=zq hbb;have HWB:=zq hwb;have HGQ:=zq hg;have HSH:=zq (show(0<=u/\u<=2)/\(0<=(N:Int)/\(N:Int)<=31)from⟨hu,hn4⟩);have HRP:=zq hrep;have HGP:=zq hgap;clear hwa hbwa h0 hwb hbb hHb hg hSO hVc hn hu hn4 hrep hgap;go_enter Tryz.func64,Tryz.ntmps64;go_upto_region 1 with fail;rw[HWA.out];clear HWA;go_upto_region 2 with fail;rw[HWB.out];simp only[HGQ.out];clear HWB HGQ p1;go_wp2_with fail;refine(opnext_any vd (u::v2::v3::(N:Int)::R0) g wa wb HN0.out HB0.out HG.out).mono ?_;rintro e_ w1 ⟨rfl,hn_,hg_⟩;have HN1:=zq hn_;have HB1:=zq (below_only HB0.out hg_ HB0.out.size HG.out);clear hn_ hg_;obtain⟨DR,hDR⟩: ∃d,dirB rev=d:=⟨_,rfl⟩
 have HDI:=zq (fun W=>opdir_any rev W);rw[hDR]at HDI;have HDR:=zq hDR;clear hDR;go_wp2_with fail;refine(HDI.out w1).mono ?_;rintro e_ w1' ⟨rfl,hq1⟩;subst hq1;by_cases z:vd=DR;rotate_left
 ·have z1:(vd !=DR)=true:=by simp[z]
  have HF:=zq (show R=([],0,20)from by rw[<-HR.out];exact if_pos (by rw[HDR.out];exact z));clear z;go_wp2;go_ret3
  exact⟨none,0,0,0,by rw[HF.out];rfl,fun h_=>by rw[HF.out]at h_;exact absurd h_ (by decide),by omega,HBWA.out.trans (HB1.out.mono HBWA.out.size)⟩
 have z1:(vd !=DR)=false:=by simp[z]
 have HR:=zq (show(if 7<(N:Int)then(([],0,2):List Sc3×Int×Int)else let s:=readSecs u ((N:Int)+1).toNat 0 R0;if s.2.2≠0 then([],0,s.2.2)else(s.1,(gapE s.2.1 u).1,(gapE s.2.1 u).2))=R from by rw[<-HR.out];exact(if_neg (by rw[HDR.out];exact fun h_=>h_ z)).symm);clear z HDI HDR;go_upto_region 4 with fail;clear z1;go_wp2_with fail;refine(opnext_any u (v2::v3::(N:Int)::R0) g wa w1' HN1.out HB1.out HG.out).mono ?_;rintro e_ w2 ⟨rfl,hn_,hg_⟩;have HN2:=zq hn_;have HB2:=zq (below_only HB1.out hg_ HB1.out.size HG.out);clear hn_ hg_;have HUN:=zq (fun W=>unit_any u W);obtain⟨un,hun⟩: ∃x,unitOf u=x:=⟨_,rfl⟩
 rw[hun]at HUN;have HU:=zq (show un=1\/un=10\/un=100 from by rw[<-hun];exact unit_two17 HSH.out.1);have HUE:=zq hun;clear hun;go_wp2_with fail;refine(HUN.out w2).mono ?_;rintro e_ w2' ⟨rfl,hq2⟩;subst hq2;clear HUN;go_wp2_with fail;refine(opskip_any (v2::v3::(N:Int)::R0) 2 (by simp) g wa w2 HN2.out HB2.out HG.out).mono ?_;rintro e_ w3 ⟨rfl,hn_,hg_⟩;have HN3:=zq (show NumR wa w3 g ((N:Int)::R0)from hn_);have HB3:=zq (below_only HB2.out hg_ HB2.out.size HG.out);clear hn_ hg_ HN1 HB1 HN2 HB2 HN0 HB0;go_wp2_with fail;refine(opnext_any (N:Int) R0 g wa w3 HN3.out HB3.out HG.out).mono ?_;rintro e_ w4 ⟨rfl,hn_,hg_⟩;have HN4:=zq hn_;have HB4:=zq (below_only HB3.out hg_ HB3.out.size HG.out);clear hn_ hg_;by_cases z:7<N
 ·have z1:decide ((N:Int)≥8)=true:=decide_eq_true (by omega)
  have z2:decide ((8:Int)<=N)=true:=decide_eq_true (by omega);have z3:(8:Int)<=N:=by omega
  have z4:8<=N:=by omega
  have HF:=zq (HR.out.symm.trans (if_pos (by omega)));clear z;go_wp2;go_ret3
  exact⟨none,0,0,0,by rw[HF.out];rfl,fun h_=>by rw[HF.out]at h_;exact absurd h_ (by decide),by omega,HBWA.out.trans (HB4.out.mono HBWA.out.size)⟩
 have z1:decide ((N:Int)≥8)=false:=decide_eq_false (by omega);have z2:decide ((8:Int)<=N)=false:=decide_eq_false (by omega);have z3: ¬(8:Int)<=N:=by omega
 have z4: ¬8<=N:=by omega
 have HN7:=zq (show N<=7 from by omega);have hn7:N<=7:=by omega
 obtain⟨T,hT⟩:=geZ (readSecs u (N+1) 0 R0);have HR:=zq (show(if T.2.2≠0 then(([],0,T.2.2):List Sc3×Int×Int)else(T.1,(gapE T.2.1 u).1,(gapE T.2.1 u).2))=R from by have h_:=HR.out.symm.trans (if_neg (show¬7<(N:Int) by omega));rw[show((N:Int)+1).toNat=N+1 by omega,hT]at h_;exact h_.symm);have HT:=zq hT;obtain⟨N1,hN1⟩: ∃q,N+1=q:=⟨_,rfl⟩
 have hw1:wrap64 ((N:Int)+1)=(N1:Int):=succ_w hN1 (by omega);have HNQ:=zq hN1;rw[hN1]at HRP HT;have HN8:=zq (show N1<=8 from by omega);have hn8:N1<=8:=by omega
 clear z hT hN1 HN3 HB3;go_upto_region 11 with fail;clear z1 z2 z3 z4;go_wp2;clear hw1 hn7;go_loopg [10,11,32] N1 (fun kk v10 v11 v32 wl=> ∃(i:Nat) (B:Option Addr) (d:Nat) (acc:List Sc3) (tz:Int) (W:List Int),i<=N1/\N1-i<=kk/\v32= .int .i64 i/\v11= .slice B i d/\v10= .int .i64 tz/\Hid (OwR scC17 2 66 wa.heap.size wl B i d acc)/\Hid (0<=tz/\tz<=i*3276600)/\Hid (NumR wa wl g W)/\Hid (ShRep SecSh (N1-i) W R1)/\Hid (rsJ acc (readSecs u (N1-i) tz W)=T)/\Hid (Below wa.heap.size wa wl))
 case atStart=>exact⟨0,none,0,[],0,R0,by omega,by omega,rfl,rfl,rfl,zq (OwR.nil _ _ _ _ _),zq (by omega),HN4,HRP,zq (by rw[Nat.sub_zero,HT.out];unfold rsJ;split;exact Prod.ext (rs_nil17 HT.out (by assumption)).1.symm (Prod.ext (rs_nil17 HT.out (by assumption)).2.symm rfl);exact Prod.ext rfl (Prod.ext rfl (by show(0:Int)=T.2.2;omega))),HB4⟩
 clear HRP HT HN4 HB4;obtain⟨i,B,d,acc,tz,W,hi,hik,rfl,rfl,rfl,HO,HTZ,HNW,HRP,HRJ,HB⟩:=hrel;obtain⟨k1,hk1⟩: ∃k1,k1=gk:=⟨_,rfl⟩
 subst hk1;obtain⟨wv,hwv⟩: ∃wv,wv=wr:=⟨_,rfl⟩
 subst hwv;have hn8:=HN8.out;by_cases hlt:i<N1;rotate_left
 ·obtain rfl:i=N1:=by omega
  have hsh:=HRP.out;rw[Nat.sub_self]at hsh;obtain rfl:R1=W:=hsh;obtain⟨hga,hgb⟩:=gap_at17 HSH.out.1 HGP.out;have HTT:=zq (show T=(acc,R1,0)from by have h_:=HRJ.out;rw[Nat.sub_self]at h_;rw[<-h_];show rsJ acc ([],R1,0)=_;unfold rsJ;simp);obtain⟨gq,hgq⟩: ∃q,gapOne R1=q:=⟨_,rfl⟩
  rw[hgq,HUE.out]at hga;rw[hgq]at hgb;obtain⟨g1,g2⟩:=gq;dsimp only at hga hgb;have HF:=zq (show R=(acc,g1*un,g2)from by rw[<-HR.out,HTT.out];dsimp only;rw[if_neg (by simp),hga]);have HRG:=zq (oprdgap_any R1 HGP.out g wa wv HNW.out HB.out HG.out);rw[hgq]at HRG;obtain⟨G,hG⟩: ∃q,g1*un=q:=⟨_,rfl⟩
  have hw1:IntKind.i64.wrap (g1*un)=G:=by rw[IntKind.wrap_i64];rcases HU.out with h_|h_|h_<;>subst h_<;>omega
  have HGE:=zq hG;have y1: ¬(i:Int)<i:=by omega
  have y2: ¬(i:Int)<(N:Int)+1:=by have:=HNQ.out;omega
  have y3: ¬i<N+1:=by have:=HNQ.out;omega
  clear hgq hga hgb hG HR HRP HRJ;go_wp2_with fail;refine HRG.out.mono ?_;rintro e_ w5 ⟨rfl,hg5⟩;have HO5:=zq (HO.out.kept hg5 (.inr (by obtain⟨A_,n_,c_,hh_,_⟩:=HNW.out;exact HO.out.apart hh_ (by decide))));have HB5:=zq (below_only HB.out hg5 HB.out.size HG.out);clear hg5 HRG HO HB HNW;go_wp2;go_ret3
  exact⟨B,i,d,G,by rw[HF.out];rfl,fun _=>⟨by rw[HF.out];exact HGE.out.symm,by rw[HF.out];exact HO5.out.to_base HBWA.out.size⟩,hn8,HBWA.out.trans (HB5.out.mono HBWA.out.size)⟩
 ·obtain⟨r,hr⟩: ∃r,N1-i=r+1:=⟨N1-i-1,by omega⟩
  have hsh:=HRP.out;rw[hr]at hsh;obtain⟨U,hVU,hUR⟩:=hsh;have hst:=secs_step17 (k:=r) (to_:=tz) acc HSH.out.1 hVU;have hrj:=HRJ.out;rw[hr,hst,HUE.out]at hrj;have hrg:=sec_rng17 hVU;have HRS:=zq (oprdsec_any W U hVU g wa wv HNW.out HB.out HG.out);obtain⟨sq,hsq⟩: ∃q,secOne W=q:=⟨_,rfl⟩
  rw[hsq]at hrj hrg HRS;obtain⟨s1,s2,s3⟩:=sq;dsimp only at hrj hrg HRS;have x1:(i:Int)<N1:=by omega
  have x1b:(i:Int)<(N:Int)+1:=by have:=HNQ.out;omega
  have x1c:i<N+1:=by have:=HNQ.out;omega
  have x2:(0:Int)<=i:=by omega
  have HIN:=zq (show i<N1/\N1-i<=k1/\N1-(i+1)=r/\N1<=8 from⟨hlt,hik,by omega,hn8⟩);have HUR:=zq hUR;have HRJ:=zq hrj;have HRG:=zq hrg;have hmf: ∀(fn:Fn) (first cap:Array Value) (w:World),(Instr.makeFunc fn first cap).run Tryz.prog w= .ok (.func fn first cap) w:=fun _ _ _ _=>rfl;clear hr hst hrj hrg hsq HRP hi hik hlt hn8;go_wp2_with fail;refine HRS.out.mono ?_;rintro e_ w5 ⟨rfl,hnw,hg5⟩;have HNU:=zq hnw;have HO5:=zq (HO.out.kept hg5 (.inr (by obtain⟨A_,n_,c_,hh_,_⟩:=HNW.out;exact HO.out.apart hh_ (by decide))));have HB5:=zq (below_only HB.out hg5 HB.out.size HG.out);clear hg5 hnw HRS HO HB HNW hmf;by_cases z:s3=0;rotate_left
  ·have z1:(s3 !=0)=true:=by simp[z]
   have HTT:=zq (show T=([],[],s3)from HRJ.out.symm.trans (if_pos z));have HF:=zq (show R=([],0,s3)from by rw[<-HR.out,HTT.out];exact if_pos z);have HZ:=zq z;clear z;go_wp2;go_ret3
   exact⟨none,0,0,0,by rw[HF.out];rfl,fun h_=>by rw[HF.out]at h_;exact absurd h_ HZ.out,by omega,HBWA.out.trans (HB5.out.mono HBWA.out.size)⟩
  ·subst z
   have z1:((0:Int) !=0)=false:=rfl;obtain⟨D,hD⟩: ∃q,s1*un=q:=⟨_,rfl⟩
   have hDB:0<=D/\D<=3276600:=by have h2_:=HRG.out;rw[<-hD];rcases HU.out with h_|h_|h_<;>subst h_<;>omega
   have hw1:IntKind.i64.wrap (s1*un)=D:=by rw[hD,IntKind.wrap_i64];omega
   obtain⟨Z,hZ⟩: ∃q,tz+D=q:=⟨_,rfl⟩
   have HZB:=zq (show 0<=Z/\Z<=(i+1:Nat)*3276600 from by have h2_:=HTZ.out;omega);have hw2:IntKind.i64.wrap (tz+D)=Z:=by rw[IntKind.wrap_i64];have h2_:=HTZ.out;have h3_:=HIN.out;omega
   have HRJ:=zq (show rsJ (acc++[⟨Z,s2⟩]) (readSecs u r Z U)=T from by rw[<-HRJ.out,if_neg (by simp),hD,hZ]);have HNV:=zq (show NumR wa w5 g U from HNU.out (by first|rfl|trivial));have hib:=HIN.out.1;have hnb:=HIN.out.2.2.2;clear hD hDB hZ HRG;obtain⟨hO,hSL,h1,hBD⟩:=pourR 16 (HO5.out.under ((Below.refl _ _).alloc (Nat.le_refl _) (.cells #[.int .i64 Z,.int .i64 s2] 66))) (⟨rfl,sl_hasR (Has.made _ _ _) rfl⟩:SlO scC17 2 (w5.alloc (.cells #[.int .i64 Z,.int .i64 s2] 66)) (some ⟨w5.heap.size,0,none⟩) 1 1 [⟨Z,s2⟩]) one_sc17 (Nat.le_trans HB5.out.size (by simp)) (by omega) (by omega);go_wp2_with (with_reducible refine wpList_pour (o:=⟨some 53,_,_,_,_,_⟩) rfl (.tmp 48) (.tmp 52) 36 rfl wa.heap.size 66 (.agg #[.int .i64 0,.int .i64 0]) 2 16 Tryz.underlying36 info_sect17 ?hz1 (by decide) B i d _ ?hs1 hO (some ⟨w5.heap.size,0,none⟩) 1 1 _ ?hx1 hSL h1 hBD ?next1)
   all_goals try rfl
   intro B6 d6 w6 ho6 hg6;have HO6:=zq (show OwR scC17 2 66 wa.heap.size w6 B6 (i+1) d6 (acc++[⟨Z,s2⟩])from OwR.poured (l':=[⟨Z,s2⟩]) HO5.out.2 rfl ho6.out);have HB6:=zq (below_own (HB5.out.trans ((bA).mono HB5.out.size)) (Nat.le_trans HB5.out.size (by simp)) hO.out (Nat.le_refl _) rfl hg6.out);have HN6:=zq ((HNV.out.under ((Below.refl _ _).alloc (Nat.le_refl _) (.cells #[.int .i64 Z,.int .i64 s2] 66))).grow hg6.out (by obtain⟨A_,n_,c_,hh_,_⟩:=HNV.out;exact Ne.symm (OwR.apart (show OwR scC17 2 66 wa.heap.size _ B i d acc from⟨hO.out,HO5.out.2⟩) (hh_.beside _) (by decide))));clear ho6 hg6 hO hSL h1 hBD HO5 HB5 HNU HNV hw1 hw2 z1 hib hnb;go_wp2;go_roundg (k1-1)
   case measure=>have:=HIN.out;omega
   case rel=>exact⟨i+1,B6,d6,acc++[⟨Z,s2⟩],Z,U,by have:=HIN.out;omega,by have:=HIN.out;omega,by first|go_num|(rw[IntWalk.wrap64_in _ (by have h1_:=HIN.out;omega)];go_num),rfl,rfl,HO6,HZB,HN6,zq (by rw[HIN.out.2.2.1];exact HUR.out),zq (by rw[HIN.out.2.2.1];exact HRJ.out),HB6⟩
end
section
open Go.RowKit
open Go.Great
def lkA17 (k:Lk17):Array Value:=#[.bool k.told,.int .i64 k.group,.bool k.rev]
def lkC17 (k:Lk17):List Value:=[.bool k.told,.int .i64 k.group,.bool k.rev]
theorem one_lk17 (k:Lk17): ∀u∈lkC17 k,u.oneCell'=true:=by
 intro u hu;simp only[lkC17,List.mem_cons,List.not_mem_nil,or_false]at hu
 rcases hu with rfl|rfl|rfl<;>rfl
theorem info_lk17:(Tryz.prog.info? 180).map (fun i=>(i.zero,i.size,i.bytes))=some (some (.agg #[.bool false,.int .i64 0,.bool false]),3,24):=by kernel_rfl
theorem NumR.draw17 {wb W:World}{g:Nat}{V:List Int}(h:NumR wb W g V):NumR wb W.drew g V:=by
 obtain⟨A,n,c,h1,h2⟩:=h;exact⟨A,n,c,h1.draw,h2⟩
theorem grow_new17 {a b:World}{row:Option Nat}{g:Nat}(h:a.grownBy b row)(hg:a.heap.size<=g)(cs:Array Value):a.grownBy (b.setRow g cs) row:=
 ⟨h.os,h.tape,h.output,by simpa using h.size,fun k hk hne=>by rw[setRow_other b g k cs (by omega)];exact h.block k hk hne⟩
theorem oprdlink_any (k:Lk17)(V U:List Int)(hV:LnkSh k V U)(g:Nat)(wb w:World)(h:NumR wb w g V)(hb:Below wb.heap.size wb w)(hg:wb.heap.size<=g):
  Calls Tryz.prog 130 #[.pointer (some ⟨g,0,none⟩)] w fun r W'=>r= .returned (.agg (lkA17 k))/\NumR wb W' g U/\w.grownBy W' (some g):=by
 have hlt:=h.lt;have HG:=zq hg;obtain⟨wa,hwa,hbwa,HWA,HBWA,h0⟩:=bx1Z w 180 #[.bool false,.int .i64 0,.bool false];obtain⟨w0,hw0⟩: ∃u,wa.alloc (.cells #[.bool false,.int .i64 0,.bool false] 180)=u:=⟨_,rfl⟩
 have hb0:Below wa.heap.size wa w0:=by rw[<-hw0];exact bA
 have hM0:Has w0 wa.heap.size 180 #[.bool false,.int .i64 0,.bool false]:=by rw[<-hw0];exact Has.made _ _ _
 obtain⟨g3,hg3⟩: ∃g,wa.heap.size=g:=⟨_,rfl⟩
 rw[hg3]at hM0;have hsz:w.heap.size<g3:=by rw[<-hg3];exact h0.lt
 have hbx:wb.heap.size<=w.heap.size:=hb.size;have hbw:Below w.heap.size w w0:=bu hbwa hb0;have HM0:=zq hM0;have HZ0:=zq (h0.u hb0);have HN0:=zq (h.under hbw);have HB0:=zq (bu hb hbw);have HW0:=zq (only_below hbw (Nat.le_refl _) (some g));have HQ0:=zq hw0;have HG3:=zq hg3;clear hwa hbwa h0 hw0 hb0 hM0 hg3 hbw h hb hg;obtain⟨d,b,oo,ra,aa,hbr,hV⟩:=hV;skip
 rcases hV with⟨c,hcr,rfl,rfl⟩|⟨rfl,rfl⟩
 ·have hD: ∃q,c*16384=q:=⟨_,rfl⟩
  obtain⟨C,hC⟩:=hD;have hwc:IntKind.i64.wrap (c*16384)=C:=by rw[IntKind.wrap_i64];omega
  have hcb:0<=C/\C<=16777216:=by omega
  have HC:=zq hC;clear hC;go_enter Tryz.func130,Tryz.ntmps130;go_upto_region 1 with fail;rw[HWA.out];clear HWA;go_upto_region 2 with fail;rw[HQ0.out];simp only[HG3.out];clear HQ0 HG3;go_wp2_with fail;refine(opskip_any (d::1::c::b::oo::ra::aa::U) 1 (by simp) g wb w0 HN0.out HB0.out HG.out).mono ?_;rintro e_ w1 ⟨rfl,hn_,hg_⟩;have hn_:NumR wb w1 g (1::c::b::oo::ra::aa::U):=hn_;have HN1:=zq hn_;have HB1:=zq (below_only HB0.out hg_ HB0.out.size HG.out);have HW1:=zq (only_trans HW0.out hg_);have HM1:=zq (HM0.out.grow hg_ (by intro e_;injection e_ with e_;omega));have HZ1:=zq (HZ0.out.grow hg_ (by intro e_;injection e_ with e_;omega));clear hn_ hg_ HN0 HB0 HW0 HM0 HZ0;go_wp2_with fail;refine(opnext_any 1 (c::b::oo::ra::aa::U) g wb w1 HN1.out HB1.out HG.out).mono ?_;rintro e_ w2 ⟨rfl,hn_,hg_⟩;have HN2:=zq hn_;have HB2:=zq (below_only HB1.out hg_ HB1.out.size HG.out);have HW2:=zq (only_trans HW1.out hg_);have HM2:=zq (HM1.out.grow hg_ (by intro e_;injection e_ with e_;omega));have HZ2:=zq (HZ1.out.grow hg_ (by intro e_;injection e_ with e_;omega));clear hn_ hg_ HN1 HB1 HW1 HM1 HZ1;have HN3:=zq (HN2.out.grow (only_row11 w2 g3 #[.bool true,.int .i64 0,.bool false]) (by intro e_;injection e_ with e_;omega));have HB3:=zq (below_row (g:=g3) HB2.out (by omega) #[.bool true,.int .i64 0,.bool false]);have HW3:=zq (grow_new17 (g:=g3) HW2.out (by omega) #[.bool true,.int .i64 0,.bool false]);have HM3:=zq (has_row11 HM2.out #[.bool true,.int .i64 0,.bool false]);have HZ3:=zq (has_rowo11 (g:=g3) HZ2.out (by omega) #[.bool true,.int .i64 0,.bool false]);obtain⟨w3,hw3⟩: ∃u,w2.setRow g3 #[.bool true,.int .i64 0,.bool false]=u:=⟨_,rfl⟩
  rw[hw3]at HN3 HB3 HW3 HM3 HZ3;have HQ3:=zq hw3;clear hw3;go_upto_region 4 with(with_reducible refine wpList_store_cell17 (o:=⟨none,_,_,_,_,_⟩) rfl 4 _ _ rfl (g3) 0 (.bool true) rfl rfl 180 #[.bool false,.int .i64 0,.bool false] HM2.out (Nat.le_of_ble_eq_true rfl) (by kernel_rfl) rfl #[.bool true,.int .i64 0,.bool false] rfl ?_)
  rw[HQ3.out];clear HQ3 HN2 HB2 HW2 HM2 HZ2;have m0:w3.cell? ⟨g3,0,none⟩=some (.bool true):=HM3.out.cell 0;go_upto_region 5 with fail;clear m0;go_wp2_with fail;refine(opnext_any c (b::oo::ra::aa::U) g wb w3 HN3.out HB3.out HG.out).mono ?_;rintro e_ w4 ⟨rfl,hn_,hg_⟩;have HN4:=zq hn_;have HB4:=zq (below_only HB3.out hg_ HB3.out.size HG.out);have HW4:=zq (only_trans HW3.out hg_);have HM4:=zq (HM3.out.grow hg_ (by intro e_;injection e_ with e_;omega));have HZ4:=zq (HZ3.out.grow hg_ (by intro e_;injection e_ with e_;omega));clear hn_ hg_ HN3 HB3 HW3 HM3 HZ3;have HN5:=zq (HN4.out.grow (only_row11 w4 g3 #[.bool true,.int .i64 C,.bool false]) (by intro e_;injection e_ with e_;omega));have HB5:=zq (below_row (g:=g3) HB4.out (by omega) #[.bool true,.int .i64 C,.bool false]);have HW5:=zq (grow_new17 (g:=g3) HW4.out (by omega) #[.bool true,.int .i64 C,.bool false]);have HM5:=zq (has_row11 HM4.out #[.bool true,.int .i64 C,.bool false]);have HZ5:=zq (has_rowo11 (g:=g3) HZ4.out (by omega) #[.bool true,.int .i64 C,.bool false]);obtain⟨w5,hw5⟩: ∃u,w4.setRow g3 #[.bool true,.int .i64 C,.bool false]=u:=⟨_,rfl⟩
  rw[hw5]at HN5 HB5 HW5 HM5 HZ5;have HQ5:=zq hw5;clear hw5;go_upto_region 6 with(with_reducible refine wpList_store_cell17 (o:=⟨none,_,_,_,_,_⟩) rfl 3 _ _ rfl (g3) 1 (.int .i64 C) rfl rfl 180 #[.bool true,.int .i64 0,.bool false] HM4.out (Nat.le_of_ble_eq_true rfl) (by kernel_rfl) rfl #[.bool true,.int .i64 C,.bool false] rfl ?_)
  rw[HQ5.out];clear HQ5 HN4 HB4 HW4 HM4 HZ4;skip;obtain⟨S,hS⟩: ∃s,C+b=s:=⟨_,rfl⟩
  have hws:IntKind.i64.wrap (C+b)=S:=by rw[IntKind.wrap_i64];omega
  have HS:=zq hS;have HWS:=zq hws;clear hS hws
  try simp only[Act.put]
  go_cut [] (fun wx=>NumR wb wx g (oo::ra::aa::U)/\Below wb.heap.size wb wx/\w.grownBy wx (some g)/\Has wx g3 180 #[.bool true,.int .i64 S,.bool false]/\Has wx (w.heap.size) 180 #[.bool false,.int .i64 0,.bool false])
  case first=>
   have HND:=zq (HN5.out.draw17);refine wp_region_held_drew (S:=(fun W_=>(w.grownBy W_ (some g))/\(Below wb.heap.size wb W_)/\(Has W_ (w.heap.size) 180 #[.bool false,.int .i64 0,.bool false]))) (by kernel_rfl) ?_ (fun hHeld=>?_)
   ·exact⟨only_draw HW5.out,below_dr11 HB5.out,HZ5.out.draw⟩
   have HM5:=zq HM5.out.draw;refine tkZ 0 16 (h:=?_);simp only[lyZ];refine tkZ 2 18 (h:=?_);simp only[lyZ];refine rdZ [1,3] (acZ (some 17) (fun K hK=>?za6) (acZ (some 19) (fun K hK=>?zb6) AllReadyH.nil))
   case' za6=>
    skip;obtain⟨s0,s1,s2⟩:=hHeld;have q_:=HM5.out.cell 1;go_simp;clear q_;refine hK.out _ _ ?_ (fun hHeld=>?_)
    ·exact⟨s0,s1,s2⟩
    clear hK K s0 s1 s2
    try simp only[lyZ]
    refine aoZ 3 (some 19) (fun K hK=>?_);go_simp;obtain⟨s0,s1,s2⟩:=hHeld;refine(opnext_any b (oo::ra::aa::U) g wb _ HND.out s1 HG.out).mono ?_;rintro e_ q1 ⟨rfl,hn_,hg_⟩;have HM5:=zq (HM5.out.grow hg_ (by intro e_;injection e_ with e_;omega));have HNX:=zq (hn_);go_wp2_with fail;refine hK.out _ _ ?_ (fun hHeld=>?_)
    ·exact⟨only_trans s0 hg_,below_only s1 hg_ s1.size HG.out,s2.grow hg_ (by intro e_;injection e_ with e_;omega)⟩
   case' zb6=>
    go_simp;obtain⟨s0,s1,s2⟩:=hHeld;refine(opnext_any b (oo::ra::aa::U) g wb _ HND.out s1 HG.out).mono ?_;rintro e_ q1 ⟨rfl,hn_,hg_⟩;have HM5:=zq (HM5.out.grow hg_ (by intro e_;injection e_ with e_;omega));have HNX:=zq (hn_);go_wp2_with fail;refine hK.out _ _ ?_ (fun hHeld=>?_)
    ·exact⟨only_trans s0 hg_,below_only s1 hg_ s1.size HG.out,s2.grow hg_ (by intro e_;injection e_ with e_;omega)⟩
    clear hK K s0 s1 s2
    try simp only[lyZ]
    refine aoZ 1 (some 17) (fun K hK=>?_);skip;obtain⟨s0,s1,s2⟩:=hHeld;have q_:=HM5.out.cell 1;go_simp;clear q_;refine hK.out _ _ ?_ (fun hHeld=>?_)
    ·exact⟨s0,s1,s2⟩
   all_goals
    clear hK K s0 s1 s2
    try simp only[lyZ]
    refine tqZ 4 20 (fun w_ ⟨s0,s1,s2⟩=>HWS.out) (h:=?_);simp only[lyZ];refine tkZ 5 21 (h:=?_);simp only[lyZ];refine aoZ 6 none (fun K hK=>?_);rw[if_pos (by rfl)];obtain⟨s0,s1,s2⟩:=hHeld;refine wp_store_cell17 3 _ _ rfl (g3) 1 (.int .i64 S) (by rfl) (by rfl) 180 #[.bool true,.int .i64 C,.bool false] HM5.out (Nat.le_of_ble_eq_true rfl) (by kernel_rfl) rfl #[.bool true,.int .i64 S,.bool false] rfl ?_;have HNX:=zq (HNX.out.grow (only_row11 _ (g3) #[.bool true,.int .i64 S,.bool false]) (by intro e_;injection e_ with e_;omega));refine hK.out _ _ ?_ (fun hHeld=>?_)
    ·exact⟨grow_new17 (g:=g3) s0 (by omega) _,below_row (g:=g3) s1 (by omega) _,has_rowo11 (g:=g3) s2 (by omega) _⟩
    have HM5:=zq (has_row11 HM5.out #[.bool true,.int .i64 S,.bool false]);clear hK K s0 s1 s2
    try simp only[Act.put]
    refine dnZ ?_;go_wp2_with fail;go_meet
    exact⟨HNX.out,hHeld.2.1,hHeld.1,HM5.out,hHeld.2.2⟩
  obtain⟨hn_,hb_,hw_,hm_,hz_⟩:=hcut;obtain⟨w6,hw6⟩: ∃u,u=wc:=⟨_,rfl⟩
  subst hw6;have HN6:=zq hn_;have HB6:=zq hb_;have HW6:=zq hw_;have HM6:=zq hm_;have HZ6:=zq hz_;clear hn_ hb_ hw_ hm_ hz_ HWS HN5 HB5 HW5 HM5 HZ5;obtain⟨OB,hOB⟩: ∃q,(oo==0)=q:=⟨_,rfl⟩
  have HOB:=zq hOB;go_wp2_with fail;refine(opnext_any oo (ra::aa::U) g wb w6 HN6.out HB6.out HG.out).mono ?_;rintro e_ w7 ⟨rfl,hn_,hg_⟩;have HN7:=zq hn_;have HB7:=zq (below_only HB6.out hg_ HB6.out.size HG.out);have HW7:=zq (only_trans HW6.out hg_);have HM7:=zq (HM6.out.grow hg_ (by intro e_;injection e_ with e_;omega));have HZ7:=zq (HZ6.out.grow hg_ (by intro e_;injection e_ with e_;omega));clear hn_ hg_ HN6 HB6 HW6 HM6 HZ6;have HN8:=zq (HN7.out.grow (only_row11 w7 g3 #[.bool true,.int .i64 S,.bool OB]) (by intro e_;injection e_ with e_;omega));have HB8:=zq (below_row (g:=g3) HB7.out (by omega) #[.bool true,.int .i64 S,.bool OB]);have HW8:=zq (grow_new17 (g:=g3) HW7.out (by omega) #[.bool true,.int .i64 S,.bool OB]);have HM8:=zq (has_row11 HM7.out #[.bool true,.int .i64 S,.bool OB]);have HZ8:=zq (has_rowo11 (g:=g3) HZ7.out (by omega) #[.bool true,.int .i64 S,.bool OB]);obtain⟨w8,hw8⟩: ∃u,w7.setRow g3 #[.bool true,.int .i64 S,.bool OB]=u:=⟨_,rfl⟩
  rw[hw8]at HN8 HB8 HW8 HM8 HZ8;have HQ8:=zq hw8;clear hw8;go_upto_region 8 with(with_reducible refine wpList_store_cell17 (o:=⟨none,_,_,_,_,_⟩) rfl 4 _ _ rfl (g3) 2 (.bool OB) rfl rfl 180 #[.bool true,.int .i64 S,.bool false] HM7.out (Nat.le_of_ble_eq_true rfl) (by kernel_rfl) rfl #[.bool true,.int .i64 S,.bool OB] rfl ?_)
  rw[HQ8.out];clear hOB HQ8 HN7 HB7 HW7 HM7 HZ7;go_wp2_with fail;refine(opskip_any (ra::aa::U) 2 (by simp) g wb w8 HN8.out HB8.out HG.out).mono ?_;rintro e_ w9 ⟨rfl,hn_,hg_⟩;have hn_:NumR wb w9 g (U):=hn_;have HN9:=zq hn_;have HB9:=zq (below_only HB8.out hg_ HB8.out.size HG.out);have HW9:=zq (only_trans HW8.out hg_);have HM9:=zq (HM8.out.grow hg_ (by intro e_;injection e_ with e_;omega));have HZ9:=zq (HZ8.out.grow hg_ (by intro e_;injection e_ with e_;omega));clear hn_ hg_ HN8 HB8 HW8 HM8 HZ8;have HR:=zq (has_row11 HZ9.out #[.bool true,.int .i64 S,.bool OB]);have HWF:=zq (grow_new17 (g:=w.heap.size) HW9.out (Nat.le_refl _) #[.bool true,.int .i64 S,.bool OB]);have HNF:=zq (HN9.out.grow (only_row11 w9 (w.heap.size) #[.bool true,.int .i64 S,.bool OB]) (by intro e_;injection e_ with e_;omega));go_wp2_with (first|(with_reducible refine ldZ 28 HM9.out ?_)|(with_reducible refine stZ #[.bool true,.int .i64 S,.bool OB] HZ9.out ?_));refine roZ HR.out ?_;exact⟨by rw[show lkA17 (⟨true,c*16384+b,oo==0⟩:Lk17)=lkA17 ⟨true,C+b,oo==0⟩from by rw[HC.out]];unfold lkA17;dsimp only;rw[HOB.out,HS.out],HNF.out,HWF.out⟩
 ·
  go_enter Tryz.func130,Tryz.ntmps130;go_upto_region 1 with fail;rw[HWA.out];clear HWA;go_upto_region 2 with fail;rw[HQ0.out];simp only[HG3.out];clear HQ0 HG3;go_wp2_with fail;refine(opskip_any (d::0::b::oo::ra::aa::U) 1 (by simp) g wb w0 HN0.out HB0.out HG.out).mono ?_;rintro e_ w1 ⟨rfl,hn_,hg_⟩;have hn_:NumR wb w1 g (0::b::oo::ra::aa::U):=hn_;have HN1:=zq hn_;have HB1:=zq (below_only HB0.out hg_ HB0.out.size HG.out);have HW1:=zq (only_trans HW0.out hg_);have HM1:=zq (HM0.out.grow hg_ (by intro e_;injection e_ with e_;omega));have HZ1:=zq (HZ0.out.grow hg_ (by intro e_;injection e_ with e_;omega));clear hn_ hg_ HN0 HB0 HW0 HM0 HZ0;go_wp2_with fail;refine(opnext_any 0 (b::oo::ra::aa::U) g wb w1 HN1.out HB1.out HG.out).mono ?_;rintro e_ w2 ⟨rfl,hn_,hg_⟩;have HN2:=zq hn_;have HB2:=zq (below_only HB1.out hg_ HB1.out.size HG.out);have HW2:=zq (only_trans HW1.out hg_);have HM2:=zq (HM1.out.grow hg_ (by intro e_;injection e_ with e_;omega));have HZ2:=zq (HZ1.out.grow hg_ (by intro e_;injection e_ with e_;omega));clear hn_ hg_ HN1 HB1 HW1 HM1 HZ1;have HN3:=zq (HN2.out.grow (only_row11 w2 g3 #[.bool false,.int .i64 0,.bool false]) (by intro e_;injection e_ with e_;omega));have HB3:=zq (below_row (g:=g3) HB2.out (by omega) #[.bool false,.int .i64 0,.bool false]);have HW3:=zq (grow_new17 (g:=g3) HW2.out (by omega) #[.bool false,.int .i64 0,.bool false]);have HM3:=zq (has_row11 HM2.out #[.bool false,.int .i64 0,.bool false]);have HZ3:=zq (has_rowo11 (g:=g3) HZ2.out (by omega) #[.bool false,.int .i64 0,.bool false]);obtain⟨w3,hw3⟩: ∃u,w2.setRow g3 #[.bool false,.int .i64 0,.bool false]=u:=⟨_,rfl⟩
  rw[hw3]at HN3 HB3 HW3 HM3 HZ3;have HQ3:=zq hw3;clear hw3;go_upto_region 4 with(with_reducible refine wpList_store_cell17 (o:=⟨none,_,_,_,_,_⟩) rfl 4 _ _ rfl (g3) 0 (.bool false) rfl rfl 180 #[.bool false,.int .i64 0,.bool false] HM2.out (Nat.le_of_ble_eq_true rfl) (by kernel_rfl) rfl #[.bool false,.int .i64 0,.bool false] rfl ?_)
  rw[HQ3.out];clear HQ3 HN2 HB2 HW2 HM2 HZ2;have m0:w3.cell? ⟨g3,0,none⟩=some (.bool false):=HM3.out.cell 0;go_upto_region 6 with fail;obtain⟨S,hS⟩: ∃s,b=s:=⟨_,rfl⟩
  have hws:IntKind.i64.wrap (b)=S:=by rw[IntKind.wrap_i64];omega
  have HS:=zq hS;have HWS:=zq hws;clear hS hws;go_cut [] (fun wx=>NumR wb wx g (oo::ra::aa::U)/\Below wb.heap.size wb wx/\w.grownBy wx (some g)/\Has wx g3 180 #[.bool false,.int .i64 S,.bool false]/\Has wx (w.heap.size) 180 #[.bool false,.int .i64 0,.bool false])
  case first=>
   have HND:=zq (HN3.out.draw17);refine wp_region_held_drew (S:=(fun W_=>(w.grownBy W_ (some g))/\(Below wb.heap.size wb W_)/\(Has W_ (w.heap.size) 180 #[.bool false,.int .i64 0,.bool false]))) (by kernel_rfl) ?_ (fun hHeld=>?_)
   ·exact⟨only_draw HW3.out,below_dr11 HB3.out,HZ3.out.draw⟩
   have HM3:=zq HM3.out.draw;refine tkZ 0 16 (h:=?_);simp only[lyZ];refine tkZ 2 18 (h:=?_);simp only[lyZ];refine rdZ [1,3] (acZ (some 17) (fun K hK=>?za7) (acZ (some 19) (fun K hK=>?zb7) AllReadyH.nil))
   case' za7=>
    skip;obtain⟨s0,s1,s2⟩:=hHeld;have q_:=HM3.out.cell 1;go_simp;clear q_;refine hK.out _ _ ?_ (fun hHeld=>?_)
    ·exact⟨s0,s1,s2⟩
    clear hK K s0 s1 s2
    try simp only[lyZ]
    refine aoZ 3 (some 19) (fun K hK=>?_);go_simp;obtain⟨s0,s1,s2⟩:=hHeld;refine(opnext_any b (oo::ra::aa::U) g wb _ HND.out s1 HG.out).mono ?_;rintro e_ q1 ⟨rfl,hn_,hg_⟩;have HM3:=zq (HM3.out.grow hg_ (by intro e_;injection e_ with e_;omega));have HNX:=zq (hn_);go_wp2_with fail;refine hK.out _ _ ?_ (fun hHeld=>?_)
    ·exact⟨only_trans s0 hg_,below_only s1 hg_ s1.size HG.out,s2.grow hg_ (by intro e_;injection e_ with e_;omega)⟩
   case' zb7=>
    go_simp;obtain⟨s0,s1,s2⟩:=hHeld;refine(opnext_any b (oo::ra::aa::U) g wb _ HND.out s1 HG.out).mono ?_;rintro e_ q1 ⟨rfl,hn_,hg_⟩;have HM3:=zq (HM3.out.grow hg_ (by intro e_;injection e_ with e_;omega));have HNX:=zq (hn_);go_wp2_with fail;refine hK.out _ _ ?_ (fun hHeld=>?_)
    ·exact⟨only_trans s0 hg_,below_only s1 hg_ s1.size HG.out,s2.grow hg_ (by intro e_;injection e_ with e_;omega)⟩
    clear hK K s0 s1 s2
    try simp only[lyZ]
    refine aoZ 1 (some 17) (fun K hK=>?_);skip;obtain⟨s0,s1,s2⟩:=hHeld;have q_:=HM3.out.cell 1;go_simp;clear q_;refine hK.out _ _ ?_ (fun hHeld=>?_)
    ·exact⟨s0,s1,s2⟩
   all_goals
    clear hK K s0 s1 s2
    try simp only[lyZ]
    refine tqZ 4 20 (fun w_ ⟨s0,s1,s2⟩=>HWS.out) (h:=?_);simp only[lyZ];refine tkZ 5 21 (h:=?_);simp only[lyZ];refine aoZ 6 none (fun K hK=>?_);rw[if_pos (by rfl)];obtain⟨s0,s1,s2⟩:=hHeld;refine wp_store_cell17 3 _ _ rfl (g3) 1 (.int .i64 S) (by rfl) (by rfl) 180 #[.bool false,.int .i64 0,.bool false] HM3.out (Nat.le_of_ble_eq_true rfl) (by kernel_rfl) rfl #[.bool false,.int .i64 S,.bool false] rfl ?_;have HNX:=zq (HNX.out.grow (only_row11 _ (g3) #[.bool false,.int .i64 S,.bool false]) (by intro e_;injection e_ with e_;omega));refine hK.out _ _ ?_ (fun hHeld=>?_)
    ·exact⟨grow_new17 (g:=g3) s0 (by omega) _,below_row (g:=g3) s1 (by omega) _,has_rowo11 (g:=g3) s2 (by omega) _⟩
    have HM3:=zq (has_row11 HM3.out #[.bool false,.int .i64 S,.bool false]);clear hK K s0 s1 s2
    try simp only[Act.put]
    refine dnZ ?_;go_wp2_with fail;go_meet
    exact⟨HNX.out,hHeld.2.1,hHeld.1,HM3.out,hHeld.2.2⟩
  obtain⟨hn_,hb_,hw_,hm_,hz_⟩:=hcut;obtain⟨w4,hw4⟩: ∃u,u=wc:=⟨_,rfl⟩
  subst hw4;have HN4:=zq hn_;have HB4:=zq hb_;have HW4:=zq hw_;have HM4:=zq hm_;have HZ4:=zq hz_;clear hn_ hb_ hw_ hm_ hz_ HWS HN3 HB3 HW3 HM3 HZ3;obtain⟨OB,hOB⟩: ∃q,(oo==0)=q:=⟨_,rfl⟩
  have HOB:=zq hOB;go_wp2_with fail;refine(opnext_any oo (ra::aa::U) g wb w4 HN4.out HB4.out HG.out).mono ?_;rintro e_ w5 ⟨rfl,hn_,hg_⟩;have HN5:=zq hn_;have HB5:=zq (below_only HB4.out hg_ HB4.out.size HG.out);have HW5:=zq (only_trans HW4.out hg_);have HM5:=zq (HM4.out.grow hg_ (by intro e_;injection e_ with e_;omega));have HZ5:=zq (HZ4.out.grow hg_ (by intro e_;injection e_ with e_;omega));clear hn_ hg_ HN4 HB4 HW4 HM4 HZ4;have HN6:=zq (HN5.out.grow (only_row11 w5 g3 #[.bool false,.int .i64 S,.bool OB]) (by intro e_;injection e_ with e_;omega));have HB6:=zq (below_row (g:=g3) HB5.out (by omega) #[.bool false,.int .i64 S,.bool OB]);have HW6:=zq (grow_new17 (g:=g3) HW5.out (by omega) #[.bool false,.int .i64 S,.bool OB]);have HM6:=zq (has_row11 HM5.out #[.bool false,.int .i64 S,.bool OB]);have HZ6:=zq (has_rowo11 (g:=g3) HZ5.out (by omega) #[.bool false,.int .i64 S,.bool OB]);obtain⟨w6,hw6⟩: ∃u,w5.setRow g3 #[.bool false,.int .i64 S,.bool OB]=u:=⟨_,rfl⟩
  rw[hw6]at HN6 HB6 HW6 HM6 HZ6;have HQ6:=zq hw6;clear hw6;go_upto_region 8 with(with_reducible refine wpList_store_cell17 (o:=⟨none,_,_,_,_,_⟩) rfl 4 _ _ rfl (g3) 2 (.bool OB) rfl rfl 180 #[.bool false,.int .i64 S,.bool false] HM5.out (Nat.le_of_ble_eq_true rfl) (by kernel_rfl) rfl #[.bool false,.int .i64 S,.bool OB] rfl ?_)
  rw[HQ6.out];clear hOB HQ6 HN5 HB5 HW5 HM5 HZ5;go_wp2_with fail;refine(opskip_any (ra::aa::U) 2 (by simp) g wb w6 HN6.out HB6.out HG.out).mono ?_;rintro e_ w7 ⟨rfl,hn_,hg_⟩;have hn_:NumR wb w7 g (U):=hn_;have HN7:=zq hn_;have HB7:=zq (below_only HB6.out hg_ HB6.out.size HG.out);have HW7:=zq (only_trans HW6.out hg_);have HM7:=zq (HM6.out.grow hg_ (by intro e_;injection e_ with e_;omega));have HZ7:=zq (HZ6.out.grow hg_ (by intro e_;injection e_ with e_;omega));clear hn_ hg_ HN6 HB6 HW6 HM6 HZ6;have HR:=zq (has_row11 HZ7.out #[.bool false,.int .i64 S,.bool OB]);have HWF:=zq (grow_new17 (g:=w.heap.size) HW7.out (Nat.le_refl _) #[.bool false,.int .i64 S,.bool OB]);have HNF:=zq (HN7.out.grow (only_row11 w7 (w.heap.size) #[.bool false,.int .i64 S,.bool OB]) (by intro e_;injection e_ with e_;omega));go_wp2_with (first|(with_reducible refine ldZ 28 HM7.out ?_)|(with_reducible refine stZ #[.bool false,.int .i64 S,.bool OB] HZ7.out ?_));refine roZ HR.out ?_;exact⟨by rw[show lkA17 (⟨false,b,oo==0⟩:Lk17)=lkA17 ⟨false,b,oo==0⟩from rfl];unfold lkA17;dsimp only;rw[HOB.out,HS.out],HNF.out,HWF.out⟩
theorem SlK.pk17 {w:World}{A:Option Addr}{n c:Nat}{l:List PkE}(h:SlK w A n c l){j:Nat}{x:PkE}(hx:l[j]?=some x):
  ∃b off,A=some ⟨b,off,none⟩/\w.cell? ⟨b,off+j*2,none⟩=some (.int .i64 x.id)/\w.cell? ⟨b,off+j*2+1,none⟩=some (.slice x.A x.n x.c):=by
 obtain⟨hj,rfl⟩:=List.getElem?_eq_some_iff.1 hx;exact h.at_ hj
theorem oix_pk17 (p:PkE->Bool)(l:List PkE)(A:Option Addr)(n c:Nat)(w:World)(hs:SlK w A n c l)(hbig:n<=1048576)
  (HE:Hid (∀(x:PkE) W,Below w.heap.size w W->Calls Tryz.prog 129 #[.agg #[.int .i64 x.id,.slice x.A x.n x.c]] W fun e w'=>e= .returned (.bool (p x))/\Below W.heap.size W w')):
  Calls Tryz.prog 128 #[.slice A n c,.func (.func 129) #[] #[]] w fun e w'=>e= .returned (.int .i64 (idxL p l))/\Below w.heap.size w w':=by
 have HN:Hid (l.length=n):=zq hs.len;have HW:=zq hs;clear hs;have x0:(0:Int)<=n:=by omega
 obtain⟨R,hR⟩:=geZ (idxL p l);have HR:=zq hR;rw[hR];clear hR;go_enter Tryz.func128,Tryz.ntmps128;go_wp2;go_loopg [8] n (fun kk v wl=> ∃j:Nat,j<=n/\n-j<=kk/\v= .int .i64 j/\Hid (∀i x,i<j->l[i]?=some x->p x=false)/\Hid (Below w.heap.size w wl))
 case atStart=>exact⟨0,by omega,by omega,rfl,zq fun i x h=>absurd h (by omega),zq (Below.refl _ _)⟩
 obtain⟨j,hj,hjk,rfl,HNO,HBL⟩:=hrel;by_cases hlt:j<n
 ·obtain⟨x,hx⟩:=glZ l (j) (by rw[HN.out];omega)
  obtain⟨bk,off,rfl,d0,d1⟩:=(HW.out.under HBL.out).pk17 hx;have HX:=zq hx;have y0:(0:Int)<=j:=by omega
  have y1:(j:Int)<n:=by omega
  have HC:=zq (HE.out x wr HBL.out);clear hx;generalize hb:p x=b at*;have HBE:=zq hb;clear hb
  cases b with
  |true=>
   have HF:Hid (R=j):=zq (by rw[<-HR.out];exact idx_hit HX.out HBE.out HNO.out);go_upto_region 4 with fail;go_wp2_with fail;refine HC.out.mono ?_;rintro e w1 ⟨rfl,hb1⟩;have HB1:=tB HBL hb1;clear hb1 d0 d1 HBE HNO;go_wp2;go_ret
   exact⟨by rw[HF.out];rfl,HB1.out⟩
  |false=>
   go_upto_region 4 with fail;go_wp2_with fail;refine HC.out.mono ?_;rintro e w1 ⟨rfl,hb1⟩;have HB1:=tB HBL hb1;have HN2:Hid (∀i y,i<j+1->l[i]?=some y->p y=false):=zq fun i y hi hy=>by
    by_cases h:i=j
    ·subst h;rw[HX.out]at hy;cases hy;exact HBE.out
    ·exact HNO.out i y (by omega) hy
   clear hb1 d0 d1 HBE HNO;go_wp2;go_roundg (gk-1)
   case measure=>omega
   case rel=>exact⟨j+1,by omega,by omega,by go_num,HN2,HB1⟩
 ·have y1: ¬(j:Int)<n:=by omega
  have HF:Hid (R= -1):=zq (by rw[<-HR.out];exact idx_miss fun i y hi hy=>HNO.out i y (by have:=HN.out;omega) hy);go_wp2;go_ret
  exact⟨by rw[HF.out];rfl,HBL.out⟩
theorem oprl1_any (id:Int)(A:Option Addr)(n c:Nat)(w:World):Calls Tryz.prog 129 #[.agg #[.int .i64 id,.slice A n c]] w fun e w'=>e= .returned (.bool (id==5))/\Below w.heap.size w w':=by
 obtain⟨wa,hwa,hbwa,HWA,HBWA,h0⟩:=bx1Z w 98 #[.int .i64 id,.slice A n c];have c0:wa.cell? ⟨w.heap.size,0,none⟩=some (.int .i64 id):=h0.cell 0;clear hwa hbwa h0;obtain⟨q,hq⟩:=geZ ((id==5));rw[hq];go_enter Tryz.func129,Tryz.ntmps129;go_upto_region 1 with fail;rw[HWA.out];clear HWA;go_wp2;go_ret
 exact⟨by first|rfl|(rw[hq];done)|simp_all,HBWA.out⟩
def LinksP (l:List PkE)(ks:List Lk17):Prop:=match (pkPlain l).find? fun q=>q.1==5 with
 |none=>ks=[]
 |some q=> ∀(t:Tp3) (path:List St3),linkedE t path q.2=followE t path ks
theorem plain_find17 (l:List PkE):(pkPlain l).find? (fun q=>q.1==5)=(l.find? fun p=>p.id==5).map fun p=>(p.id,p.V):=by
 unfold pkPlain;rw[List.find?_map]
 rfl
theorem oprdlinks_any (l:List PkE)(A:Option Addr)(n c:Nat)(w:World)(hs:SlK w A n c l)(hn:n<=30)(hv: ∀p∈l,p.n<=3000)(hok: ∀p∈l,itemsOk (p.id,p.V)=true):
  Calls Tryz.prog 66 #[.slice A n c] w fun r w'=> ∃(ks:List Lk17) (B:Option Addr) (m d:Nat),r= .returned (.slice B m d)/\SlO lkC17 3 w' B m d ks/\m<=32/\LinksP l ks/\Below w.heap.size w w':=by
 have HE:Hid (∀(x:PkE) W,Below w.heap.size w W->Calls Tryz.prog 129 #[.agg #[.int .i64 x.id,.slice x.A x.n x.c]] W fun e w'=>e= .returned (.bool (x.id==5))/\Below W.heap.size W w'):=zq fun x W _=>oprl1_any x.id x.A x.n x.c W;have HIX:=zq (oix_pk17 (fun x=>x.id==5) l A n c w hs (by omega) HE);have hfi:=idx_find (fun x:PkE=>x.id==5) l;have HPF:=zq (plain_find17 l);have HLN:=zq hs.len
 rcases hfi with⟨h1,h2⟩|⟨j,y,h1,h2,h3⟩
 ·rw[h1]at HIX
  have HLP:=zq (show LinksP l []from by unfold LinksP;rw[HPF.out,h2];rfl);clear h1 h2 hs hn hv hok HE HPF;go_enter Tryz.func66,Tryz.ntmps66;go_wp2_with fail;refine HIX.out.mono ?_;rintro e_ w1 ⟨rfl,hb1⟩;have HB1:=zq hb1;clear hb1 HIX;go_wp2;go_ret
  exact⟨[],none,0,0,rfl,SlO.nil _ _ _,by omega,HLP.out,HB1.out⟩
 ·rw[h2]at HIX
  have hy:=List.mem_of_getElem? h1;have hid5:y.id=5:=by have h4:=List.find?_some h3;simpa using h4
  have hyk:=hok y hy;rw[hid5]at hyk;obtain⟨dd,uu,R0,R1,nn,k0,ks,hyV,hk0,hnr,hks,hkr⟩:=five_shape17 hyk;have HLP:=zq (show LinksP l (k0::ks)from by unfold LinksP;rw[HPF.out,h3];show∀(t:Tp3) (path:List St3),linkedE t path y.V=followE t path (k0::ks);intro t path;rw[hyV];exact(follow_linked17 hk0 hks hkr).symm);obtain⟨N,hN⟩: ∃N:Nat,nn=(N:Int):=⟨nn.toNat,by omega⟩
  subst hN;have hyS:=hs.each y hy;have HYS:=zq (fun W (hW:Below w.heap.size w W)=>(⟨hyS.len,by rw[flat_ints17];exact hyS.sl.under hW⟩:SlO inC 1 W y.A y.n y.c y.V));have HYC:=zq (show y.n<=y.c/\y.n<=10000 from⟨hyS.cap,by have:=hv y hy;omega⟩);have HSK:=zq (fun W (hW:Below w.heap.size w W)=>(hs.under hW).pk17 h1);have hjn:j<n:=by rw[<-hs.len];exact(List.getElem?_eq_some_iff.1 h1).1
  have HK0:=zq hk0;have HKR:=zq hkr;have HNB:=zq (show N<=31/\ks.length=N from by omega);have hj30:j<30:=by omega
  rw[hyV]at HYS;clear h1 h2 h3 hy hid5 hyk hyV hk0 hnr hks hkr hyS hs hn hv hok HE HPF HLN;go_enter Tryz.func66,Tryz.ntmps66;go_wp2_with fail;refine HIX.out.mono ?_;rintro e_ w1 ⟨rfl,hb1⟩;have HB1:=zq hb1;obtain⟨bk,off,rfl,e0,e1⟩:=HSK.out w1 hb1;clear hb1 HIX HSK;have x1:(0:Int)<=j:=by omega
  have x2:(j:Int)<n:=by omega
  have q1:decide ((j:Int)<0)=false:=decide_eq_false (by omega);obtain⟨w2,hw2⟩: ∃u,w1.alloc (.cells #[.slice y.A y.n y.c] 172)=u:=⟨_,rfl⟩
  have hb2:Below w1.heap.size w1 w2:=by rw[<-hw2];exact bA
  have hH2:Has w2 w1.heap.size 172 #[.slice y.A y.n y.c]:=by rw[<-hw2];exact Has.made _ _ _
  obtain⟨g,hg⟩:=geZ (w1.heap.size);rw[hg]at hH2;have HN2:=zq (show NumR w w2 g (dd::uu::R0)from⟨y.A,y.n,y.c,hH2,HYS.out,HYC.out.1,HYC.out.2⟩);have HG:=zq (show w.heap.size<=g from by rw[<-hg];exact HB1.out.size);have HB2:=tB HB1 hb2;have HW2:=zq hw2;have HGQ:=zq hg;clear hw2 hb2 hH2 hg HYS HYC;go_upto_region 5 with fail;rw[HW2.out];simp only[HGQ.out];clear HW2 HGQ e0 e1 x1 x2 q1 hjn hj30 HB1;go_wp2_with fail;refine(opskip_any (dd::uu::R0) 2 (by simp) g w w2 HN2.out HB2.out HG.out).mono ?_;rintro e_ w3 ⟨rfl,hn_,hg_⟩;have HN3:=zq (show NumR w w3 g R0 from hn_);have HB3:=zq (below_only HB2.out hg_ HB2.out.size HG.out);clear hn_ hg_ HN2 HB2;go_wp2_with fail;refine(oprdlink_any k0 R0 _ HK0.out g w w3 HN3.out HB3.out HG.out).mono ?_;unfold lkA17;rintro e_ w4 ⟨rfl,hn_,hg_⟩;have HN4:=zq hn_;have HB4:=zq (below_only HB3.out hg_ HB3.out.size HG.out);clear hn_ hg_ HN3 HB3;obtain⟨w5,hw5⟩: ∃u,w4.alloc (.cells #[.bool k0.told,.int .i64 k0.group,.bool k0.rev] 180)=u:=⟨_,rfl⟩
  have hb5:Below w4.heap.size w4 w5:=by rw[<-hw5];exact bA
  have HO5:=zq (show OwR lkC17 3 180 w.heap.size w5 (some ⟨w4.heap.size,0,none⟩) 1 1 [k0]from by rw[<-hw5];exact⟨World.ownsRow_lit (base:=w.heap.size) (e:=180) (size:=3) w4 #[.bool k0.told,.int .i64 k0.group,.bool k0.rev] 1 HB4.out.size (by unfold maxLen;omega) rfl,rfl⟩);have HN5:=zq (HN4.out.under hb5);have HB5:=tB HB4 hb5;have HW5:=zq hw5;clear hw5 hb5 HN4 HB4;go_upto_region 7 with fail;rw[HW5.out];clear HW5;go_wp2_with fail;refine(opnext_any (N:Int) R1 g w w5 HN5.out HB5.out HG.out).mono ?_;rintro e_ w6 ⟨rfl,hn_,hg_⟩;have HN6:=zq hn_;have HB6:=zq (below_only HB5.out hg_ HB5.out.size HG.out);have HO6:=zq (HO5.out.kept hg_ (.inr (by obtain⟨A_,n_,c_,hh_,_⟩:=HN5.out;exact HO5.out.apart hh_ (by decide))));clear hn_ hg_ HN5 HB5 HO5;have hnb:N<=31:=HNB.out.1;go_wp2;go_loopg [5,20] N (fun kk v5 v20 wl=> ∃(i:Nat) (B:Option Addr) (d:Nat) (q:List Lk17) (W:List Int),i<=N/\N-i<=kk/\v20= .int .i64 i/\v5= .slice B (i+1) d/\Hid (q=k0::ks.take i)/\Hid (OwR lkC17 3 180 w.heap.size wl B (i+1) d q)/\Hid (NumR w wl g W)/\Hid (LnksSh (ks.drop i) W [])/\Hid (Below w.heap.size w wl))
  case atStart=>exact⟨0,_,1,[k0],R1,by omega,by omega,rfl,rfl,zq rfl,HO6,HN6,HKR,HB6⟩
  clear HO6 HN6 HKR HB6;obtain⟨i,B,d,q,W,hi,hik,rfl,rfl,HQI,HO,HNW,HLS,HB⟩:=hrel;obtain⟨k1,hk1⟩: ∃k1,k1=gk:=⟨_,rfl⟩
  subst hk1;obtain⟨wv,hwv⟩: ∃wv,wv=wr:=⟨_,rfl⟩
  subst hwv;by_cases hlt:i<N;rotate_left
  ·obtain rfl:i=N:=by omega
   have y1: ¬(i:Int)<i:=by omega
   have HKS:=zq (show q=k0::ks from by rw[HQI.out,List.take_of_length_le (by rw[HNB.out.2];exact Nat.le_refl _)]);have HMB:=zq (show i+1<=32 from by omega);go_wp2;go_ret
   exact⟨k0::ks,B,i+1,d,rfl,by rw[<-HKS.out];exact HO.out.sl,HMB.out,HLP.out,HB.out⟩
  ·obtain⟨kk_,hkk⟩: ∃q,ks[i]?=some q:=⟨_,List.getElem?_eq_getElem (by rw[HNB.out.2];exact hlt)⟩
   have hls:=HLS.out;rw[drop_at15 hkk]at hls;obtain⟨W2,hkW,hrs⟩:=hls;have HTK:=zq (show q++[kk_]=k0::ks.take (i+1)from by rw[HQI.out,List.take_add_one,hkk];rfl);have HKW:=zq hkW;have HRS:=zq hrs;have x1:(i:Int)<N:=by omega
   have x2:(0:Int)<=i:=by omega
   have HIN:=zq (show i<N/\N-i<=k1 from⟨hlt,hik⟩);clear hkk hkW hrs hi hik hlt HLS;go_wp2_with fail;refine(oprdlink_any kk_ W _ HKW.out g w wv HNW.out HB.out HG.out).mono ?_;unfold lkA17;rintro e_ w7 ⟨rfl,hn_,hg_⟩;have HN7:=zq hn_;have HB7:=zq (below_only HB.out hg_ HB.out.size HG.out);have HO7:=zq (HO.out.kept hg_ (.inr (by obtain⟨A_,n_,c_,hh_,_⟩:=HNW.out;exact HO.out.apart hh_ (by decide))));clear hn_ hg_ HNW HB HO HKW;obtain⟨t_,gr_,rv_⟩:=kk_;dsimp only at*;have hib:=HIN.out.1;have hnb:=HNB.out.1;obtain⟨hO,hSL,h1,hBD⟩:=pourR 24 (HO7.out.under ((Below.refl _ _).alloc (Nat.le_refl _) (.cells #[.bool t_,.int .i64 gr_,.bool rv_] 180))) (⟨rfl,sl_hasR (Has.made _ _ _) rfl⟩:SlO lkC17 3 (w7.alloc (.cells #[.bool t_,.int .i64 gr_,.bool rv_] 180)) (some ⟨w7.heap.size,0,none⟩) 1 1 [⟨t_,gr_,rv_⟩]) one_lk17 (Nat.le_trans HB7.out.size (by simp)) (by omega) (by omega);go_wp2_with (with_reducible refine wpList_pour (o:=⟨some 25,_,_,_,_,_⟩) rfl (.tmp 22) (.tmp 24) 104 rfl w.heap.size 180 (.agg #[.bool false,.int .i64 0,.bool false]) 3 24 Tryz.underlying104 info_lk17 ?hz1 (by decide) B (i+1) d _ ?hs1 hO (some ⟨w7.heap.size,0,none⟩) 1 1 _ ?hx1 hSL h1 hBD ?next1)
   all_goals try rfl
   intro B8 d8 w8 ho8 hg8;have HO8:=zq (show OwR lkC17 3 180 w.heap.size w8 B8 (i+1+1) d8 (q++[⟨t_,gr_,rv_⟩])from OwR.poured (l':=[⟨t_,gr_,rv_⟩]) HO7.out.2 rfl ho8.out);have HB8:=zq (below_own (HB7.out.trans ((bA).mono HB7.out.size)) (Nat.le_trans HB7.out.size (by simp)) hO.out (Nat.le_refl _) rfl hg8.out);have HN8:=zq ((HN7.out.under ((Below.refl _ _).alloc (Nat.le_refl _) (.cells #[.bool t_,.int .i64 gr_,.bool rv_] 180))).grow hg8.out (by obtain⟨A_,n_,c_,hh_,_⟩:=HN7.out;exact Ne.symm (OwR.apart (show OwR lkC17 3 180 w.heap.size _ B (i+1) d q from⟨hO.out,HO7.out.2⟩) (hh_.beside _) (by decide))));clear ho8 hg8 hO hSL h1 hBD HO7 HB7 HN7 hib hnb;go_wp2;go_roundg (k1-1)
   case measure=>have:=HIN.out;omega
   case rel=>exact⟨i+1,B8,d8,q++[⟨t_,gr_,rv_⟩],W2,by have:=HIN.out;omega,by have:=HIN.out;omega,by first|go_num|(rw[IntWalk.wrap64_in _ (by have h1_:=HIN.out;have h2_:=HNB.out;omega)];go_num),rfl,HTK,HO8,HN8,HRS,HB8⟩
end
section
open Go.RowKit
def omPts (l:List Pt):List Pt:=plainPts [6,7,8]++(l++([.mk 27 0 (l++[])]++[]))
def reportPts (gs:List Nat):List Pt:=plainPts [7,8]++(plainPts gs++(plainPts [13,14,15,16,17]++([.mk 18 2 (plainPts [19])]++(plainPts [20,21,22]++([.mk 23 1 (plainPts [24])]++[])))))
theorem cat_lit (lo:Nat)(L:List PlT)(w:World)(hn:L.length<=100)(hx: ∀x∈L,Parts lo w.heap.size w x.1 x.2.1 x.2.2.1 x.2.2.2/\x.2.1<=100)(hlo:lo<=w.heap.size):
  Calls Tryz.prog 244 #[.slice (some ⟨w.heap.size,0,none⟩) L.length L.length] (w.alloc (.cells (pls L).toArray 252)) fun e w'=> ∃A' n' c',e= .returned (.slice A' n' c')/\Parts lo w'.heap.size w' A' n' c' (ptsOf L)/\Below w.heap.size w w':=
 (concat_lit lo L w hn hx hlo).mono fun _ _ ⟨A',c',h1,h2,h3⟩=>⟨A',_,c',h1,h2,h3⟩
theorem ifAny_lit (lo v k:Nat)(vs:List Nat)(w:World)(hk:k≠0)(hn:vs.length<=100)(hlo:lo<=w.heap.size):
  Calls Tryz.prog 261 #[.int .i64 (v:Int),.slice (some ⟨w.heap.size,0,none⟩) (onlyOf k).length (onlyOf k).length,.slice (some ⟨w.heap.size+1,0,none⟩) vs.length vs.length] ((w.alloc (.cells (nats (onlyOf k)).toArray 3)).alloc (.cells (nats vs).toArray 3)) fun e w'=> ∃A' c',e= .returned (.slice A' 1 c')/\Parts lo w'.heap.size w' A' 1 c' [.mk v k (plainPts vs)]/\Below w.heap.size w w':=by
 have h1:=slz_made lo w 3 (nats (onlyOf k)) (onlyOf k).length (by simp[nats]) hlo;have hb:Below w.heap.size w (w.alloc (.cells (nats (onlyOf k)).toArray 3)):=(Below.refl _ w).alloc (Nat.le_refl _) _;have hsz:(w.alloc (.cells (nats (onlyOf k)).toArray 3)).heap.size=w.heap.size+1:=by simp
 have hlo1:lo<=(w.alloc (.cells (nats (onlyOf k)).toArray 3)).heap.size:=Nat.le_trans hlo hb.size;generalize w.alloc (.cells (nats (onlyOf k)).toArray 3)=w1 at*;rw[<-hsz];have h2:=slz_made lo w1 3 (nats vs) vs.length (by simp[nats]) hlo1;have hb1:Below w1.heap.size w1 (w1.alloc (.cells (nats vs).toArray 3)):=(Below.refl _ w1).alloc (Nat.le_refl _) _;have h3:=h1.keep (zone_below hb1) (Nat.le_refl _) hb1.size;refine(ifAny_parts lo v k _ _ _ vs.length vs.length vs _ hk h3 h2.sl hn (Nat.le_trans hlo1 hb1.size)).mono ?_;rintro e w' ⟨A',c',rfl,hp,hb2⟩;exact⟨A',c',rfl,hp,(bu hb hb1).trans (hb2.mono (bu hb hb1).size)⟩
theorem oneOrMore_parts (lo:Nat)(A:Option Addr)(n c:Nat)(L:List PlT)(w0:World)(hs:Sl w0 1 A n c (pls L))(hn:n<=100)(hx: ∀x∈L,Parts lo w0.heap.size w0 x.1 x.2.1 x.2.2.1 x.2.2.2/\x.2.1<=100)(hlo:lo<=w0.heap.size)(hsum:(ptsOf L).length<=50):
  Calls Tryz.prog 247 #[.slice A n c] w0 fun e w'=> ∃A' n' c',e= .returned (.slice A' n' c')/\Parts lo w'.heap.size w' A' n' c' (omPts (ptsOf L))/\Below w0.heap.size w0 w':=by
 have HB0:=zq (Below.refl w0.heap.size w0);have HC:=zq (concat_parts lo A n c L w0 hs hn hx hlo);have HSM:=zq hsum;clear hs hx hsum;generalize ptsOf L=l at*;generalize numOf L=nl at*;go_enter Tryz.func247,Tryz.ntmps247;go_wp2_with fail;refine HC.out.mono ?_;rintro e w1 ⟨Al,cl,rfl,hp,hb⟩;have HNL:Hid (nl<=100):=zq (by rw[<-hp.len];have:=HSM.out;omega);have HB1:=zq hb;have HPL1:=zq hp;clear hp hb HC HB0;have HC:Hid (Calls Tryz.prog 245 #[.slice (some ⟨w1.heap.size,0,none⟩) 3 3] (w1.alloc (.cells #[.int .i64 6,.int .i64 7,.int .i64 8] 3)) fun e w'=> ∃A' c',e= .returned (.slice A' 3 c')/\Parts lo w'.heap.size w' A' 3 c' (plainPts [6,7,8])/\Below w1.heap.size w1 w'):=plain_lit lo [6,7,8] w1 (by decide) (Nat.le_trans hlo HB1.out.size);go_wp2_with fail;refine HC.out.mono ?_;rintro e w2 ⟨A1,c1,rfl,hp,hb⟩;have HB2:=tB HB1 hb;have HPL2:=zq (HPL1.out.under hb);have HP2:=zq hp;clear hp hb HC HB1 HPL1;have HC:Hid (Calls Tryz.prog 246 #[.slice (some ⟨w2.heap.size,0,none⟩) 1 1] (w2.alloc (.cells #[.slice Al nl cl] 252)) fun e w'=> ∃A' c',e= .returned (.slice A' 1 c')/\Parts lo w'.heap.size w' A' 1 c' [.mk 27 0 (l++[])]/\Below w2.heap.size w2 w'):=iter_lit lo [(Al,nl,cl,l)] w2 (by simp) (fun x hx=>by simp only[List.mem_cons,List.not_mem_nil,or_false]at hx;subst hx;exact⟨HPL2.out,HNL.out⟩) (Nat.le_trans hlo HB2.out.size);go_wp2_with fail;refine HC.out.mono ?_;rintro e w3 ⟨A2,c2,rfl,hp,hb⟩;have HB3:=tB HB2 hb;have HPL3:=zq (HPL2.out.under hb);have HP3:=zq (HP2.out.under hb);have HQ3:=zq hp;clear hp hb HC HB2 HPL2 HP2;have HC:Hid (Calls Tryz.prog 244 #[.slice (some ⟨w3.heap.size,0,none⟩) 3 3] (w3.alloc (.cells #[.slice A1 3 c1,.slice Al nl cl,.slice A2 1 c2] 252)) fun e w'=> ∃A' n' c',e= .returned (.slice A' n' c')/\Parts lo w'.heap.size w' A' n' c' (omPts l)/\Below w3.heap.size w3 w'):=cat_lit lo [(A1,3,c1,plainPts [6,7,8]),(Al,nl,cl,l),(A2,1,c2,[.mk 27 0 (l++[])])] w3 (by simp) (fun x hx=>by
  simp only[List.mem_cons,List.not_mem_nil,or_false]at hx
  rcases hx with rfl|rfl|rfl
  ·exact⟨HP3.out,by show(3:Nat)<=100;omega⟩
  ·exact⟨HPL3.out,HNL.out⟩
  ·exact⟨HQ3.out,by show(1:Nat)<=100;omega⟩) (Nat.le_trans hlo HB3.out.size)
 go_wp2_with fail;refine HC.out.mono ?_;rintro e w4 ⟨A4,n4,c4,rfl,hp,hb⟩;have HB4:=tB HB3 hb;have HP4:=zq hp;clear hp hb HC HB3 HPL3 HP3 HQ3;go_wp2;go_ret
 exact⟨A4,n4,c4,rfl,HP4.out,HB4.out⟩
theorem oneOrMore_lit (lo:Nat)(L:List PlT)(w:World)(hn:L.length<=100)(hx: ∀x∈L,Parts lo w.heap.size w x.1 x.2.1 x.2.2.1 x.2.2.2/\x.2.1<=100)(hlo:lo<=w.heap.size)(hsum:(ptsOf L).length<=50):
  Calls Tryz.prog 247 #[.slice (some ⟨w.heap.size,0,none⟩) L.length L.length] (w.alloc (.cells (pls L).toArray 252)) fun e w'=> ∃A' n' c',e= .returned (.slice A' n' c')/\Parts lo w'.heap.size w' A' n' c' (omPts (ptsOf L))/\Below w.heap.size w w':=by
 refine(oneOrMore_parts lo _ L.length _ L _ (slz_made lo w _ (pls L) L.length (by simp[pls]) hlo).sl hn (fun x h=>⟨(hx x h).1.beside _,(hx x h).2⟩) (by simp;omega) hsum).mono ?_;rintro e w' ⟨A',n',c',rfl,hp,hb⟩;exact⟨A',n',c',rfl,hp,((Below.refl _ w).alloc (Nat.le_refl _) _).trans (hb.mono (by simp))⟩
theorem report_parts (lo:Nat)(A:Option Addr)(n c:Nat)(gs:List Nat)(w0:World)(hs:Sl w0 1 A n c (nats gs))(hn:n<=10)(hlo:lo<=w0.heap.size):
  Calls Tryz.prog 243 #[.slice A n c] w0 fun e w'=> ∃A' n' c',e= .returned (.slice A' n' c')/\Parts lo w'.heap.size w' A' n' c' (reportPts gs)/\Below w0.heap.size w0 w':=by
 have HB0:=zq (Below.refl w0.heap.size w0);have HGS:=zq hs;clear hs;go_enter Tryz.func243,Tryz.ntmps243;have HC:Hid (Calls Tryz.prog 245 #[.slice (some ⟨w0.heap.size,0,none⟩) 2 2] (w0.alloc (.cells #[.int .i64 7,.int .i64 8] 3)) fun e w'=> ∃A' c',e= .returned (.slice A' 2 c')/\Parts lo w'.heap.size w' A' 2 c' (plainPts [7,8])/\Below w0.heap.size w0 w'):=plain_lit lo [7,8] w0 (by decide) (Nat.le_trans hlo HB0.out.size);go_wp2_with fail;refine HC.out.mono ?_;rintro e w1 ⟨A0,c0,rfl,hp,hb⟩;have HB1:=tB HB0 hb;have HP0_1:=zq hp;clear hp hb HC HB0;have HC:=zq (plain_parts lo A n c gs w1 (HGS.out.under HB1.out) (by omega) (Nat.le_trans hlo HB1.out.size));go_wp2_with fail;refine HC.out.mono ?_;rintro e w2 ⟨A1,c1,rfl,hp,hb⟩;have HB2:=tB HB1 hb;have HP0_2:=zq (HP0_1.out.under hb);have HP1_2:=zq hp;clear hp hb HC HB1 HP0_1;have HC:Hid (Calls Tryz.prog 245 #[.slice (some ⟨w2.heap.size,0,none⟩) 5 5] (w2.alloc (.cells #[.int .i64 13,.int .i64 14,.int .i64 15,.int .i64 16,.int .i64 17] 3)) fun e w'=> ∃A' c',e= .returned (.slice A' 5 c')/\Parts lo w'.heap.size w' A' 5 c' (plainPts [13,14,15,16,17])/\Below w2.heap.size w2 w'):=plain_lit lo [13,14,15,16,17] w2 (by decide) (Nat.le_trans hlo HB2.out.size);go_wp2_with fail;refine HC.out.mono ?_;rintro e w3 ⟨A2,c2,rfl,hp,hb⟩;have HB3:=tB HB2 hb;have HP0_3:=zq (HP0_2.out.under hb);have HP1_3:=zq (HP1_2.out.under hb);have HP2_3:=zq hp;clear hp hb HC HB2 HP0_2 HP1_2;have HC:Hid (Calls Tryz.prog 261 #[.int .i64 18,.slice (some ⟨w3.heap.size,0,none⟩) 2 2,.slice (some ⟨w3.heap.size+1,0,none⟩) 1 1] ((w3.alloc (.cells #[.int .i64 1,.int .i64 2] 3)).alloc (.cells #[.int .i64 19] 3)) fun e w'=> ∃A' c',e= .returned (.slice A' 1 c')/\Parts lo w'.heap.size w' A' 1 c' [.mk 18 2 (plainPts [19])]/\Below w3.heap.size w3 w'):=ifAny_lit lo 18 2 [19] w3 (by decide) (by decide) (Nat.le_trans hlo HB3.out.size);go_wp2_with fail;refine HC.out.mono ?_;rintro e w4 ⟨A3,c3,rfl,hp,hb⟩;have HB4:=tB HB3 hb;have HP0_4:=zq (HP0_3.out.under hb);have HP1_4:=zq (HP1_3.out.under hb);have HP2_4:=zq (HP2_3.out.under hb);have HP3_4:=zq hp;clear hp hb HC HB3 HP0_3 HP1_3 HP2_3;have HC:Hid (Calls Tryz.prog 245 #[.slice (some ⟨w4.heap.size,0,none⟩) 3 3] (w4.alloc (.cells #[.int .i64 20,.int .i64 21,.int .i64 22] 3)) fun e w'=> ∃A' c',e= .returned (.slice A' 3 c')/\Parts lo w'.heap.size w' A' 3 c' (plainPts [20,21,22])/\Below w4.heap.size w4 w'):=plain_lit lo [20,21,22] w4 (by decide) (Nat.le_trans hlo HB4.out.size);go_wp2_with fail;refine HC.out.mono ?_;rintro e w5 ⟨A4,c4,rfl,hp,hb⟩;have HB5:=tB HB4 hb;have HP0_5:=zq (HP0_4.out.under hb);have HP1_5:=zq (HP1_4.out.under hb);have HP2_5:=zq (HP2_4.out.under hb);have HP3_5:=zq (HP3_4.out.under hb);have HP4_5:=zq hp;clear hp hb HC HB4 HP0_4 HP1_4 HP2_4 HP3_4;have HC:Hid (Calls Tryz.prog 248 #[.int .i64 23,.slice (some ⟨w5.heap.size,0,none⟩) 1 1] (w5.alloc (.cells #[.int .i64 24] 3)) fun e w'=> ∃A' c',e= .returned (.slice A' 1 c')/\Parts lo w'.heap.size w' A' 1 c' [.mk 23 1 (plainPts [24])]/\Below w5.heap.size w5 w'):=ifOne_lit lo 23 [24] w5 (by decide) (Nat.le_trans hlo HB5.out.size);go_wp2_with fail;refine HC.out.mono ?_;rintro e w6 ⟨A5,c5,rfl,hp,hb⟩;have HB6:=tB HB5 hb;have HP0_6:=zq (HP0_5.out.under hb);have HP1_6:=zq (HP1_5.out.under hb);have HP2_6:=zq (HP2_5.out.under hb);have HP3_6:=zq (HP3_5.out.under hb);have HP4_6:=zq (HP4_5.out.under hb);have HP5_6:=zq hp;clear hp hb HC HB5 HP0_5 HP1_5 HP2_5 HP3_5 HP4_5;have HC:Hid (Calls Tryz.prog 244 #[.slice (some ⟨w6.heap.size,0,none⟩) 6 6] (w6.alloc (.cells #[.slice A0 2 c0,.slice A1 n c1,.slice A2 5 c2,.slice A3 1 c3,.slice A4 3 c4,.slice A5 1 c5] 252)) fun e w'=> ∃A' n' c',e= .returned (.slice A' n' c')/\Parts lo w'.heap.size w' A' n' c' (ptsOf [(A0,2,c0,(plainPts [7,8])),(A1,n,c1,(plainPts gs)),(A2,5,c2,(plainPts [13,14,15,16,17])),(A3,1,c3,[.mk 18 2 (plainPts [19])]),(A4,3,c4,(plainPts [20,21,22])),(A5,1,c5,[.mk 23 1 (plainPts [24])])])/\Below w6.heap.size w6 w'):=cat_lit lo [(A0,2,c0,(plainPts [7,8])),(A1,n,c1,(plainPts gs)),(A2,5,c2,(plainPts [13,14,15,16,17])),(A3,1,c3,[.mk 18 2 (plainPts [19])]),(A4,3,c4,(plainPts [20,21,22])),(A5,1,c5,[.mk 23 1 (plainPts [24])])] w6 (by simp) (fun x hx=>by
  simp only[List.mem_cons,List.not_mem_nil,or_false]at hx
  rcases hx with rfl|rfl|rfl|rfl|rfl|rfl
  ·exact⟨HP0_6.out,(by show(2:Nat)<=100;omega)⟩
  ·exact⟨HP1_6.out,(by show(n:Nat)<=100;omega)⟩
  ·exact⟨HP2_6.out,(by show(5:Nat)<=100;omega)⟩
  ·exact⟨HP3_6.out,(by show(1:Nat)<=100;omega)⟩
  ·exact⟨HP4_6.out,(by show(3:Nat)<=100;omega)⟩
  ·exact⟨HP5_6.out,(by show(1:Nat)<=100;omega)⟩
  ) (Nat.le_trans hlo HB6.out.size)
 go_wp2_with fail;refine HC.out.mono ?_;rintro e w7 ⟨A6,n6,c6,rfl,hp,hb⟩;have HB7:=tB HB6 hb;have HP6_7:=zq hp;clear hp hb HC HB6 HP0_6 HP1_6 HP2_6 HP3_6 HP4_6 HP5_6;go_wp2;go_ret
 exact⟨A6,n6,c6,rfl,HP6_7.out,HB7.out⟩
theorem report_lit (lo:Nat)(vs:List Nat)(w:World)(hn:vs.length<=10)(hlo:lo<=w.heap.size):
  Calls Tryz.prog 243 #[.slice (some ⟨w.heap.size,0,none⟩) vs.length vs.length] (w.alloc (.cells (nats vs).toArray 3)) fun e w'=> ∃A' n' c',e= .returned (.slice A' n' c')/\Parts lo w'.heap.size w' A' n' c' (reportPts vs)/\Below w.heap.size w w':=by
 refine(report_parts lo _ vs.length _ vs _ (slz_made lo w _ (nats vs) vs.length (by simp[nats]) hlo).sl hn (by simp;omega)).mono ?_;rintro e w' ⟨A',n',c',rfl,hp,hb⟩;exact⟨A',n',c',rfl,hp,((Below.refl _ w).alloc (Nat.le_refl _) _).trans (hb.mono (by simp))⟩
/-! What the parts stand for, in the chapter's words. -/
mutual
def ndPt:Pt->List Nd
 | .mk v k b=>if k=3 then[.v v]else[.v v,.g k (ndPts b)]
def ndPts:List Pt->List Nd
 |[]=>[]
 |x::l=>ndPt x++ndPts l
end
theorem authority_parts (lo:Nat)(w0:World)(hlo:lo<=w0.heap.size):
  Calls Tryz.prog 249 #[] w0 fun e w'=> ∃A' n' c' l,e= .returned (.slice A' n' c')/\Parts lo w'.heap.size w' A' n' c' l/\ndPts l=astOf 15/\Below w0.heap.size w0 w':=by
 have HB0:=zq (Below.refl w0.heap.size w0);go_enter Tryz.func249,Tryz.ntmps249;have HC:Hid (Calls Tryz.prog 248 #[.int .i64 29,.slice (some ⟨w0.heap.size,0,none⟩) 2 2] (w0.alloc (.cells #[.int .i64 30,.int .i64 31] 3)) fun e w'=> ∃A' c',e= .returned (.slice A' 1 c')/\Parts lo w'.heap.size w' A' 1 c' [.mk 29 1 (plainPts [30,31])]/\Below w0.heap.size w0 w'):=ifOne_lit lo 29 [30,31] w0 (by decide) (Nat.le_trans hlo HB0.out.size);go_wp2_with fail;refine HC.out.mono ?_;rintro e w1 ⟨A0,c0,rfl,hp,hb⟩;have HB1:=tB HB0 hb;have HP0_1:=zq hp;clear hp hb HC HB0;have HC:Hid (Calls Tryz.prog 245 #[.slice (some ⟨w1.heap.size,0,none⟩) 5 5] (w1.alloc (.cells #[.int .i64 6,.int .i64 7,.int .i64 8,.int .i64 25,.int .i64 26] 3)) fun e w'=> ∃A' c',e= .returned (.slice A' 5 c')/\Parts lo w'.heap.size w' A' 5 c' (plainPts [6,7,8,25,26])/\Below w1.heap.size w1 w'):=plain_lit lo [6,7,8,25,26] w1 (by decide) (Nat.le_trans hlo HB1.out.size);go_wp2_with fail;refine HC.out.mono ?_;rintro e w2 ⟨A1,c1,rfl,hp,hb⟩;have HB2:=tB HB1 hb;have HP0_2:=zq (HP0_1.out.under hb);have HP1_2:=zq hp;clear hp hb HC HB1 HP0_1;have HC:Hid (Calls Tryz.prog 245 #[.slice (some ⟨w2.heap.size,0,none⟩) 1 1] (w2.alloc (.cells #[.int .i64 28] 3)) fun e w'=> ∃A' c',e= .returned (.slice A' 1 c')/\Parts lo w'.heap.size w' A' 1 c' (plainPts [28])/\Below w2.heap.size w2 w'):=plain_lit lo [28] w2 (by decide) (Nat.le_trans hlo HB2.out.size);go_wp2_with fail;refine HC.out.mono ?_;rintro e w3 ⟨A2,c2,rfl,hp,hb⟩;have HB3:=tB HB2 hb;have HP0_3:=zq (HP0_2.out.under hb);have HP1_3:=zq (HP1_2.out.under hb);have HP2_3:=zq hp;clear hp hb HC HB2 HP0_2 HP1_2;have HC:Hid (Calls Tryz.prog 246 #[.slice (some ⟨w3.heap.size,0,none⟩) 2 2] (w3.alloc (.cells #[.slice A2 1 c2,.slice A0 1 c0] 252)) fun e w'=> ∃A' c',e= .returned (.slice A' 1 c')/\Parts lo w'.heap.size w' A' 1 c' [.mk 27 0 (ptsOf [(A2,1,c2,(plainPts [28])),(A0,1,c0,[.mk 29 1 (plainPts [30,31])])])]/\Below w3.heap.size w3 w'):=iter_lit lo [(A2,1,c2,(plainPts [28])),(A0,1,c0,[.mk 29 1 (plainPts [30,31])])] w3 (by simp) (fun x hx=>by
  simp only[List.mem_cons,List.not_mem_nil,or_false]at hx
  rcases hx with rfl|rfl
  ·exact⟨HP2_3.out,(by show(1:Nat)<=100;omega)⟩
  ·exact⟨HP0_3.out,(by show(1:Nat)<=100;omega)⟩
  ) (Nat.le_trans hlo HB3.out.size)
 go_wp2_with fail;refine HC.out.mono ?_;rintro e w4 ⟨A3,c3,rfl,hp,hb⟩;have HB4:=tB HB3 hb;have HP0_4:=zq (HP0_3.out.under hb);have HP1_4:=zq (HP1_3.out.under hb);have HP3_4:=zq hp;clear hp hb HC HB3 HP0_3 HP1_3 HP2_3;have HC:Hid (Calls Tryz.prog 245 #[.slice (some ⟨w4.heap.size,0,none⟩) 1 1] (w4.alloc (.cells #[.int .i64 32] 3)) fun e w'=> ∃A' c',e= .returned (.slice A' 1 c')/\Parts lo w'.heap.size w' A' 1 c' (plainPts [32])/\Below w4.heap.size w4 w'):=plain_lit lo [32] w4 (by decide) (Nat.le_trans hlo HB4.out.size);go_wp2_with fail;refine HC.out.mono ?_;rintro e w5 ⟨A4,c4,rfl,hp,hb⟩;have HB5:=tB HB4 hb;have HP0_5:=zq (HP0_4.out.under hb);have HP1_5:=zq (HP1_4.out.under hb);have HP3_5:=zq (HP3_4.out.under hb);have HP4_5:=zq hp;clear hp hb HC HB4 HP0_4 HP1_4 HP3_4;have HC:Hid (Calls Tryz.prog 248 #[.int .i64 33,.slice (some ⟨w5.heap.size,0,none⟩) 2 2] (w5.alloc (.cells #[.int .i64 34,.int .i64 35] 3)) fun e w'=> ∃A' c',e= .returned (.slice A' 1 c')/\Parts lo w'.heap.size w' A' 1 c' [.mk 33 1 (plainPts [34,35])]/\Below w5.heap.size w5 w'):=ifOne_lit lo 33 [34,35] w5 (by decide) (Nat.le_trans hlo HB5.out.size);go_wp2_with fail;refine HC.out.mono ?_;rintro e w6 ⟨A5,c5,rfl,hp,hb⟩;have HB6:=tB HB5 hb;have HP0_6:=zq (HP0_5.out.under hb);have HP1_6:=zq (HP1_5.out.under hb);have HP3_6:=zq (HP3_5.out.under hb);have HP4_6:=zq (HP4_5.out.under hb);have HP5_6:=zq hp;clear hp hb HC HB5 HP0_5 HP1_5 HP3_5 HP4_5;have HC:Hid (Calls Tryz.prog 248 #[.int .i64 36,.slice (some ⟨w6.heap.size,0,none⟩) 2 2] (w6.alloc (.cells #[.int .i64 37,.int .i64 38] 3)) fun e w'=> ∃A' c',e= .returned (.slice A' 1 c')/\Parts lo w'.heap.size w' A' 1 c' [.mk 36 1 (plainPts [37,38])]/\Below w6.heap.size w6 w'):=ifOne_lit lo 36 [37,38] w6 (by decide) (Nat.le_trans hlo HB6.out.size);go_wp2_with fail;refine HC.out.mono ?_;rintro e w7 ⟨A6,c6,rfl,hp,hb⟩;have HB7:=tB HB6 hb;have HP0_7:=zq (HP0_6.out.under hb);have HP1_7:=zq (HP1_6.out.under hb);have HP3_7:=zq (HP3_6.out.under hb);have HP4_7:=zq (HP4_6.out.under hb);have HP5_7:=zq (HP5_6.out.under hb);have HP6_7:=zq hp;clear hp hb HC HB6 HP0_6 HP1_6 HP3_6 HP4_6 HP5_6;have HC:Hid (Calls Tryz.prog 248 #[.int .i64 39,.slice (some ⟨w7.heap.size,0,none⟩) 4 4] (w7.alloc (.cells #[.int .i64 40,.int .i64 41,.int .i64 42,.int .i64 43] 3)) fun e w'=> ∃A' c',e= .returned (.slice A' 1 c')/\Parts lo w'.heap.size w' A' 1 c' [.mk 39 1 (plainPts [40,41,42,43])]/\Below w7.heap.size w7 w'):=ifOne_lit lo 39 [40,41,42,43] w7 (by decide) (Nat.le_trans hlo HB7.out.size);go_wp2_with fail;refine HC.out.mono ?_;rintro e w8 ⟨A7,c7,rfl,hp,hb⟩;have HB8:=tB HB7 hb;have HP0_8:=zq (HP0_7.out.under hb);have HP1_8:=zq (HP1_7.out.under hb);have HP3_8:=zq (HP3_7.out.under hb);have HP4_8:=zq (HP4_7.out.under hb);have HP5_8:=zq (HP5_7.out.under hb);have HP6_8:=zq (HP6_7.out.under hb);have HP7_8:=zq hp;clear hp hb HC HB7 HP0_7 HP1_7 HP3_7 HP4_7 HP5_7 HP6_7;have HC:Hid (Calls Tryz.prog 244 #[.slice (some ⟨w8.heap.size,0,none⟩) 7 7] (w8.alloc (.cells #[.slice A1 5 c1,.slice A3 1 c3,.slice A4 1 c4,.slice A0 1 c0,.slice A5 1 c5,.slice A6 1 c6,.slice A7 1 c7] 252)) fun e w'=> ∃A' n' c',e= .returned (.slice A' n' c')/\Parts lo w'.heap.size w' A' n' c' (ptsOf [(A1,5,c1,(plainPts [6,7,8,25,26])),(A3,1,c3,[.mk 27 0 (ptsOf [(A2,1,c2,(plainPts [28])),(A0,1,c0,[.mk 29 1 (plainPts [30,31])])])]),(A4,1,c4,(plainPts [32])),(A0,1,c0,[.mk 29 1 (plainPts [30,31])]),(A5,1,c5,[.mk 33 1 (plainPts [34,35])]),(A6,1,c6,[.mk 36 1 (plainPts [37,38])]),(A7,1,c7,[.mk 39 1 (plainPts [40,41,42,43])])])/\Below w8.heap.size w8 w'):=cat_lit lo [(A1,5,c1,(plainPts [6,7,8,25,26])),(A3,1,c3,[.mk 27 0 (ptsOf [(A2,1,c2,(plainPts [28])),(A0,1,c0,[.mk 29 1 (plainPts [30,31])])])]),(A4,1,c4,(plainPts [32])),(A0,1,c0,[.mk 29 1 (plainPts [30,31])]),(A5,1,c5,[.mk 33 1 (plainPts [34,35])]),(A6,1,c6,[.mk 36 1 (plainPts [37,38])]),(A7,1,c7,[.mk 39 1 (plainPts [40,41,42,43])])] w8 (by simp) (fun x hx=>by
  simp only[List.mem_cons,List.not_mem_nil,or_false]at hx
  rcases hx with rfl|rfl|rfl|rfl|rfl|rfl|rfl
  ·exact⟨HP1_8.out,(by show(5:Nat)<=100;omega)⟩
  ·exact⟨HP3_8.out,(by show(1:Nat)<=100;omega)⟩
  ·exact⟨HP4_8.out,(by show(1:Nat)<=100;omega)⟩
  ·exact⟨HP0_8.out,(by show(1:Nat)<=100;omega)⟩
  ·exact⟨HP5_8.out,(by show(1:Nat)<=100;omega)⟩
  ·exact⟨HP6_8.out,(by show(1:Nat)<=100;omega)⟩
  ·exact⟨HP7_8.out,(by show(1:Nat)<=100;omega)⟩
  ) (Nat.le_trans hlo HB8.out.size)
 go_wp2_with fail;refine HC.out.mono ?_;rintro e w9 ⟨A8,n8,c8,rfl,hp,hb⟩;have HB9:=tB HB8 hb;have HP8_9:=zq hp;clear hp hb HC HB8 HP0_8 HP1_8 HP3_8 HP4_8 HP5_8 HP6_8 HP7_8;go_wp2;go_ret
 exact⟨A8,n8,c8,_,rfl,HP8_9.out,by kernel_rfl,HB9.out⟩
end
section
open Go.RowKit
theorem layout_3 (lo:Nat)(w0:World)(hlo:lo<=w0.heap.size):
  Calls Tryz.prog 213 #[.int .i64 3] w0 fun e w'=> ∃A' n' c' l,e= .returned (.slice A' n' c')/\Parts lo w'.heap.size w' A' n' c' l/\ndPts l=astOf 3/\Below w0.heap.size w0 w':=by
 have HB0:=zq (Below.refl w0.heap.size w0);go_enter Tryz.func213,Tryz.ntmps213;have HC:Hid (Calls Tryz.prog 245 #[.slice (some ⟨w0.heap.size,0,none⟩) 4 4] (w0.alloc (.cells #[.int .i64 6,.int .i64 7,.int .i64 8,.int .i64 84] 3)) fun e w'=> ∃A' c',e= .returned (.slice A' 4 c')/\Parts lo w'.heap.size w' A' 4 c' (plainPts [6,7,8,84])/\Below w0.heap.size w0 w'):=plain_lit lo [6,7,8,84] w0 (by decide) (Nat.le_trans hlo HB0.out.size);go_wp2_with fail;refine HC.out.mono ?_;rintro e w1 ⟨A0,c0,rfl,hp,hb⟩;have HB1:=tB HB0 hb;have HP0_1:=zq hp;clear hp hb HC HB0;have HC:Hid (Calls Tryz.prog 245 #[.slice (some ⟨w1.heap.size,0,none⟩) 1 1] (w1.alloc (.cells #[.int .i64 10] 3)) fun e w'=> ∃A' c',e= .returned (.slice A' 1 c')/\Parts lo w'.heap.size w' A' 1 c' (plainPts [10])/\Below w1.heap.size w1 w'):=plain_lit lo [10] w1 (by decide) (Nat.le_trans hlo HB1.out.size);go_wp2_with fail;refine HC.out.mono ?_;rintro e w2 ⟨A1,c1,rfl,hp,hb⟩;have HB2:=tB HB1 hb;have HP0_2:=zq (HP0_1.out.under hb);have HP1_2:=zq hp;clear hp hb HC HB1 HP0_1;have HC:Hid (Calls Tryz.prog 246 #[.slice (some ⟨w2.heap.size,0,none⟩) 1 1] (w2.alloc (.cells #[.slice A1 1 c1] 252)) fun e w'=> ∃A' c',e= .returned (.slice A' 1 c')/\Parts lo w'.heap.size w' A' 1 c' [.mk 27 0 (ptsOf [(A1,1,c1,(plainPts [10]))])]/\Below w2.heap.size w2 w'):=iter_lit lo [(A1,1,c1,(plainPts [10]))] w2 (by simp) (fun x hx=>by
  simp only[List.mem_cons,List.not_mem_nil,or_false]at hx;subst hx
  ·exact⟨HP1_2.out,(by show(1:Nat)<=100;omega)⟩
  ) (Nat.le_trans hlo HB2.out.size)
 go_wp2_with fail;refine HC.out.mono ?_;rintro e w3 ⟨A2,c2,rfl,hp,hb⟩;have HB3:=tB HB2 hb;have HP0_3:=zq (HP0_2.out.under hb);have HP2_3:=zq hp;clear hp hb HC HB2 HP0_2 HP1_2;have HC:Hid (Calls Tryz.prog 245 #[.slice (some ⟨w3.heap.size,0,none⟩) 3 3] (w3.alloc (.cells #[.int .i64 85,.int .i64 87,.int .i64 86] 3)) fun e w'=> ∃A' c',e= .returned (.slice A' 3 c')/\Parts lo w'.heap.size w' A' 3 c' (plainPts [85,87,86])/\Below w3.heap.size w3 w'):=plain_lit lo [85,87,86] w3 (by decide) (Nat.le_trans hlo HB3.out.size);go_wp2_with fail;refine HC.out.mono ?_;rintro e w4 ⟨A3,c3,rfl,hp,hb⟩;have HB4:=tB HB3 hb;have HP0_4:=zq (HP0_3.out.under hb);have HP2_4:=zq (HP2_3.out.under hb);have HP3_4:=zq hp;clear hp hb HC HB3 HP0_3 HP2_3;have HC:Hid (Calls Tryz.prog 244 #[.slice (some ⟨w4.heap.size,0,none⟩) 3 3] (w4.alloc (.cells #[.slice A0 4 c0,.slice A2 1 c2,.slice A3 3 c3] 252)) fun e w'=> ∃A' n' c',e= .returned (.slice A' n' c')/\Parts lo w'.heap.size w' A' n' c' (ptsOf [(A0,4,c0,(plainPts [6,7,8,84])),(A2,1,c2,[.mk 27 0 (ptsOf [(A1,1,c1,(plainPts [10]))])]),(A3,3,c3,(plainPts [85,87,86]))])/\Below w4.heap.size w4 w'):=cat_lit lo [(A0,4,c0,(plainPts [6,7,8,84])),(A2,1,c2,[.mk 27 0 (ptsOf [(A1,1,c1,(plainPts [10]))])]),(A3,3,c3,(plainPts [85,87,86]))] w4 (by simp) (fun x hx=>by
  simp only[List.mem_cons,List.not_mem_nil,or_false]at hx
  rcases hx with rfl|rfl|rfl
  ·exact⟨HP0_4.out,(by show(4:Nat)<=100;omega)⟩
  ·exact⟨HP2_4.out,(by show(1:Nat)<=100;omega)⟩
  ·exact⟨HP3_4.out,(by show(3:Nat)<=100;omega)⟩
  ) (Nat.le_trans hlo HB4.out.size)
 go_wp2_with fail;refine HC.out.mono ?_;rintro e w5 ⟨A4,n4,c4,rfl,hp,hb⟩;have HB5:=tB HB4 hb;have HP4_5:=zq hp;clear hp hb HC HB4 HP0_4 HP2_4 HP3_4;go_wp2;go_ret
 exact⟨A4,n4,c4,_,rfl,HP4_5.out,by kernel_rfl,HB5.out⟩
theorem layout_5 (lo:Nat)(w0:World)(hlo:lo<=w0.heap.size):
  Calls Tryz.prog 213 #[.int .i64 5] w0 fun e w'=> ∃A' n' c' l,e= .returned (.slice A' n' c')/\Parts lo w'.heap.size w' A' n' c' l/\ndPts l=astOf 5/\Below w0.heap.size w0 w':=by
 have HB0:=zq (Below.refl w0.heap.size w0);go_enter Tryz.func213,Tryz.ntmps213;have HC:Hid (Calls Tryz.prog 245 #[.slice (some ⟨w0.heap.size,0,none⟩) 1 1] (w0.alloc (.cells #[.int .i64 44] 3)) fun e w'=> ∃A' c',e= .returned (.slice A' 1 c')/\Parts lo w'.heap.size w' A' 1 c' (plainPts [44])/\Below w0.heap.size w0 w'):=plain_lit lo [44] w0 (by decide) (Nat.le_trans hlo HB0.out.size);go_wp2_with fail;refine HC.out.mono ?_;rintro e w1 ⟨A0,c0,rfl,hp,hb⟩;have HB1:=tB HB0 hb;have HP0_1:=zq hp;clear hp hb HC HB0;have HC:Hid (Calls Tryz.prog 248 #[.int .i64 12,.slice (some ⟨w1.heap.size,0,none⟩) 1 1] (w1.alloc (.cells #[.int .i64 10] 3)) fun e w'=> ∃A' c',e= .returned (.slice A' 1 c')/\Parts lo w'.heap.size w' A' 1 c' [.mk 12 1 (plainPts [10])]/\Below w1.heap.size w1 w'):=ifOne_lit lo 12 [10] w1 (by decide) (Nat.le_trans hlo HB1.out.size);go_wp2_with fail;refine HC.out.mono ?_;rintro e w2 ⟨A1,c1,rfl,hp,hb⟩;have HB2:=tB HB1 hb;have HP0_2:=zq (HP0_1.out.under hb);have HP1_2:=zq hp;clear hp hb HC HB1 HP0_1;have HC:Hid (Calls Tryz.prog 245 #[.slice (some ⟨w2.heap.size,0,none⟩) 4 4] (w2.alloc (.cells #[.int .i64 11,.int .i64 45,.int .i64 46,.int .i64 47] 3)) fun e w'=> ∃A' c',e= .returned (.slice A' 4 c')/\Parts lo w'.heap.size w' A' 4 c' (plainPts [11,45,46,47])/\Below w2.heap.size w2 w'):=plain_lit lo [11,45,46,47] w2 (by decide) (Nat.le_trans hlo HB2.out.size);go_wp2_with fail;refine HC.out.mono ?_;rintro e w3 ⟨A2,c2,rfl,hp,hb⟩;have HB3:=tB HB2 hb;have HP0_3:=zq (HP0_2.out.under hb);have HP1_3:=zq (HP1_2.out.under hb);have HP2_3:=zq hp;clear hp hb HC HB2 HP0_2 HP1_2;have HC:Hid (Calls Tryz.prog 247 #[.slice (some ⟨w3.heap.size,0,none⟩) 3 3] (w3.alloc (.cells #[.slice A0 1 c0,.slice A1 1 c1,.slice A2 4 c2] 252)) fun e w'=> ∃A' n' c',e= .returned (.slice A' n' c')/\Parts lo w'.heap.size w' A' n' c' (omPts (ptsOf [(A0,1,c0,(plainPts [44])),(A1,1,c1,[.mk 12 1 (plainPts [10])]),(A2,4,c2,(plainPts [11,45,46,47]))]))/\Below w3.heap.size w3 w'):=oneOrMore_lit lo [(A0,1,c0,(plainPts [44])),(A1,1,c1,[.mk 12 1 (plainPts [10])]),(A2,4,c2,(plainPts [11,45,46,47]))] w3 (by simp) (fun x hx=>by
  simp only[List.mem_cons,List.not_mem_nil,or_false]at hx
  rcases hx with rfl|rfl|rfl
  ·exact⟨HP0_3.out,(by show(1:Nat)<=100;omega)⟩
  ·exact⟨HP1_3.out,(by show(1:Nat)<=100;omega)⟩
  ·exact⟨HP2_3.out,(by show(4:Nat)<=100;omega)⟩
  ) (Nat.le_trans hlo HB3.out.size) (by simp[ptsOf,plainPts])
 go_wp2_with fail;refine HC.out.mono ?_;rintro e w4 ⟨A3,n3,c3,rfl,hp,hb⟩;have HB4:=tB HB3 hb;have HP3_4:=zq hp;clear hp hb HC HB3 HP0_3 HP1_3 HP2_3;go_wp2;go_ret
 exact⟨A3,n3,c3,_,rfl,HP3_4.out,by kernel_rfl,HB4.out⟩
theorem layout_11 (lo:Nat)(w0:World)(hlo:lo<=w0.heap.size):
  Calls Tryz.prog 213 #[.int .i64 11] w0 fun e w'=> ∃A' n' c' l,e= .returned (.slice A' n' c')/\Parts lo w'.heap.size w' A' n' c' l/\ndPts l=astOf 11/\Below w0.heap.size w0 w':=by
 have HB0:=zq (Below.refl w0.heap.size w0);go_enter Tryz.func213,Tryz.ntmps213;have HC:Hid (Calls Tryz.prog 245 #[.slice (some ⟨w0.heap.size,0,none⟩) 8 8] (w0.alloc (.cells #[.int .i64 7,.int .i64 75,.int .i64 76,.int .i64 77,.int .i64 78,.int .i64 79,.int .i64 80,.int .i64 81] 3)) fun e w'=> ∃A' c',e= .returned (.slice A' 8 c')/\Parts lo w'.heap.size w' A' 8 c' (plainPts [7,75,76,77,78,79,80,81])/\Below w0.heap.size w0 w'):=plain_lit lo [7,75,76,77,78,79,80,81] w0 (by decide) (Nat.le_trans hlo HB0.out.size);go_wp2_with fail;refine HC.out.mono ?_;rintro e w1 ⟨A0,c0,rfl,hp,hb⟩;have HB1:=tB HB0 hb;have HP0_1:=zq hp;clear hp hb HC HB0;have HC:Hid (Calls Tryz.prog 245 #[.slice (some ⟨w1.heap.size,0,none⟩) 1 1] (w1.alloc (.cells #[.int .i64 82] 3)) fun e w'=> ∃A' c',e= .returned (.slice A' 1 c')/\Parts lo w'.heap.size w' A' 1 c' (plainPts [82])/\Below w1.heap.size w1 w'):=plain_lit lo [82] w1 (by decide) (Nat.le_trans hlo HB1.out.size);go_wp2_with fail;refine HC.out.mono ?_;rintro e w2 ⟨A1,c1,rfl,hp,hb⟩;have HB2:=tB HB1 hb;have HP0_2:=zq (HP0_1.out.under hb);have HP1_2:=zq hp;clear hp hb HC HB1 HP0_1;have HC:Hid (Calls Tryz.prog 246 #[.slice (some ⟨w2.heap.size,0,none⟩) 1 1] (w2.alloc (.cells #[.slice A1 1 c1] 252)) fun e w'=> ∃A' c',e= .returned (.slice A' 1 c')/\Parts lo w'.heap.size w' A' 1 c' [.mk 27 0 (ptsOf [(A1,1,c1,(plainPts [82]))])]/\Below w2.heap.size w2 w'):=iter_lit lo [(A1,1,c1,(plainPts [82]))] w2 (by simp) (fun x hx=>by
  simp only[List.mem_cons,List.not_mem_nil,or_false]at hx;subst hx
  ·exact⟨HP1_2.out,(by show(1:Nat)<=100;omega)⟩
  ) (Nat.le_trans hlo HB2.out.size)
 go_wp2_with fail;refine HC.out.mono ?_;rintro e w3 ⟨A2,c2,rfl,hp,hb⟩;have HB3:=tB HB2 hb;have HP0_3:=zq (HP0_2.out.under hb);have HP2_3:=zq hp;clear hp hb HC HB2 HP0_2 HP1_2;have HC:Hid (Calls Tryz.prog 245 #[.slice (some ⟨w3.heap.size,0,none⟩) 1 1] (w3.alloc (.cells #[.int .i64 83] 3)) fun e w'=> ∃A' c',e= .returned (.slice A' 1 c')/\Parts lo w'.heap.size w' A' 1 c' (plainPts [83])/\Below w3.heap.size w3 w'):=plain_lit lo [83] w3 (by decide) (Nat.le_trans hlo HB3.out.size);go_wp2_with fail;refine HC.out.mono ?_;rintro e w4 ⟨A3,c3,rfl,hp,hb⟩;have HB4:=tB HB3 hb;have HP0_4:=zq (HP0_3.out.under hb);have HP2_4:=zq (HP2_3.out.under hb);have HP3_4:=zq hp;clear hp hb HC HB3 HP0_3 HP2_3;have HC:Hid (Calls Tryz.prog 246 #[.slice (some ⟨w4.heap.size,0,none⟩) 1 1] (w4.alloc (.cells #[.slice A3 1 c3] 252)) fun e w'=> ∃A' c',e= .returned (.slice A' 1 c')/\Parts lo w'.heap.size w' A' 1 c' [.mk 27 0 (ptsOf [(A3,1,c3,(plainPts [83]))])]/\Below w4.heap.size w4 w'):=iter_lit lo [(A3,1,c3,(plainPts [83]))] w4 (by simp) (fun x hx=>by
  simp only[List.mem_cons,List.not_mem_nil,or_false]at hx;subst hx
  ·exact⟨HP3_4.out,(by show(1:Nat)<=100;omega)⟩
  ) (Nat.le_trans hlo HB4.out.size)
 go_wp2_with fail;refine HC.out.mono ?_;rintro e w5 ⟨A4,c4,rfl,hp,hb⟩;have HB5:=tB HB4 hb;have HP0_5:=zq (HP0_4.out.under hb);have HP2_5:=zq (HP2_4.out.under hb);have HP4_5:=zq hp;clear hp hb HC HB4 HP0_4 HP2_4 HP3_4;have HC:Hid (Calls Tryz.prog 244 #[.slice (some ⟨w5.heap.size,0,none⟩) 3 3] (w5.alloc (.cells #[.slice A0 8 c0,.slice A2 1 c2,.slice A4 1 c4] 252)) fun e w'=> ∃A' n' c',e= .returned (.slice A' n' c')/\Parts lo w'.heap.size w' A' n' c' (ptsOf [(A0,8,c0,(plainPts [7,75,76,77,78,79,80,81])),(A2,1,c2,[.mk 27 0 (ptsOf [(A1,1,c1,(plainPts [82]))])]),(A4,1,c4,[.mk 27 0 (ptsOf [(A3,1,c3,(plainPts [83]))])])])/\Below w5.heap.size w5 w'):=cat_lit lo [(A0,8,c0,(plainPts [7,75,76,77,78,79,80,81])),(A2,1,c2,[.mk 27 0 (ptsOf [(A1,1,c1,(plainPts [82]))])]),(A4,1,c4,[.mk 27 0 (ptsOf [(A3,1,c3,(plainPts [83]))])])] w5 (by simp) (fun x hx=>by
  simp only[List.mem_cons,List.not_mem_nil,or_false]at hx
  rcases hx with rfl|rfl|rfl
  ·exact⟨HP0_5.out,(by show(8:Nat)<=100;omega)⟩
  ·exact⟨HP2_5.out,(by show(1:Nat)<=100;omega)⟩
  ·exact⟨HP4_5.out,(by show(1:Nat)<=100;omega)⟩
  ) (Nat.le_trans hlo HB5.out.size)
 go_wp2_with fail;refine HC.out.mono ?_;rintro e w6 ⟨A5,n5,c5,rfl,hp,hb⟩;have HB6:=tB HB5 hb;have HP5_6:=zq hp;clear hp hb HC HB5 HP0_5 HP2_5 HP4_5;go_wp2;go_ret
 exact⟨A5,n5,c5,_,rfl,HP5_6.out,by kernel_rfl,HB6.out⟩
theorem layout_21 (lo:Nat)(w0:World)(hlo:lo<=w0.heap.size):
  Calls Tryz.prog 213 #[.int .i64 21] w0 fun e w'=> ∃A' n' c' l,e= .returned (.slice A' n' c')/\Parts lo w'.heap.size w' A' n' c' l/\ndPts l=astOf 21/\Below w0.heap.size w0 w':=by
 have HB0:=zq (Below.refl w0.heap.size w0);go_enter Tryz.func213,Tryz.ntmps213;have HC:Hid (Calls Tryz.prog 245 #[.slice (some ⟨w0.heap.size,0,none⟩) 3 3] (w0.alloc (.cells #[.int .i64 48,.int .i64 49,.int .i64 50] 3)) fun e w'=> ∃A' c',e= .returned (.slice A' 3 c')/\Parts lo w'.heap.size w' A' 3 c' (plainPts [48,49,50])/\Below w0.heap.size w0 w'):=plain_lit lo [48,49,50] w0 (by decide) (Nat.le_trans hlo HB0.out.size);go_wp2_with fail;refine HC.out.mono ?_;rintro e w1 ⟨A0,c0,rfl,hp,hb⟩;have HB1:=tB HB0 hb;have HP0_1:=zq hp;clear hp hb HC HB0;have HC:Hid (Calls Tryz.prog 247 #[.slice (some ⟨w1.heap.size,0,none⟩) 1 1] (w1.alloc (.cells #[.slice A0 3 c0] 252)) fun e w'=> ∃A' n' c',e= .returned (.slice A' n' c')/\Parts lo w'.heap.size w' A' n' c' (omPts (ptsOf [(A0,3,c0,(plainPts [48,49,50]))]))/\Below w1.heap.size w1 w'):=oneOrMore_lit lo [(A0,3,c0,(plainPts [48,49,50]))] w1 (by simp) (fun x hx=>by
  simp only[List.mem_cons,List.not_mem_nil,or_false]at hx;subst hx
  ·exact⟨HP0_1.out,(by show(3:Nat)<=100;omega)⟩
  ) (Nat.le_trans hlo HB1.out.size) (by simp[ptsOf,plainPts])
 go_wp2_with fail;refine HC.out.mono ?_;rintro e w2 ⟨A1,n1,c1,rfl,hp,hb⟩;have HB2:=tB HB1 hb;have HP1_2:=zq hp;clear hp hb HC HB1 HP0_1;go_wp2;go_ret
 exact⟨A1,n1,c1,_,rfl,HP1_2.out,by kernel_rfl,HB2.out⟩
theorem layout_27 (lo:Nat)(w0:World)(hlo:lo<=w0.heap.size):
  Calls Tryz.prog 213 #[.int .i64 27] w0 fun e w'=> ∃A' n' c' l,e= .returned (.slice A' n' c')/\Parts lo w'.heap.size w' A' n' c' l/\ndPts l=astOf 27/\Below w0.heap.size w0 w':=by
 have HB0:=zq (Below.refl w0.heap.size w0);go_enter Tryz.func213,Tryz.ntmps213;have HC:Hid (Calls Tryz.prog 245 #[.slice (some ⟨w0.heap.size,0,none⟩) 3 3] (w0.alloc (.cells #[.int .i64 51,.int .i64 52,.int .i64 53] 3)) fun e w'=> ∃A' c',e= .returned (.slice A' 3 c')/\Parts lo w'.heap.size w' A' 3 c' (plainPts [51,52,53])/\Below w0.heap.size w0 w'):=plain_lit lo [51,52,53] w0 (by decide) (Nat.le_trans hlo HB0.out.size);go_wp2_with fail;refine HC.out.mono ?_;rintro e w1 ⟨A0,c0,rfl,hp,hb⟩;have HB1:=tB HB0 hb;have HP0_1:=zq hp;clear hp hb HC HB0;have HC:Hid (Calls Tryz.prog 245 #[.slice (some ⟨w1.heap.size,0,none⟩) 2 2] (w1.alloc (.cells #[.int .i64 54,.int .i64 55] 3)) fun e w'=> ∃A' c',e= .returned (.slice A' 2 c')/\Parts lo w'.heap.size w' A' 2 c' (plainPts [54,55])/\Below w1.heap.size w1 w'):=plain_lit lo [54,55] w1 (by decide) (Nat.le_trans hlo HB1.out.size);go_wp2_with fail;refine HC.out.mono ?_;rintro e w2 ⟨A1,c1,rfl,hp,hb⟩;have HB2:=tB HB1 hb;have HP0_2:=zq (HP0_1.out.under hb);have HP1_2:=zq hp;clear hp hb HC HB1 HP0_1;have HC:Hid (Calls Tryz.prog 246 #[.slice (some ⟨w2.heap.size,0,none⟩) 1 1] (w2.alloc (.cells #[.slice A1 2 c1] 252)) fun e w'=> ∃A' c',e= .returned (.slice A' 1 c')/\Parts lo w'.heap.size w' A' 1 c' [.mk 27 0 (ptsOf [(A1,2,c1,(plainPts [54,55]))])]/\Below w2.heap.size w2 w'):=iter_lit lo [(A1,2,c1,(plainPts [54,55]))] w2 (by simp) (fun x hx=>by
  simp only[List.mem_cons,List.not_mem_nil,or_false]at hx;subst hx
  ·exact⟨HP1_2.out,(by show(2:Nat)<=100;omega)⟩
  ) (Nat.le_trans hlo HB2.out.size)
 go_wp2_with fail;refine HC.out.mono ?_;rintro e w3 ⟨A2,c2,rfl,hp,hb⟩;have HB3:=tB HB2 hb;have HP0_3:=zq (HP0_2.out.under hb);have HP2_3:=zq hp;clear hp hb HC HB2 HP0_2 HP1_2;have HC:Hid (Calls Tryz.prog 247 #[.slice (some ⟨w3.heap.size,0,none⟩) 2 2] (w3.alloc (.cells #[.slice A0 3 c0,.slice A2 1 c2] 252)) fun e w'=> ∃A' n' c',e= .returned (.slice A' n' c')/\Parts lo w'.heap.size w' A' n' c' (omPts (ptsOf [(A0,3,c0,(plainPts [51,52,53])),(A2,1,c2,[.mk 27 0 (ptsOf [(A1,2,c1,(plainPts [54,55]))])])]))/\Below w3.heap.size w3 w'):=oneOrMore_lit lo [(A0,3,c0,(plainPts [51,52,53])),(A2,1,c2,[.mk 27 0 (ptsOf [(A1,2,c1,(plainPts [54,55]))])])] w3 (by simp) (fun x hx=>by
  simp only[List.mem_cons,List.not_mem_nil,or_false]at hx
  rcases hx with rfl|rfl
  ·exact⟨HP0_3.out,(by show(3:Nat)<=100;omega)⟩
  ·exact⟨HP2_3.out,(by show(1:Nat)<=100;omega)⟩
  ) (Nat.le_trans hlo HB3.out.size) (by simp[ptsOf,plainPts])
 go_wp2_with fail;refine HC.out.mono ?_;rintro e w4 ⟨A3,n3,c3,rfl,hp,hb⟩;have HB4:=tB HB3 hb;have HP3_4:=zq hp;clear hp hb HC HB3 HP0_3 HP2_3;go_wp2;go_ret
 exact⟨A3,n3,c3,_,rfl,HP3_4.out,by kernel_rfl,HB4.out⟩
theorem layout_42 (lo:Nat)(w0:World)(hlo:lo<=w0.heap.size):
  Calls Tryz.prog 213 #[.int .i64 42] w0 fun e w'=> ∃A' n' c' l,e= .returned (.slice A' n' c')/\Parts lo w'.heap.size w' A' n' c' l/\ndPts l=astOf 42/\Below w0.heap.size w0 w':=by
 have HB0:=zq (Below.refl w0.heap.size w0);go_enter Tryz.func213,Tryz.ntmps213;have HC:Hid (Calls Tryz.prog 245 #[.slice (some ⟨w0.heap.size,0,none⟩) 8 8] (w0.alloc (.cells #[.int .i64 6,.int .i64 7,.int .i64 62,.int .i64 10,.int .i64 63,.int .i64 64,.int .i64 64,.int .i64 65] 3)) fun e w'=> ∃A' c',e= .returned (.slice A' 8 c')/\Parts lo w'.heap.size w' A' 8 c' (plainPts [6,7,62,10,63,64,64,65])/\Below w0.heap.size w0 w'):=plain_lit lo [6,7,62,10,63,64,64,65] w0 (by decide) (Nat.le_trans hlo HB0.out.size);go_wp2_with fail;refine HC.out.mono ?_;rintro e w1 ⟨A0,c0,rfl,hp,hb⟩;have HB1:=tB HB0 hb;have HP0_1:=zq hp;clear hp hb HC HB0;go_wp2;go_ret
 exact⟨A0,8,c0,_,rfl,HP0_1.out,by kernel_rfl,HB1.out⟩
theorem layout_57 (lo:Nat)(w0:World)(hlo:lo<=w0.heap.size):
  Calls Tryz.prog 213 #[.int .i64 57] w0 fun e w'=> ∃A' n' c' l,e= .returned (.slice A' n' c')/\Parts lo w'.heap.size w' A' n' c' l/\ndPts l=astOf 57/\Below w0.heap.size w0 w':=by
 have HB0:=zq (Below.refl w0.heap.size w0);go_enter Tryz.func213,Tryz.ntmps213;have HC:Hid (Calls Tryz.prog 245 #[.slice (some ⟨w0.heap.size,0,none⟩) 5 5] (w0.alloc (.cells #[.int .i64 6,.int .i64 7,.int .i64 66,.int .i64 67,.int .i64 68] 3)) fun e w'=> ∃A' c',e= .returned (.slice A' 5 c')/\Parts lo w'.heap.size w' A' 5 c' (plainPts [6,7,66,67,68])/\Below w0.heap.size w0 w'):=plain_lit lo [6,7,66,67,68] w0 (by decide) (Nat.le_trans hlo HB0.out.size);go_wp2_with fail;refine HC.out.mono ?_;rintro e w1 ⟨A0,c0,rfl,hp,hb⟩;have HB1:=tB HB0 hb;have HP0_1:=zq hp;clear hp hb HC HB0;go_wp2;go_ret
 exact⟨A0,5,c0,_,rfl,HP0_1.out,by kernel_rfl,HB1.out⟩
theorem layout_58 (lo:Nat)(w0:World)(hlo:lo<=w0.heap.size):
  Calls Tryz.prog 213 #[.int .i64 58] w0 fun e w'=> ∃A' n' c' l,e= .returned (.slice A' n' c')/\Parts lo w'.heap.size w' A' n' c' l/\ndPts l=astOf 58/\Below w0.heap.size w0 w':=by
 have HB0:=zq (Below.refl w0.heap.size w0);go_enter Tryz.func213,Tryz.ntmps213;have HC:Hid (Calls Tryz.prog 245 #[.slice (some ⟨w0.heap.size,0,none⟩) 6 6] (w0.alloc (.cells #[.int .i64 6,.int .i64 7,.int .i64 8,.int .i64 69,.int .i64 70,.int .i64 71] 3)) fun e w'=> ∃A' c',e= .returned (.slice A' 6 c')/\Parts lo w'.heap.size w' A' 6 c' (plainPts [6,7,8,69,70,71])/\Below w0.heap.size w0 w'):=plain_lit lo [6,7,8,69,70,71] w0 (by decide) (Nat.le_trans hlo HB0.out.size);go_wp2_with fail;refine HC.out.mono ?_;rintro e w1 ⟨A0,c0,rfl,hp,hb⟩;have HB1:=tB HB0 hb;have HP0_1:=zq hp;clear hp hb HC HB0;have HC:Hid (Calls Tryz.prog 245 #[.slice (some ⟨w1.heap.size,0,none⟩) 2 2] (w1.alloc (.cells #[.int .i64 72,.int .i64 73] 3)) fun e w'=> ∃A' c',e= .returned (.slice A' 2 c')/\Parts lo w'.heap.size w' A' 2 c' (plainPts [72,73])/\Below w1.heap.size w1 w'):=plain_lit lo [72,73] w1 (by decide) (Nat.le_trans hlo HB1.out.size);go_wp2_with fail;refine HC.out.mono ?_;rintro e w2 ⟨A1,c1,rfl,hp,hb⟩;have HB2:=tB HB1 hb;have HP0_2:=zq (HP0_1.out.under hb);have HP1_2:=zq hp;clear hp hb HC HB1 HP0_1;have HC:Hid (Calls Tryz.prog 246 #[.slice (some ⟨w2.heap.size,0,none⟩) 1 1] (w2.alloc (.cells #[.slice A1 2 c1] 252)) fun e w'=> ∃A' c',e= .returned (.slice A' 1 c')/\Parts lo w'.heap.size w' A' 1 c' [.mk 27 0 (ptsOf [(A1,2,c1,(plainPts [72,73]))])]/\Below w2.heap.size w2 w'):=iter_lit lo [(A1,2,c1,(plainPts [72,73]))] w2 (by simp) (fun x hx=>by
  simp only[List.mem_cons,List.not_mem_nil,or_false]at hx;subst hx
  ·exact⟨HP1_2.out,(by show(2:Nat)<=100;omega)⟩
  ) (Nat.le_trans hlo HB2.out.size)
 go_wp2_with fail;refine HC.out.mono ?_;rintro e w3 ⟨A2,c2,rfl,hp,hb⟩;have HB3:=tB HB2 hb;have HP0_3:=zq (HP0_2.out.under hb);have HP2_3:=zq hp;clear hp hb HC HB2 HP0_2 HP1_2;have HC:Hid (Calls Tryz.prog 244 #[.slice (some ⟨w3.heap.size,0,none⟩) 2 2] (w3.alloc (.cells #[.slice A0 6 c0,.slice A2 1 c2] 252)) fun e w'=> ∃A' n' c',e= .returned (.slice A' n' c')/\Parts lo w'.heap.size w' A' n' c' (ptsOf [(A0,6,c0,(plainPts [6,7,8,69,70,71])),(A2,1,c2,[.mk 27 0 (ptsOf [(A1,2,c1,(plainPts [72,73]))])])])/\Below w3.heap.size w3 w'):=cat_lit lo [(A0,6,c0,(plainPts [6,7,8,69,70,71])),(A2,1,c2,[.mk 27 0 (ptsOf [(A1,2,c1,(plainPts [72,73]))])])] w3 (by simp) (fun x hx=>by
  simp only[List.mem_cons,List.not_mem_nil,or_false]at hx
  rcases hx with rfl|rfl
  ·exact⟨HP0_3.out,(by show(6:Nat)<=100;omega)⟩
  ·exact⟨HP2_3.out,(by show(1:Nat)<=100;omega)⟩
  ) (Nat.le_trans hlo HB3.out.size)
 go_wp2_with fail;refine HC.out.mono ?_;rintro e w4 ⟨A3,n3,c3,rfl,hp,hb⟩;have HB4:=tB HB3 hb;have HP3_4:=zq hp;clear hp hb HC HB3 HP0_3 HP2_3;go_wp2;go_ret
 exact⟨A3,n3,c3,_,rfl,HP3_4.out,by kernel_rfl,HB4.out⟩
theorem layout_80 (lo:Nat)(w0:World)(hlo:lo<=w0.heap.size):
  Calls Tryz.prog 213 #[.int .i64 80] w0 fun e w'=> ∃A' n' c' l,e= .returned (.slice A' n' c')/\Parts lo w'.heap.size w' A' n' c' l/\ndPts l=astOf 80/\Below w0.heap.size w0 w':=by
 have HB0:=zq (Below.refl w0.heap.size w0);go_enter Tryz.func213,Tryz.ntmps213;have HC:Hid (Calls Tryz.prog 245 #[.slice (some ⟨w0.heap.size,0,none⟩) 6 6] (w0.alloc (.cells #[.int .i64 56,.int .i64 57,.int .i64 58,.int .i64 59,.int .i64 60,.int .i64 61] 3)) fun e w'=> ∃A' c',e= .returned (.slice A' 6 c')/\Parts lo w'.heap.size w' A' 6 c' (plainPts [56,57,58,59,60,61])/\Below w0.heap.size w0 w'):=plain_lit lo [56,57,58,59,60,61] w0 (by decide) (Nat.le_trans hlo HB0.out.size);go_wp2_with fail;refine HC.out.mono ?_;rintro e w1 ⟨A0,c0,rfl,hp,hb⟩;have HB1:=tB HB0 hb;have HP0_1:=zq hp;clear hp hb HC HB0;have HC:Hid (Calls Tryz.prog 247 #[.slice (some ⟨w1.heap.size,0,none⟩) 1 1] (w1.alloc (.cells #[.slice A0 6 c0] 252)) fun e w'=> ∃A' n' c',e= .returned (.slice A' n' c')/\Parts lo w'.heap.size w' A' n' c' (omPts (ptsOf [(A0,6,c0,(plainPts [56,57,58,59,60,61]))]))/\Below w1.heap.size w1 w'):=oneOrMore_lit lo [(A0,6,c0,(plainPts [56,57,58,59,60,61]))] w1 (by simp) (fun x hx=>by
  simp only[List.mem_cons,List.not_mem_nil,or_false]at hx;subst hx
  ·exact⟨HP0_1.out,(by show(6:Nat)<=100;omega)⟩
  ) (Nat.le_trans hlo HB1.out.size) (by simp[ptsOf,plainPts])
 go_wp2_with fail;refine HC.out.mono ?_;rintro e w2 ⟨A1,n1,c1,rfl,hp,hb⟩;have HB2:=tB HB1 hb;have HP1_2:=zq hp;clear hp hb HC HB1 HP0_1;go_wp2;go_ret
 exact⟨A1,n1,c1,_,rfl,HP1_2.out,by kernel_rfl,HB2.out⟩
theorem layout_0 (lo:Nat)(w0:World)(hlo:lo<=w0.heap.size):
  Calls Tryz.prog 213 #[.int .i64 0] w0 fun e w'=> ∃A' n' c' l,e= .returned (.slice A' n' c')/\Parts lo w'.heap.size w' A' n' c' l/\ndPts l=astOf 0/\Below w0.heap.size w0 w':=by
 have HC:Hid (Calls Tryz.prog 243 #[.slice (some ⟨w0.heap.size,0,none⟩) 1 1] (w0.alloc (.cells #[.int .i64 4] 3)) fun e w'=> ∃A' n' c',e= .returned (.slice A' n' c')/\Parts lo w'.heap.size w' A' n' c' (reportPts [4])/\Below w0.heap.size w0 w'):=report_lit lo [4] w0 (by decide) hlo;go_enter Tryz.func213,Tryz.ntmps213;go_wp2_with fail;refine HC.out.mono ?_;rintro e w1 ⟨A1,n1,c1,rfl,hp,hb⟩;have HP:=zq hp;have HB:=zq hb;clear hp hb HC;go_wp2;go_ret
 exact⟨A1,n1,c1,_,rfl,HP.out,by kernel_rfl,HB.out⟩
theorem layout_1 (lo:Nat)(w0:World)(hlo:lo<=w0.heap.size):
  Calls Tryz.prog 213 #[.int .i64 1] w0 fun e w'=> ∃A' n' c' l,e= .returned (.slice A' n' c')/\Parts lo w'.heap.size w' A' n' c' l/\ndPts l=astOf 1/\Below w0.heap.size w0 w':=by
 have HC:Hid (Calls Tryz.prog 243 #[.slice (some ⟨w0.heap.size,0,none⟩) 2 2] (w0.alloc (.cells #[.int .i64 4,.int .i64 74] 3)) fun e w'=> ∃A' n' c',e= .returned (.slice A' n' c')/\Parts lo w'.heap.size w' A' n' c' (reportPts [4,74])/\Below w0.heap.size w0 w'):=report_lit lo [4,74] w0 (by decide) hlo;go_enter Tryz.func213,Tryz.ntmps213;go_wp2_with fail;refine HC.out.mono ?_;rintro e w1 ⟨A1,n1,c1,rfl,hp,hb⟩;have HP:=zq hp;have HB:=zq hb;clear hp hb HC;go_wp2;go_ret
 exact⟨A1,n1,c1,_,rfl,HP.out,by kernel_rfl,HB.out⟩
theorem layout_15 (lo:Nat)(w0:World)(hlo:lo<=w0.heap.size):
  Calls Tryz.prog 213 #[.int .i64 15] w0 fun e w'=> ∃A' n' c' l,e= .returned (.slice A' n' c')/\Parts lo w'.heap.size w' A' n' c' l/\ndPts l=astOf 15/\Below w0.heap.size w0 w':=by
 have HC:Hid (Calls Tryz.prog 249 #[] w0 fun e w'=> ∃A' n' c' l,e= .returned (.slice A' n' c')/\Parts lo w'.heap.size w' A' n' c' l/\ndPts l=astOf 15/\Below w0.heap.size w0 w'):=authority_parts lo w0 hlo;go_enter Tryz.func213,Tryz.ntmps213;go_wp2_with fail;refine HC.out.mono ?_;rintro e w1 ⟨A1,n1,c1,l1,rfl,hp,hl,hb⟩;have HP:=zq hp;have HB:=zq hb;have HL:=zq hl;clear hl;clear hp hb HC;go_wp2;go_ret
 exact⟨A1,n1,c1,_,rfl,HP.out,HL.out,HB.out⟩
theorem layout_none (id:Int)(h: ¬(id=0\/id=1\/id=3\/id=5\/id=11\/id=15\/id=21\/id=27\/id=42\/id=57\/id=58\/id=80))(w:World):
  Calls Tryz.prog 213 #[.int .i64 id] w fun e w'=>e= .returned (.slice none 0 0)/\w=w':=by
 obtain⟨h0,h1,h3,h5,h11,h15,h21,h27,h42,h57,h58,h80⟩:id≠0/\id≠1/\id≠3/\id≠5/\id≠11/\id≠15/\id≠21/\id≠27/\id≠42/\id≠57/\id≠58/\id≠80:=by omega
 clear h;go_enter Tryz.func213,Tryz.ntmps213;go_wp2;go_ret
 exact⟨rfl,rfl⟩
theorem known_ids {id:Int}:knownB id=true↔(id=0\/id=1\/id=3\/id=5\/id=11\/id=15\/id=21\/id=27\/id=42\/id=57\/id=58\/id=80):=by
 unfold knownB;simp only[Bool.or_eq_true,decide_eq_true_eq];omega
theorem layout_yes (lo:Nat)(id:Int)(hk:knownB id=true)(w:World)(hlo:lo<=w.heap.size):
  Calls Tryz.prog 213 #[.int .i64 id] w fun e w'=> ∃A' n' c' l,e= .returned (.slice A' n' c')/\Parts lo w'.heap.size w' A' n' c' l/\ndPts l=astOf id/\Below w.heap.size w w':=by
 rcases known_ids.1 hk with rfl|rfl|rfl|rfl|rfl|rfl|rfl|rfl|rfl|rfl|rfl|rfl
 ·exact layout_0 lo w hlo
 ·exact layout_1 lo w hlo
 ·exact layout_3 lo w hlo
 ·exact layout_5 lo w hlo
 ·exact layout_11 lo w hlo
 ·exact layout_15 lo w hlo
 ·exact layout_21 lo w hlo
 ·exact layout_27 lo w hlo
 ·exact layout_42 lo w hlo
 ·exact layout_57 lo w hlo
 ·exact layout_58 lo w hlo
 ·exact layout_80 lo w hlo
theorem layout_no (id:Int)(hk:knownB id=false)(w:World):
  Calls Tryz.prog 213 #[.int .i64 id] w fun e w'=>e= .returned (.slice none 0 0)/\w=w':=
 layout_none id (fun h=>by rw[known_ids.2 h]at hk;cases hk) w
end
section
open Go.RowKit
theorem pairs_set: ∀(l:List (Int×Int)) (j:Nat) (n:Int),(pairs l).set (j*2) (.int .i64 n)=pairs (l.set j (n,(l.getD j (0,0)).2))
 |[],j,n=>by simp[pairs]
 |x::l,0,n=>rfl
 |x::l,j+1,n=>by
  have e: ∀y,pairs (y::l)= .int .i64 y.1:: .int .i64 y.2::pairs l:=fun _=>rfl;have e': ∀k:List (Int×Int),pairs (x::k)= .int .i64 x.1:: .int .i64 x.2::pairs k:=fun _=>rfl;rw[e,show(j+1)*2=j*2+1+1 by omega,List.set_cons_succ,List.set_cons_succ,pairs_set l j n,List.set_cons_succ,e']
  rfl
theorem inv_start {id:Int}{V:List Int}(h:V.length<=500000):Inv (startS id V) 1:=⟨by simp[startS],by show V.length<=_;omega,by simp[startS],by simp[startS];omega⟩
end
section
open Go.RowKit
theorem index_any (A:Option Addr)(n c:Nat)(l:List Nat)(x:Int)(w:World)(hs:Sl w 1 A n c (nats l))(hn:n<=100):
  Calls Tryz.prog 269 #[.slice A n c,.int .i64 x] w fun e w'=> ∃r:Int,e= .returned (.int .i64 r)/\(0<=r↔ ∃y∈l,(y:Int)=x)/\w=w':=by
 have hl:l.length=n:=by have:=hs.1;simpa[nats]using this
 have HS:=zq hs;have HL:=zq hl;clear hs hl;go_enter Tryz.func269,Tryz.ntmps269;go_wp2;go_loop [8] (fun i=> ∃j:Nat,j<=n/\i= .int .i64 j/\ ∀q,q<j->(l.getD q 0:Int)≠x) (fun i=>n-(intOf i).toNat)
 case atStart=>exact⟨0,by omega,rfl,fun q h=>by omega⟩
 obtain⟨j,hj,rfl,hq⟩:=hrel;have HQ:=zq hq;clear hq;by_cases hlt:j<n
 ·have hjl:j<l.length:=by have:=HL.out;omega
  obtain⟨b,o,rfl,hc⟩:=HS.out.at_ (j:=j) (u:= .int .i64 (l.getD j 0:Int)) (by simp[nats,List.getD_eq_getElem?_getD,List.getElem?_eq_getElem hjl]);have hm:l.getD j 0∈l:=by rw[List.getD_eq_getElem?_getD,List.getElem?_eq_getElem hjl];exact List.getElem_mem hjl
  have hall: ∀q,q<j+1->(l.getD j 0:Int)≠x->(l.getD q 0:Int)≠x:=fun q h1 h2=>by
   by_cases e:q=j
   ·rw[e];exact h2
   ·exact HQ.out q (by omega)
  have HALL:=zq hall;clear hall;generalize l.getD j 0=y at*;have HM:=zq hm;clear hm hjl;have x0:(0:Int)<=j:=by omega
  have x1:(j:Int)<n:=by omega
  by_cases he:(x:Int)=y
  ·have h1:((x:Int)==(y:Int))=true:=by simp[he]
   have HE:=zq he;clear he;go_wp2;go_ret
   exact⟨j,rfl,⟨fun _=>⟨y,HM.out,HE.out.symm⟩,fun _=>by omega⟩,rfl⟩
  ·have h1:((x:Int)==(y:Int))=false:=by simp[he]
   have HE:=zq he;clear he;go_wp2;go_round
   case rel=>exact⟨j+1,by omega,by go_num,fun q h=>HALL.out q h (fun e=>HE.out e.symm)⟩
   case measure=>simp[intOf];omega
 ·obtain rfl:j=n:=by omega
  go_wp2;go_ret
  refine⟨-1,rfl,⟨fun h=>by omega,fun⟨y,hy,e⟩=>?_⟩,rfl⟩;obtain⟨q,hq1,hq2⟩:=List.getElem_of_mem hy;exact absurd (by rw[List.getD_eq_getElem?_getD,List.getElem?_eq_getElem hq1];simp[hq2,e]) (HQ.out q (by have:=HL.out;omega))
theorem contains_any (A:Option Addr)(n c:Nat)(l:List Nat)(x:Int)(w:World)(hs:Sl w 1 A n c (nats l))(hn:n<=100):
  Calls Tryz.prog 266 #[.slice A n c,.int .i64 x] w fun e w'=>e= .returned (.bool (decide (∃y∈l,(y:Int)=x)))/\w=w':=by
 have HI:=zq (index_any A n c l x w hs hn);obtain⟨b,hb⟩:=geZ (decide (∃y∈l,(y:Int)=x));rw[hb];have HB:=zq hb;clear hs hb;go_enter Tryz.func266,Tryz.ntmps266;go_wp2_with fail;refine HI.out.mono ?_;rintro e w1 ⟨r,rfl,hr,rfl⟩;have HR:=zq hr;clear hr;go_wp2;go_ret
 refine⟨?_,rfl⟩;have h2:decide (0<=r)=b:=by
  rw[<-HB.out];by_cases h:0<=r
  ·rw[decide_eq_true h,decide_eq_true (HR.out.1 h)]
  ·rw[decide_eq_false h,decide_eq_false (fun k=>h (HR.out.2 k))]
 exact congrArg (fun b=>Ending.returned (.bool b)) h2
def timesOf (k:Nat)(n:Int):Nat:=if k=3 then 0 else many k n
theorem times_zero (n:Int)(h:0<=n):(timesOf 0 n:Int)=n:=by
 unfold timesOf many;rw[if_neg (by decide),if_pos rfl];omega
theorem times_only (k:Nat)(n:Int)(h0:k≠0)(h3:k<=3):(timesOf k n:Int)=if decide (∃y∈onlyOf k,(y:Int)=n)=true then 1 else 0:=by
 obtain h|h|h:k=1\/k=2\/k=3:=by omega
 ·subst h
  by_cases e:n=1
  ·subst e;rfl
  ·have: ¬ ∃y∈onlyOf 1,(y:Int)=n:=by rintro⟨y,hy,h⟩;simp[onlyOf]at hy;omega
   rw[decide_eq_false this];simp[timesOf,many,e]
 ·subst h
  by_cases e:n=1
  ·subst e;rfl
  ·by_cases e2:n=2
   ·subst e2;rfl
   ·have: ¬ ∃y∈onlyOf 2,(y:Int)=n:=by rintro⟨y,hy,h⟩;simp[onlyOf]at hy;omega
    rw[decide_eq_false this];simp[timesOf,many,e,e2]
 ·subst h
  have: ¬ ∃y∈onlyOf 3,(y:Int)=n:=by rintro⟨y,hy,_⟩;simp[onlyOf]at hy
  rw[decide_eq_false this];simp[timesOf]
theorem times_le (k:Nat)(n:Int)(_h3:k<=3)(hn:n<=4294967296):timesOf k n<=4294967296:=by
 unfold timesOf many
 repeat' split
 all_goals omega
theorem times_any (v k:Nat)(Ao:Option Addr)(co:Nat)(f:Value)(n:Int)(w:World)(hk:k<=3)(hn:k=0->0<=n)(hs:Sl w 1 Ao (onlyOf k).length co (nats (onlyOf k))):
  Calls Tryz.prog 251 #[.agg #[.int .i64 (v:Int),.bool (decide (k=0)),.slice Ao (onlyOf k).length co,f],.int .i64 n] w fun e w'=>e= .returned (.int .i64 (timesOf k n:Nat))/\Below w.heap.size w w':=by
 by_cases h0:k=0
 ·have ht:=times_zero n (hn h0)
  subst h0;rw[ht];have HB:=zq ((Below.refl w.heap.size w).alloc (Nat.le_refl _) (.cells #[.int .i64 (v:Int),.bool true,.slice Ao 0 co,f] 284));clear hs ht hn;go_enter Tryz.func251,Tryz.ntmps251;go_wp2;go_ret
  exact⟨rfl,HB.out⟩
 ·rw[times_only k n h0 hk,decide_eq_false h0]
  have hlen:(onlyOf k).length<=100:=by
                       unfold onlyOf;repeat' split
                       all_goals decide
  have HC:=zq (fun W (hW:Sl W 1 Ao (onlyOf k).length co (nats (onlyOf k)))=>contains_any Ao _ co (onlyOf k) n W hW hlen);have HS:=zq (hs.beside (.cells #[.int .i64 (v:Int),.bool false,.slice Ao (onlyOf k).length co,f] 284));generalize decide (∃y∈onlyOf k,(y:Int)=n)=b at*;have HC2:=zq (HC.out _ HS.out);have HB:=zq ((Below.refl w.heap.size w).alloc (Nat.le_refl _) (.cells #[.int .i64 (v:Int),.bool false,.slice Ao (onlyOf k).length co,f] 284));generalize (onlyOf k).length=m at*;clear hs hn HC HS hlen h0 hk
  cases b
  all_goals
   go_enter Tryz.func251,Tryz.ntmps251;go_wp2_with fail;refine HC2.out.mono ?_;rintro e w1 ⟨rfl,rfl⟩;go_wp2;go_ret
   exact⟨rfl,HB.out⟩
def KeepWP (w w':World):Prop:= ∀(k:Nat) (cs:Array Value) (t:TypeId) (fr:Nat×Nat),(t=229\/t=284)->w.heap[k]?=some (.cells cs t fr)->w'.heap[k]?=some (.cells cs t fr)
structure FrZ (base lo hi:Nat) (w w':World):Prop where
 b:Below base w w'
 z:Zone lo hi w w'
 t:KeepWP w w'
theorem FrZ.refl (base lo hi:Nat)(w:World):FrZ base lo hi w w:=⟨Below.refl _ _,fun _ _ _=>rfl,fun _ _ _ _ _ h=>h⟩
theorem FrZ.trans {base lo hi:Nat}{a b c:World}(h:FrZ base lo hi a b)(k:FrZ base lo hi b c):FrZ base lo hi a c:=⟨h.b.trans k.b,fun i h1 h2=>(k.z i h1 h2).trans (h.z i h1 h2),fun i cs t fr ht x=>k.t i cs t fr ht (h.t i cs t fr ht x)⟩
theorem frz_call {base lo hi:Nat}{w w':World}(hb:Below w.heap.size w w')(hB:base<=w.heap.size)(hh:hi<=w.heap.size):FrZ base lo hi w w':=
 ⟨hb.mono hB,fun k _ h2=>hb.block k (Nat.lt_of_lt_of_le h2 hh),fun k cs t fr _ h=>by rw[hb.block k (Array.getElem?_eq_some_iff.1 h).1];exact h⟩
theorem frz_store {base lo hi g:Nat}{w:World}{t:TypeId}{cs:Array Value}(hh:Has w g t cs)(ht:t≠229/\t≠284)(hg:base<=g)(hz:g<lo\/hi<=g)(hB:base<=w.heap.size)(i:Nat)(u:Value):FrZ base lo hi w (w.setCell ⟨g,i,none⟩ u):=by
 refine⟨below_store hg hB i u,fun k h1 h2=>Below.heap_setCell w _ u k (by show k≠g;omega),fun k cs' t' fr ht' h=>?_⟩;rw[Below.heap_setCell w ⟨g,i,none⟩ u k (by
  show k≠g
  rintro rfl;unfold Has at hh;rw[hh]at h;injection h with h
  injection h with _ h
  subst h;exact ht'.elim ht.1 ht.2)]
 exact h
theorem frz_grown {base lo hi:Nat}{w w':World}{bb sz n:Nat}{e:TypeId}{v:Value}{xs:List Value}(ho:w.ownsRow bb e sz v n xs)(ht:e≠229/\e≠284)(hB:base<=w.heap.size)(hh:hi<=w.heap.size)(hg:w.grownBy w' v.ownBlock)(h1:base<=bb)(h2: ∀k,v.ownBlock=some k->k<lo\/hi<=k):FrZ base lo hi w w':=by
 refine⟨(Below.refl base w).grown hg hB (fun k hk=>Nat.le_trans h1 (ho.lt k hk).1),fun k a b=>hg.block k (Nat.lt_of_lt_of_le b hh) (fun e=>by have:=h2 k e.symm;omega),fun k cs t fr ht' h=>?_⟩;rw[hg.block k (Array.getElem?_eq_some_iff.1 h).1 (fun e'=>?_)]
 ·exact h
 ·rcases ho.2 with⟨rfl,_⟩|⟨g,cap,cur,rfl,_,hh2,_⟩
  ·simp[Value.ownBlock]at e'
  ·have e2:k=g:=by simpa[Value.ownBlock]using e'
   subst e2;rw[hh2]at h;injection h with h
   injection h with _ h
   subst h;exact ht'.elim ht.1 ht.2
theorem Has.frz {base lo hi g:Nat}{w w':World}{t:TypeId}{cs:Array Value}(h:Has w g t cs)(ht:t=229\/t=284)(hf:FrZ base lo hi w w'):Has w' g t cs:=hf.t g cs t (0,0) ht h
theorem Wd.low {w:World}(h:Wd w):0<w.heap.size:=cell_block (h 0 (by decide))
theorem Wd.frz {base lo hi:Nat}{w w':World}(h:Wd w)(hb:0<base)(hf:FrZ base lo hi w w'):Wd w':=fun i hi=>by
 rw[hf.b.cell (p:=⟨0,i,none⟩) hb];exact h i hi
def panE (e:Int):Ending:= .panicked [{v:= .iface 39 (.int .i64 e),recovered:=false}]
structure NumC (St:World->WS->Prop) (F g base lo hi:Nat):Prop where
 ent: ∀args w,(callFunc F args).run Tryz.prog w= .ok (.enter F args) w
 gb:0<base
 low: ∀w s,St w s->base<=w.heap.size/\hi<=w.heap.size
 under: ∀w w' s,St w s->Below w.heap.size w w'->St w' s
 ok: ∀(v:Nat) (s:WS) (w:World) (k:Nat),v<96->v≠5->St w s->s.e=0->Inv s k->Wd w->(fetch v s).2.e=0->Calls Tryz.prog F #[.pointer (some ⟨g,0,none⟩),.int .i64 (v:Int)] w fun e w'=>e= .returned (.int .i64 (fetch v s).1)/\St w' (keep v (fetch v s).1 (fetch v s).2)/\FrZ base lo hi w w'
 bad: ∀(v:Nat) (s:WS) (w:World) (k:Nat),v<96->v≠5->St w s->s.e=0->Inv s k->Wd w->(fetch v s).2.e≠0->Calls Tryz.prog F #[.pointer (some ⟨g,0,none⟩),.int .i64 (v:Int)] w fun e w'=>e=panE (fetch v s).2.e/\FrZ base lo hi w w'
end
end Go.Proofs.YtahadmeilajdgaaGreatDoor
