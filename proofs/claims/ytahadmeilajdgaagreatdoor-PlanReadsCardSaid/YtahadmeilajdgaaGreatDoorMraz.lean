/-
  Our own text, joined.
-/
import Derived.Test.YtahadmeilajdgaaGreatDoorMray
import Derived.Recover
import Derived.Test.YtahadmeilajdgaaGreatDoorMraa
import Derived.Test.YtahadmeilajdgaaGreatDoorMraw
import Derived.BigQuiet
import Derived.IntWalk
namespace Go.Proofs.YtahadmeilajdgaaGreatDoor
set_option maxRecDepth 100000
set_option maxHeartbeats 80000000
section
open Go.RowKit
theorem finish_more (base lo hi g:Nat)(id:Int)(s:WS)(w:World)(h:EnAt base lo hi g id w s)(hV:s.V≠[]):
  Calls Tryz.prog 186 #[.pointer (some ⟨g,0,none⟩)] w fun e w'=>e=panE 20/\w=w':=by
 obtain⟨AV,nV,cV,AO,nO,cO,h1,h2⟩:=h.mem;have hn:(0:Int)<nV:=by
  rw[<-h2.v.len];have:s.V.length≠0:=fun h=>hV (List.eq_nil_of_length_eq_zero h);omega
 have k1:w.cell? ⟨g,1,none⟩=some (.slice AV nV cV):=by rw[h1.cell];rfl
 clear h1 h2 h hV;unfold panE;go_enter Tryz.func186,Tryz.ntmps186;go_wp2;exact⟨rfl,rfl,rfl⟩
theorem finish_long (base lo hi g:Nat)(id:Int)(s:WS)(w:World)(h:EnAt base lo hi g id w s)(hV:s.V=[])(h8:8184<qar s.out):
  Calls Tryz.prog 186 #[.pointer (some ⟨g,0,none⟩)] w fun e w'=>e=panE 2/\w=w':=by
 obtain⟨AV,nV,cV,AO,nO,cO,h1,h2⟩:=h.mem;have hn:nV=0:=by rw[<-h2.v.len,hV];rfl
 subst hn;have k1:w.cell? ⟨g,1,none⟩=some (.slice AV 0 cV):=by rw[h1.cell];rfl
 have k3:w.cell? ⟨g,3,none⟩=some (.int .i64 (qar s.out)):=by rw[h1.cell];rfl
 generalize qar s.out=T at*;clear h1 h2 h hV;unfold panE;go_enter Tryz.func186,Tryz.ntmps186;go_wp2;exact⟨rfl,rfl,rfl⟩
theorem finish_ok (base lo hi g:Nat)(id:Int)(s:WS)(w:World)(h:EnAt base lo hi g id w s)(hV:s.V=[])(h8: ¬8184<qar s.out)(p:Nat)(hp:s.place=p)(hpo:p<s.out.length)(hgp:(s.out.getD p (0,0)).2=13)(hol:s.out.length<=1000000):
  Calls Tryz.prog 186 #[.pointer (some ⟨g,0,none⟩)] w fun e w'=> ∃A m c,e= .returned (.slice A m c)/\SlP w' A m c (s.out.set p (qar s.out,13))/\(∀a,A=some a->base<=a.block)/\Below base w w':=by
 obtain⟨AV,nV,cV,AO,nO,cO,h1,h2⟩:=h.mem;have hn:nV=0:=by rw[<-h2.v.len,hV];rfl
 subst hn;have hlo:=h2.len;obtain⟨go,capo,hvo,hgo1,hgo2⟩:=h2.o.form (by omega);injection hvo with hvo1 _ hvo2
 subst hvo1;subst hvo2;have hoo:=h2.o;have hgl:base<=go:=(hoo.lt go rfl).1;have k1:w.cell? ⟨g,1,none⟩=some (.slice AV 0 cV):=by rw[h1.cell];rfl
 have k2:w.cell? ⟨g,2,none⟩=some (.slice (some ⟨go,0,none⟩) nO cO):=by rw[h1.cell];rfl
 have k3:w.cell? ⟨g,3,none⟩=some (.int .i64 (qar s.out)):=by rw[h1.cell];rfl
 have k4:w.cell? ⟨g,4,none⟩=some (.int .i64 (p:Int)):=by rw[h1.cell];show some (Value.int .i64 s.place)=_;rw[hp]
 have hca:w.cell? ⟨go,p*2,none⟩=some (.int .i64 (s.out.getD p (0,0)).1):=by
  rw[hoo.cellAt (p*2) (by omega)];exact(qe6 s.out p hpo).1
 have hfa:w.frozen? ⟨go,p*2,none⟩=false:=hoo.frozenAt _;have hne:g≠go:=by
  have h:=qa0 hoo h1 (by decide);intro e;exact h (by rw[e];rfl)
 have hood:w.drew.ownsRow base 185 2 (.slice (some ⟨go,0,none⟩) nO cO) nO (pairs s.out):=hoo;have hfin:=hood.stored (p*2) (.int .i64 (qar s.out));rw[qfy,hgp]at hfin;have hhd:Has w.drew g 227 _:=h1.draw;have kd2:(w.drew.setCell ⟨go,p*2,none⟩ (.int .i64 (qar s.out))).cell? ⟨g,2,none⟩=some (.slice (some ⟨go,0,none⟩) nO cO):=by
  rw[(hhd.apart (p:=⟨go,p*2,none⟩) hne (.int .i64 (qar s.out))).cell];rfl
 have hcd:w.drew.cell? ⟨go,p*2,none⟩=some (.int .i64 (s.out.getD p (0,0)).1):=hca;have hfd:w.drew.frozen? ⟨go,p*2,none⟩=false:=hfa;have HFIN:=zq hfin;have HLN:Hid ((s.out.set p (qar s.out,13)).length=nO):=zq (by rw[List.length_set];exact hlo);have HBD:=zq (qas (qaa (Below.refl base w) 1) h.sz.1 hood (Nat.le_refl _) rfl hfin.2);have x3:(p:Int)<nO:=by omega
 have x4:(0:Int)<=p:=by omega
 have x5:p<=1000000:=by omega
 generalize (s.out.getD p (0,0)).1=y at*;generalize qar s.out=T at*;clear hfin hood hoo hhd h1 h2 h hV hgo1 hgo2 hp hgp hlo hpo;go_enter Tryz.func186,Tryz.ntmps186;go_wp2_with fail;go_still_tail 14,(by kernel_rfl)
 change wpList _ _ _ _ _ w.drew
 go_wp2;go_ret
 exact⟨some ⟨go,0,none⟩,nO,cO,rfl,⟨HLN.out,Sl.of_own HFIN.out.1⟩,fun a h=>by cases h;exact hgl,HBD.out⟩
theorem assert_errno (c:Int)(w:World):(Instr.typeAssert (.iface 39 (.int .i64 c)) 20 39 false).run Tryz.prog w= .ok (.int .i64 c) w:=by kernel_rfl
theorem qcT (p:Addr)(x code:Int)(older:List PanicEntry)(w:World)(hc:w.cell? p=some (.int .i64 x))(hz:w.frozen? p=false):
  CallsD Tryz.prog 183 #[.pointer (some p)] (.panicking ({v:= .iface 39 (.int .i64 code),recovered:=false} ::older)) w fun e u' w'=>
   e= .returned (.tuple #[])/\u'= .panicking ({v:= .iface 39 (.int .i64 code),recovered:=true} ::older)/\w'=w.setCell p (.int .i64 code):=by
 refine callsD_of_wpS Tryz.func183 rfl fun c₀ cs hu=>?_;apply wpS_seq
 apply wpS_region
 simp[wpOpsS,go_sem,recoverD,hu,Tryz.ntmps183,Exit.thenS];apply wpS_seq
 apply wpS_region
 simp[wpOpsS,go_sem,Exit.thenS,Array.replicate];refine wpS_cond (t:=true) (by simp[Act.eval]) ?_;simp only[if_true];apply wpS_region
 simp[wpOpsS,go_sem,hc,hz,bodyPostS,results,Tryz.results183,assert_errno]
theorem idle_items (p:Addr)(w:World):
  CallsD Tryz.prog 183 #[.pointer (some p)] .returning w fun e u' w'=>e= .returned (.tuple #[])/\u'= .returning/\w'=w:=by
 refine callsD_of_wpS Tryz.func183 rfl fun c₀ cs hu=>?_;apply wpS_seq
 apply wpS_region
 simp[wpOpsS,go_sem,recoverD,hu,Tryz.ntmps183,Exit.thenS];apply wpS_seq
 apply wpS_region
 simp[wpOpsS,go_sem,Exit.thenS,Array.replicate];refine wpS_cond (t:=false) (by simp[Act.eval]) ?_;simp only[Bool.false_eq_true,if_false];refine wpS_of_wp (wp_skip ?_)
 cases c₀
 simp_all [bodyPostS,results,Tryz.results183]
end
section
open Go.RowKit
def ItemsPost (T:List (Int×Int)×Int)(w:World)(e:Ending)(w':World):Prop:=
 ∃A' m' c',e= .returned (.tuple #[.slice A' m' c',.int .i64 T.2])/\SlP w' A' m' c' T.1/\Below w.heap.size w w'
theorem opk_items (id:Int)(A:Option Addr)(n c:Nat)(V:List Int)(w:World)(hV:SlI w.heap.size w A n c V)(hn:n<=10000)(hwd:Wd w):
  Calls Tryz.prog 123 #[pkV id A n c] w (ItemsPost (qcF id V) w):=by
 have hmf: ∀(fn:Fn) (first cap:Array Value) (w:World),(Instr.makeFunc fn first cap).run Tryz.prog w= .ok (.func fn first cap) w:=fun _ _ _ _=>rfl;have hb1:Below w.heap.size w ((w.alloc (.cells #[.int .i64 id,.slice A n c] 98)).alloc (.cells #[.int .i64 0] 39)):=(bA).alloc (by simp) _;have hsz:((w.alloc (.cells #[.int .i64 id,.slice A n c] 98)).alloc (.cells #[.int .i64 0] 39)).heap.size=w.heap.size+2:=by simp
 have hcp:Has ((w.alloc (.cells #[.int .i64 id,.slice A n c] 98)).alloc (.cells #[.int .i64 0] 39)) (w.heap.size+1) 39 #[.int .i64 0]:=by
  have h:=Has.made (w.alloc (.cells #[.int .i64 id,.slice A n c] 98)) 39 #[.int .i64 0];rw[show(w.alloc (.cells #[.int .i64 id,.slice A n c] 98)).heap.size=w.heap.size+1 by simp]at h;exact h
 obtain⟨wb,hwb⟩:=geZ ((w.alloc (.cells #[.int .i64 id,.slice A n c] 98)).alloc (.cells #[.int .i64 0] 39));rw[hwb]at hb1 hsz hcp;have hE:EnAt (w.heap.size+2) 0 0 (w.heap.size+2) id (wb.alloc (.cells #[.int .i64 id,.slice A n c,.slice none 0 0,.int .i64 0,.int .i64 0] 227)) ⟨V,false,[],[],[],0,0⟩:=by
  refine⟨Nat.le_refl _,.inr (Nat.zero_le _),⟨by simp[hsz],Nat.zero_le _⟩,rfl,A,n,c,none,0,0,?_,⟨?_,rfl,World.ownsRow_nil _ _ _ _,fun k h=>(by cases h),fun x h=>(by cases h)⟩⟩
  ·have h:=Has.made wb 227 #[.int .i64 id,.slice A n c,.slice none 0 0,.int .i64 0,.int .i64 0]
   rw[hsz]at h;exact h
  ·have h2:=hV.below (hb1.alloc hb1.size (.cells #[.int .i64 id,.slice A n c,.slice none 0 0,.int .i64 0,.int .i64 0] 227))
   exact⟨h2.len,h2.cap,h2.sl,fun hc a ha=>by have:=h2.low hc a ha;omega⟩
 have hbE:Below wb.heap.size wb (wb.alloc (.cells #[.int .i64 id,.slice A n c,.slice none 0 0,.int .i64 0,.int .i64 0] 227)):=bA;have hpk:=packet_enc (w.heap.size+2) (w.heap.size+2) id V _ hE ((hwd.under hb1).under hbE) (by have:=hwd.low;omega) (by rw[hV.len];omega);have HB1:=zq hb1;have HSZ:=zq hsz;have HCP:=zq (hcp.u hbE);have HPK:=zq hpk;obtain⟨wE,hwE⟩:=geZ (wb.alloc (.cells #[.int .i64 id,.slice A n c,.slice none 0 0,.int .i64 0,.int .i64 0] 227));rw[hwE]at HPK HCP hbE;have HBE:=zq hbE;have HWB:=zq hwb;have HWE:=zq hwE;have HVL:=zq hV.len;obtain⟨R,hR⟩:=geZ (runL (astOf id) 0 (qbc id V));obtain⟨T,hT⟩:=geZ (qcF id V);rw[hT];have hT2:=hT;unfold qcF at hT2;rw[hR]at hT2 HPK;have HT:=zq hT2;have HR:=zq hR;clear hpk hE hb1 hsz hcp hV hbE hwb hwE hR hT hT2 hwd;unfold pkV;go_enter_defers Tryz.func123,Tryz.ntmps123
 go_wp2_with fail;rw[HWB.out,HWE.out]
 cases hk:qbA id
 ·have hT:=HT.out
  rw[if_pos hk]at hT;have HC:=zq (HPK.out.mono fun e w' (h:qgy _ _ id R wE e w')=>And.intro (h.1.elim (fun h=>h.2) (fun h=>absurd h.1 (by rw[hk];decide))) h.2);subst hT;clear hk HT HPK;unfold panE at HC;refine HC.out.mono ?_;rintro e w3 ⟨rfl,hb3⟩;have hcp:=HCP.out.under hb3 (by omega);have q1:w3.cell? ⟨w.heap.size+1,0,none⟩=some (.int .i64 0):=by rw[hcp.cell];rfl
  have q2:=hcp.thaw 0;have q3:(w3.setCell ⟨w.heap.size+1,0,none⟩ (.int .i64 50)).cell? ⟨w.heap.size+1,0,none⟩=some (.int .i64 50):=by rw[(hcp.stored 0 _).cell];rfl
  have hbw:Below w.heap.size w w3:=HB1.out.trans ((HBE.out.mono HB1.out.size).trans (hb3.mono (by omega)));have HBW:=zq (hbw.trans (qaU (w:=w3) (base:=w.heap.size) (g:=w.heap.size+1) (by omega) hbw.size 0 (.int .i64 50)));clear hbw;refine leaves_cons (f:=183) (args:=#[.pointer (some ⟨w.heap.size+1,0,none⟩)]) (by simp) (by simp[go_sem]) ?_;refine(qcT ⟨w.heap.size+1,0,none⟩ 0 50 [] w3 q1 q2).mono ?_;rintro e u' w'' ⟨rfl,rfl,rfl⟩;simp[Leaves,settle,results,Tryz.results123,go_sem,q3];exact⟨none,0,0,rfl,⟨rfl,qcv _ _⟩,HBW.out⟩
 ·have hT:=HT.out
  rw[if_neg (by rw[hk];decide)]at hT;by_cases he:R.e≠0
  ·rw[if_pos he]at hT
   have HC:=zq (HPK.out.mono fun e w' (h:qgy _ _ id R wE e w')=>And.intro (h.1.elim (fun h=>absurd h.1 (by rw[hk];decide)) (fun h=>h.2.elim (fun h=>absurd h.1 he) (fun h=>h.2))) h.2);subst hT;clear hk HT HPK he;unfold panE at HC;refine HC.out.mono ?_;rintro e w3 ⟨rfl,hb3⟩;have hcp:=HCP.out.under hb3 (by omega);have q1:w3.cell? ⟨w.heap.size+1,0,none⟩=some (.int .i64 0):=by rw[hcp.cell];rfl
   have q2:=hcp.thaw 0;have q3:(w3.setCell ⟨w.heap.size+1,0,none⟩ (.int .i64 R.e)).cell? ⟨w.heap.size+1,0,none⟩=some (.int .i64 R.e):=by rw[(hcp.stored 0 _).cell];rfl
   have hbw:Below w.heap.size w w3:=HB1.out.trans ((HBE.out.mono HB1.out.size).trans (hb3.mono (by omega)));have HBW:=zq (hbw.trans (qaU (w:=w3) (base:=w.heap.size) (g:=w.heap.size+1) (by omega) hbw.size 0 (.int .i64 R.e)));clear hbw;refine leaves_cons (f:=183) (args:=#[.pointer (some ⟨w.heap.size+1,0,none⟩)]) (by simp) (by simp[go_sem]) ?_;refine(qcT ⟨w.heap.size+1,0,none⟩ 0 R.e [] w3 q1 q2).mono ?_;rintro e u' w'' ⟨rfl,rfl,rfl⟩;simp[Leaves,settle,results,Tryz.results123,go_sem,q3];exact⟨none,0,0,rfl,⟨rfl,qcv _ _⟩,HBW.out⟩
  ·rw[if_neg he]at hT
   have he0:R.e=0:=by omega
   have HC:=zq (HPK.out.mono fun e w' (h:qgy _ _ id R wE e w')=>And.intro (h.1.elim (fun h=>absurd h.1 (by rw[hk];decide)) (fun h=>h.2.elim (fun h=>h.2) (fun h=>absurd he0 h.1))) h.2);have HK:=zq hk;have HE:=zq he0;have HT2:=zq hT;clear hk HT HPK he hT he0;refine HC.out.mono ?_;rintro e w3 ⟨⟨rfl,lo,hi,hE3⟩,hb3⟩;by_cases hRV:R.V≠[]
   ·have hT:=HT2.out
    rw[if_pos hRV]at hT;have HF:=zq (finish_more _ lo hi _ id R w3 hE3 hRV);unfold panE at HF;subst hT;clear hRV HT2 hE3 HC;have hcp:=HCP.out.under hb3 (by omega);have q1:w3.cell? ⟨w.heap.size+1,0,none⟩=some (.int .i64 0):=by rw[hcp.cell];rfl
    have HB3:=zq hb3;clear hb3 hcp q1;go_wp2_with fail;refine HF.out.mono ?_;rintro e w4 ⟨rfl,rfl⟩;have hb3:=HB3.out;have hcp:=HCP.out.under hb3 (by omega);have q1:w3.cell? ⟨w.heap.size+1,0,none⟩=some (.int .i64 0):=by rw[hcp.cell];rfl
    have q2:=hcp.thaw 0;have q3:(w3.setCell ⟨w.heap.size+1,0,none⟩ (.int .i64 20)).cell? ⟨w.heap.size+1,0,none⟩=some (.int .i64 20):=by rw[(hcp.stored 0 _).cell];rfl
    have hbw:Below w.heap.size w w3:=HB1.out.trans ((HBE.out.mono HB1.out.size).trans (hb3.mono (by omega)));have HBW:=zq (hbw.trans (qaU (w:=w3) (base:=w.heap.size) (g:=w.heap.size+1) (by omega) hbw.size 0 (.int .i64 20)));clear hbw;refine leaves_cons (f:=183) (args:=#[.pointer (some ⟨w.heap.size+1,0,none⟩)]) (by simp) (by simp[go_sem]) ?_;refine(qcT ⟨w.heap.size+1,0,none⟩ 0 20 [] w3 q1 q2).mono ?_;rintro e u' w'' ⟨rfl,rfl,rfl⟩;simp[Leaves,settle,results,Tryz.results123,go_sem,q3];exact⟨none,0,0,rfl,⟨rfl,qcv _ _⟩,HBW.out⟩
   ·have hT:=HT2.out
    rw[if_neg hRV]at hT;have hRV0:R.V=[]:=by simpa using hRV
    by_cases h8:8184<qar R.out
    ·rw[if_pos h8]at hT
     have HF:=zq (finish_long _ lo hi _ id R w3 hE3 hRV0 h8);unfold panE at HF;subst hT;have HB3:=zq hb3;clear hRV hRV0 h8 HT2 hE3 HC hb3;go_wp2_with fail;refine HF.out.mono ?_;rintro e w4 ⟨rfl,rfl⟩;have hb3:=HB3.out;have hcp:=HCP.out.under hb3 (by omega);have q1:w3.cell? ⟨w.heap.size+1,0,none⟩=some (.int .i64 0):=by rw[hcp.cell];rfl
     have q2:=hcp.thaw 0;have q3:(w3.setCell ⟨w.heap.size+1,0,none⟩ (.int .i64 2)).cell? ⟨w.heap.size+1,0,none⟩=some (.int .i64 2):=by rw[(hcp.stored 0 _).cell];rfl
     have hbw:Below w.heap.size w w3:=HB1.out.trans ((HBE.out.mono HB1.out.size).trans (hb3.mono (by omega)));have HBW:=zq (hbw.trans (qaU (w:=w3) (base:=w.heap.size) (g:=w.heap.size+1) (by omega) hbw.size 0 (.int .i64 2)));clear hbw;refine leaves_cons (f:=183) (args:=#[.pointer (some ⟨w.heap.size+1,0,none⟩)]) (by simp) (by simp[go_sem]) ?_;refine(qcT ⟨w.heap.size+1,0,none⟩ 0 2 [] w3 q1 q2).mono ?_;rintro e u' w'' ⟨rfl,rfl,rfl⟩;simp[Leaves,settle,results,Tryz.results123,go_sem,q3];exact⟨none,0,0,rfl,⟨rfl,qcv _ _⟩,HBW.out⟩
    ·rw[if_neg h8]at hT
     obtain⟨D1,D2,R0,wh,_,hS⟩:=qf7 (V:=V) HK.out (by rw[HR.out];exact HE.out);rw[HR.out]at hS;have hout:R.out=[(id,8)]++D1++(0,13)::D2:=by rw[hS]
     obtain⟨p,hp⟩:=geZ (([(id,(8:Int))]++D1).length);have hpl:R.place=p:=by rw[hS,<-hp]
     have hpo:p<R.out.length:=by rw[hout,List.length_append,hp,List.length_cons];omega
     have hgp:(R.out.getD p (0,0)).2=13:=by rw[hout,<-hp,getD_mid2]
     obtain⟨pre,a,post,sh⟩:=qel HK.out;have hinv:=qcs (astOf id) 0 (qbc id V) 0 sh.good (by rw[sh.seven];exact qd5 (by rw[HVL.out];omega));rw[HR.out]at hinv;have HF:=zq (finish_ok _ lo hi _ id R w3 hE3 hRV0 h8 p hpl hpo hgp (by have:=hinv.o;omega));rw[hpl,Int.toNat_natCast]at hT;subst hT;have HB3:=zq hb3;clear hRV hRV0 h8 HT2 hE3 HC hb3 wh hS hout hp hpl hpo hgp sh hinv;go_wp2_with fail;refine HF.out.mono ?_;rintro e w4 ⟨A4,m4,c4,rfl,hsl,hal,hb4⟩;have hb34:=HB3.out.trans hb4;have hcp:=HCP.out.under hb34 (by omega);have q1:w4.cell? ⟨w.heap.size+1,0,none⟩=some (.int .i64 0):=by rw[hcp.cell];rfl
     have q2:=hcp.thaw 0;have q3:(w4.setCell ⟨w.heap.size+1,0,none⟩ (.int .i64 0)).cell? ⟨w.heap.size+1,0,none⟩=some (.int .i64 0):=by rw[(hcp.stored 0 _).cell];rfl
     have hbw:Below w.heap.size w w4:=HB1.out.trans ((HBE.out.mono HB1.out.size).trans (hb34.mono (by omega)));have hst:Below w4.heap.size w4 w4:=Below.refl _ _;have HBW:=zq (hbw.trans (qaU (w:=w4) (base:=w.heap.size) (g:=w.heap.size+1) (by omega) hbw.size 0 (.int .i64 0)));have HSL:Hid (SlP (w4.setCell ⟨w.heap.size+1,0,none⟩ (.int .i64 0)) A4 m4 c4 _):=zq ⟨hsl.len,hsl.sl.1,hsl.sl.2.1,fun ad ha j u hu=>by
      have h0:=hsl.sl.2.2 ad ha j u hu;rw[World.cell?_setCell_other _ _ _ _ (fun e=>by
       have h1:=congrArg Addr.block e;rw[add_blk]at h1;have h2:=hal ad ha;simp only at h1;omega)]
      exact h0⟩
     clear hbw hb34 hcp hsl hb4 hst HF hal;go_wp2;refine leaves_cons (f:=183) (args:=#[.pointer (some ⟨w.heap.size+1,0,none⟩)]) (by simp) (by simp[go_sem]) ?_;refine(idle_items ⟨w.heap.size+1,0,none⟩ _).mono ?_;rintro e u' w'' ⟨rfl,rfl,rfl⟩;simp[Leaves,settle,results,Tryz.results123,go_sem,q3];exact⟨A4,m4,c4,rfl,HSL.out,HBW.out⟩
end
section
open Go.RowKit
open Go.Great
def qch (l:List PkE):Bool:=match l with
 |[]=>false
 |p::_=>p.id==15 &&l.all fun p=>qay (p.id,p.V)
theorem goes_met17 (path:List St3)(e:Int)(r:Bool):goesB path e=metS path [⟨e,r⟩]:=by
 unfold goesB metS;simp
theorem qf9 {path:List St3}{m:Nat}{y:St3}(hm:path.length=m+1)(hy:path[m]?=some y):lastS path=y:=by
 unfold lastS;rw[List.getLastD_eq_getLast?,List.getLast?_eq_getElem?,hm];show(path[m]?).getD _=y
 rw[hy]
 rfl
theorem SlO.link17 {w:World}{A:Option Addr}{n c:Nat}{l:List Lk17}(h:SlO lkC17 3 w A n c l){j:Nat}{x:Lk17}(hx:l[j]?=some x):
  ∃b off,A=some ⟨b,off,none⟩/\w.cell? ⟨b,off+j*3,none⟩=some (.bool x.told)/\w.cell? ⟨b,off+j*3+1,none⟩=some (.int .i64 x.group)/\w.cell? ⟨b,off+j*3+2,none⟩=some (.bool x.rev):=by
 obtain⟨b,off,e,hc⟩:=h.at_ (fun _=>rfl) (by decide) hx;exact⟨b,off,e,hc 0 _ rfl,hc 1 _ rfl,hc 2 _ rfl⟩
theorem opar1_any (id:Int)(A:Option Addr)(n c:Nat)(V:List Int)(w:World)(hV:SlI w.heap.size w A n c V)(hn:n<=10000)(hwd:Wd w):Calls Tryz.prog 122 #[.agg #[.int .i64 id,.slice A n c]] w fun e w'=>e= .returned (.bool (!qay (id,V)))/\Below w.heap.size w w':=by
 obtain⟨wa,hwa,hbwa,HWA,HBWA,h0⟩:=bx1Z w 98 #[.int .i64 id,.slice A n c];have HI:=zq (opk_items id A n c V wa (sliUnder hV hbwa) hn (hwd.under hbwa));have HP:=zq h0;obtain⟨q,hq⟩:=geZ ((qcF id V).2);have HQ:=zq (show qay (id,V)=decide (q=0)from by rw[<-hq];rfl);rw[HQ.out];unfold ItemsPost at HI;rw[hq]at HI;clear hwa hbwa h0 hV hwd hq hn;go_enter Tryz.func122,Tryz.ntmps122;go_upto_region 1 with fail;rw[HWA.out];clear HWA;go_wp2_with (with_reducible refine ldZ 6 HP.out ?_);refine HI.out.mono ?_;rintro e_ w1 ⟨B,m,d,rfl,_,hb1⟩;have HB1:=tB HBWA hb1;clear hb1 HI HP;by_cases z:q=0
 ·have z1:(q !=0)=false:=by simp[z]
  have z2:decide (q=0)=true:=decide_eq_true z;have HZ:=zq (show(!decide (q=0))=false from by rw[decide_eq_true z];rfl);clear z;go_wp2;go_ret
  exact⟨by rw[HZ.out];rfl,HB1.out⟩
 ·have z1:(q !=0)=true:=by simp[z]
  have HZ:=zq (show(!decide (q=0))=true from by rw[decide_eq_false z];rfl);clear z;go_wp2;go_ret
  exact⟨by rw[HZ.out];rfl,HB1.out⟩
theorem oix_ar17 (p:PkE->Bool)(l:List PkE)(A:Option Addr)(n c:Nat)(w:World)(hs:SlK w A n c l)(hbig:n<=1048576)
  (HE:Hid (∀(x:PkE),x∈l-> ∀W,Below w.heap.size w W->Calls Tryz.prog 122 #[.agg #[.int .i64 x.id,.slice x.A x.n x.c]] W fun e w'=>e= .returned (.bool (p x))/\Below W.heap.size W w')):
  Calls Tryz.prog 128 #[.slice A n c,.func (.func 122) #[] #[]] w fun e w'=>e= .returned (.int .i64 (idxL p l))/\Below w.heap.size w w':=by
 have HN:Hid (l.length=n):=zq hs.len;have HW:=zq hs;clear hs;have x0:(0:Int)<=n:=by omega
 obtain⟨R,hR⟩:=geZ (idxL p l);have HR:=zq hR;rw[hR];clear hR;go_enter Tryz.func128,Tryz.ntmps128;go_wp2;go_loopg [8] n (fun kk v wl=> ∃j:Nat,j<=n/\n-j<=kk/\v= .int .i64 j/\Hid (∀i x,i<j->l[i]?=some x->p x=false)/\Hid (Below w.heap.size w wl))
 case atStart=>exact⟨0,by omega,by omega,rfl,zq fun i x h=>absurd h (by omega),zq (Below.refl _ _)⟩
 obtain⟨j,hj,hjk,rfl,HNO,HBL⟩:=hrel;by_cases hlt:j<n
 ·obtain⟨x,hx⟩:=glZ l (j) (by rw[HN.out];omega)
  obtain⟨bk,off,rfl,d0,d1⟩:=(HW.out.under HBL.out).pk17 hx;have HX:=zq hx;have y0:(0:Int)<=j:=by omega
  have y1:(j:Int)<n:=by omega
  have HC:=zq (HE.out x (List.mem_of_getElem? HX.out) wr HBL.out);clear hx;generalize hb:p x=b at*;have HBE:=zq hb;clear hb
  cases b with
  |true=>
   have HF:Hid (R=j):=zq (by rw[<-HR.out];exact qbC HX.out HBE.out HNO.out);go_upto_region 4 with fail;go_wp2_with fail;refine HC.out.mono ?_;rintro e w1 ⟨rfl,hb1⟩;have HB1:=tB HBL hb1;clear hb1 d0 d1 HBE HNO;go_wp2;go_ret
   exact⟨by rw[HF.out];rfl,HB1.out⟩
  |false=>
   go_upto_region 4 with fail;go_wp2_with fail;refine HC.out.mono ?_;rintro e w1 ⟨rfl,hb1⟩;have HB1:=tB HBL hb1;have HN2:Hid (∀i y,i<j+1->l[i]?=some y->p y=false):=zq fun i y hi hy=>by
    by_cases h:i=j
    ·subst h;rw[HX.out]at hy;cases hy;exact HBE.out
    ·exact HNO.out i y (by omega) hy
   clear hb1 d0 d1 HBE HNO;go_wp2;go_roundg (gk-1)
   case measure=>omega
   case rel=>exact⟨j+1,by omega,by omega,by go_num,HN2,HB1⟩
 ·have y1: ¬(j:Int)<n:=by omega
  have HF:Hid (R= -1):=zq (by rw[<-HR.out];exact qbg fun i y hi hy=>HNO.out i y (by have:=HN.out;omega) hy);go_wp2;go_ret
  exact⟨by rw[HF.out];rfl,HBL.out⟩
theorem oct_ar17 (p:PkE->Bool)(l:List PkE)(A:Option Addr)(n c:Nat)(w:World)(hs:SlK w A n c l)(hbig:n<=1048576)
  (HE:Hid (∀(x:PkE),x∈l-> ∀W,Below w.heap.size w W->Calls Tryz.prog 122 #[.agg #[.int .i64 x.id,.slice x.A x.n x.c]] W fun e w'=>e= .returned (.bool (p x))/\Below W.heap.size W w')):
  Calls Tryz.prog 121 #[.slice A n c,.func (.func 122) #[] #[]] w fun e w'=>e= .returned (.bool (l.any p))/\Below w.heap.size w w':=by
 have H:=zq (oix_ar17 p l A n c w hs hbig HE);clear hs HE;rw[<-qbq];generalize idxL p l=R at*;go_enter Tryz.func121,Tryz.ntmps121;go_wp2_with fail;refine H.out.mono ?_;rintro e w1 ⟨rfl,hb1⟩;have HB1:=zq hb1;clear hb1 H;go_wp2;go_ret
 exact⟨rfl,HB1.out⟩
theorem opread_ok17 (l:List PkE)(A:Option Addr)(n c:Nat)(w:World)(hs:SlK w A n c l)(hn:n<=30)(hv: ∀p∈l,p.n<=3000)(hwd:Wd w):
  Calls Tryz.prog 63 #[.slice A n c] w fun r w'=>r= .returned (.bool (qch l))/\Below w.heap.size w w':=by
 have HE:Hid (∀(x:PkE),x∈l-> ∀W,Below w.heap.size w W->Calls Tryz.prog 122 #[.agg #[.int .i64 x.id,.slice x.A x.n x.c]] W fun e w'=>e= .returned (.bool (!qay (x.id,x.V)))/\Below W.heap.size W w'):=zq fun x hx W hW=>opar1_any x.id x.A x.n x.c x.V W (sliUnder (hs.each x hx) hW) (by have:=hv x hx;omega) (hwd.under hW);have HCT:=zq (oct_ar17 (fun x=>!qay (x.id,x.V)) l A n c w hs (by omega) HE);obtain⟨R,hR⟩:=geZ (qch l);rw[hR]
 cases l with
 |nil=>
  obtain rfl:n=0:=hs.len.symm;have HF:=zq (show R=false from hR.symm);clear hs hn hv hwd HE HCT hR;go_enter Tryz.func63,Tryz.ntmps63;go_wp2;go_ret
  exact⟨by rw[HF.out];rfl,Below.refl _ _⟩
 |cons p r=>
  obtain⟨bk,off,hA,d0,d1⟩:=hs.pk17 (j:=0) (x:=p) rfl;subst hA;have d0':w.cell? ⟨bk,off,none⟩=some (.int .i64 p.id):=by rw[show off=off+0*2 by omega];exact d0
  obtain⟨m,hm⟩: ∃m,n=m+1:=⟨r.length,by rw[<-hs.len];rfl⟩
  subst hm;have u1:(0:Int)<((m+1:Nat):Int):=by omega
  have u2: ¬((m+1:Nat):Int)=0:=by omega
  have u3:(((m+1:Nat):Int)==0)=false:=by simp;omega
  obtain⟨pi,hpi⟩: ∃q,p.id=q:=⟨_,rfl⟩
  rw[hpi]at d0 d0';by_cases z:pi=15;rotate_left
  ·have z1:(pi !=15)=true:=by simp[z]
   have HF:=zq (show R=false from by rw[<-hR];unfold qch;dsimp only;rw[hpi,beq_eq_false_iff_ne.2 z];rfl);clear hs hn hv hwd HE HCT hR hpi z d1;go_enter Tryz.func63,Tryz.ntmps63;go_wp2;go_ret
   exact⟨by rw[HF.out];rfl,Below.refl _ _⟩
  ·subst z
   have z1:((15:Int) !=15)=false:=rfl;obtain⟨q,hq⟩:=geZ ((p::r).any (fun x=>!qay (x.id,x.V)));rw[hq]at HCT;have HF:=zq (show R=!q from by rw[<-hR,<-hq];unfold qch;dsimp only;rw[hpi];simp only[beq_self_eq_true,Bool.true_and,List.not_any_eq_all_not,Bool.not_not]);clear hs hn hv hwd HE hR hpi hq d1;go_enter Tryz.func63,Tryz.ntmps63;go_wp2_with fail;refine HCT.out.mono ?_;rintro e_ w1 ⟨rfl,hb1⟩;have HB1:=zq hb1;clear hb1 HCT;go_wp2;go_ret
   exact⟨by rw[HF.out];rfl,HB1.out⟩
theorem opfollow_any (t:Tp3)(a:TpA)(s0:St3)(ks:List Lk17)(A:Option Addr)(n c:Nat)(w:World)(ht:TopR w t a)(hl:qaJ t=true)(hck:qax t=0)(he0:edgeB t s0.edge=true)(hs:SlO lkC17 3 w A n c ks)(hn:n<=32):
  Calls Tryz.prog 65 #[.agg (tpC t a),.agg (stA13 s0),.slice A n c] w fun r w'=> ∃(B:Option Addr) (m d:Nat),r= .returned (.tuple #[.slice B m d,.int .i64 (qaT t [s0] ks).2])/\OwR stC 2 30 w.heap.size w' B m d (qaT t [s0] ks).1/\Below w.heap.size w w':=by
 have HBA:=zq (fun W (hW:Below w.heap.size w W) id=>otp_bal t a id W (ht.under hW) hl);have HAF:=zq (fun W (hW:Below w.heap.size w W) s=>qdh t a s W (ht.under hW) hl);obtain⟨F,hF⟩:=geZ ((qaT t [s0] ks));rw[hF];have HF:=zq hF;have HCK:=zq hck;have HLT:=zq hl;have HKN:=zq hs.1;have HNB:=zq hn;have HE0:=zq he0;clear hF;obtain⟨se,sr⟩:=s0;unfold stA13;dsimp only;obtain⟨wa,hwa,hbwa,HWA,HBWA,h0,h1⟩:=bx2Z w 27 (tpC t a) 30 #[.int .i64 se,.bool sr];have H0:=zH h0;have H1:=zq h1;have HKS:=zq (fun W (hW:Below wa.heap.size wa W)=>(hs.under hbwa).under hW);have HUP:=zq (fun W (hW:Below wa.heap.size wa W)=>HBWA.out.trans (hW.mono HBWA.out.size));obtain⟨wb,hwb⟩: ∃u,wa.alloc (.cells #[.int .i64 se,.bool sr] 30)=u:=⟨_,rfl⟩
 have hbb:Below wa.heap.size wa wb:=by rw[<-hwb];exact bA
 have HO0:=zq (show OwR stC 2 30 wa.heap.size wb (some ⟨wa.heap.size,0,none⟩) 1 1 [⟨se,sr⟩]from by rw[<-hwb];exact⟨World.ownsRow_lit (base:=wa.heap.size) (e:=30) (size:=2) wa #[.int .i64 se,.bool sr] 1 (Nat.le_refl _) (by unfold maxLen;omega) rfl,rfl⟩);have HB0:=zq hbb;have HWB:=zq hwb;clear hwa hbwa h0 h1 ht hl hck he0 hs hwb hbb;go_enter Tryz.func65,Tryz.ntmps65;go_upto_region 1 with fail;rw[HWA.out];clear HWA;go_upto_region 2 with(with_reducible refine ldZ 15 H1.out ?_)
 rw[HWB.out];clear HWB H1;go_wp2;go_loopg [8,19] n (fun kk v8 v19 wl=> ∃(i:Nat) (B:Option Addr) (m d:Nat) (path:List St3),i<=n/\n-i<=kk/\v19= .int .i64 i/\v8= .slice B (m+1) d/\Hid (OwR stC 2 30 wa.heap.size wl B (m+1) d path)/\Hid (m+1<=24)/\Hid (∀s∈path,edgeB t s.edge=true)/\Hid (qaT t path (ks.drop i)=F)/\Hid (Below wa.heap.size wa wl))
 case atStart=>exact⟨0,_,0,1,[⟨se,sr⟩],by omega,by omega,rfl,rfl,HO0,zq (by omega),zq (fun s hs=>by rw[List.mem_singleton]at hs;subst hs;exact HE0.out),zq (by rw[List.drop_zero];exact HF.out),HB0⟩
 clear HO0 HB0 HF HE0;obtain⟨i,B,m,d,path,hi,hik,rfl,rfl,HO,HM,HED,HFO,HB⟩:=hrel;obtain⟨k1,hk1⟩: ∃k1,k1=gk:=⟨_,rfl⟩
 subst hk1;obtain⟨wv,hwv⟩: ∃wv,wv=wr:=⟨_,rfl⟩
 subst hwv;by_cases hlt:i<n;rotate_left
 ·obtain rfl:i=n:=by omega
  have y1: ¬(i:Int)<i:=by omega
  have HFF:=zq (show F=(path,0)from by rw[<-HFO.out,List.drop_of_length_le (by rw[HKN.out];exact Nat.le_refl _)];rfl);go_wp2;go_ret2
  exact⟨B,m+1,d,by rw[HFF.out];rfl,by rw[HFF.out];exact HO.out.to_base HBWA.out.size,HUP.out _ HB.out⟩
 ·obtain⟨x,hx⟩:=glZ ks (i) (by rw[HKN.out];exact hlt)
  obtain⟨bk,off,rfl,d0,d1,d2⟩:=(HKS.out wv HB.out).link17 hx;have hfo:=HFO.out;rw[qcc hx,qaT]at hfo;obtain⟨xt,xg,xr⟩:=x;dsimp only at d0 d1 d2 hfo;have HFO:=zq hfo;have x1:(i:Int)<n:=by omega
  have x2:(0:Int)<=i:=by omega
  have HIN:=zq (show i<n/\n-i<=k1 from⟨hlt,hik⟩);clear hx hfo hi hik hlt;obtain⟨w1,hw1⟩: ∃u,wv.alloc (.cells #[.bool xt,.int .i64 xg,.bool xr] 180)=u:=⟨_,rfl⟩
  have hb1:Below wv.heap.size wv w1:=by rw[<-hw1];exact bA
  have hH1:Has w1 wv.heap.size 180 #[.bool xt,.int .i64 xg,.bool xr]:=by rw[<-hw1];exact Has.made _ _ _
  have HW1:=zq hw1;obtain⟨g1,hg1⟩: ∃g,wv.heap.size=g:=⟨_,rfl⟩
  have HG1:=zq hg1;rw[hg1]at hH1;have HO1:=zq (HO.out.under hb1);have HB1:=tB HB hb1;have HK1:=zq hH1;clear hw1 hb1 hg1 hH1;go_upto_region 5 with fail;rw[HW1.out];simp only[HG1.out];clear HW1 HG1 d0 d1 d2 HO HB;have e1:w1.cell? ⟨g1,1,none⟩=some (.int .i64 xg):=HK1.out.cell 1;have HBX:=zq (HBA.out w1 (HUP.out _ HB1.out) xg);obtain⟨bq,hbq⟩: ∃q,balR t xg=q:=⟨_,rfl⟩
  obtain⟨ok,hok⟩: ∃q,(balF t xg).isSome=q:=⟨_,rfl⟩
  rw[hbq,hok]at HBX;have HBQ:=zq hbq;have HOK:=zq hok;obtain⟨bi,be,ba⟩:=bq;unfold blA at HBX;dsimp only at HBX;clear hbq hok;go_wp2_with (with_reducible refine ldZ 24 (H0.out w1 HB1.out) ?_);refine HBX.out.mono ?_;rintro e_ w2 ⟨rfl,hb2⟩;have HO2:=zq (HO1.out.under hb2);have HB2:=tB HB1 hb2;have HK2:=uH HK1 hb2;clear hb2 HBX e1 HO1 HB1 HK1;obtain⟨w3,hw3⟩: ∃u,w2.alloc (.cells #[.int .i64 bi,.int .i64 be,.int .i64 ba] 151)=u:=⟨_,rfl⟩
  have hb3:Below w2.heap.size w2 w3:=by rw[<-hw3];exact bA
  have hH3:Has w3 w2.heap.size 151 #[.int .i64 bi,.int .i64 be,.int .i64 ba]:=by rw[<-hw3];exact Has.made _ _ _
  have HW3:=zq hw3;obtain⟨g2,hg2⟩: ∃g,w2.heap.size=g:=⟨_,rfl⟩
  have HG2:=zq hg2;rw[hg2]at hH3;have HO3:=zq (HO2.out.under hb3);have HB3:=tB HB2 hb3;have HK3:=uH HK2 hb3;have HY3:=zq hH3;clear hw3 hb3 hg2 hH3 HO2 HB2 HK2;go_upto_region 6 with fail;rw[HW3.out];simp only[HG2.out];clear HW3 HG2;obtain⟨y,hy⟩:=glZ path (m) (by rw[HO3.out.2];omega);have HLY:=zq (qf9 HO3.out.2 hy);have HYE:=zq (HED.out y (List.mem_of_getElem? hy));obtain⟨gp,hgp,_,_⟩:=HO3.out.some (by omega);subst hgp;have p0:=HO3.out.sl.at_cell (fun _=>rfl) (by decide) hy (i:=0) rfl;have p1:=HO3.out.sl.at_cell (fun _=>rfl) (by decide) hy (i:=1) rfl;simp only[Nat.zero_add,Nat.add_zero]at p0 p1;obtain⟨ye,yr⟩:=y;dsimp only at p0 p1 HYE;have hm24:=HM.out;have hm23:m<24:=by omega
  have v1:(0:Int)<=(m:Int):=by omega
  have v2:(m:Int)<((m+1:Nat):Int):=by omega
  clear hy;obtain⟨w4,hw4⟩: ∃u,w3.alloc (.cells #[.int .i64 ye,.bool yr] 30)=u:=⟨_,rfl⟩
  have hb4:Below w3.heap.size w3 w4:=by rw[<-hw4];exact bA
  have hH4:Has w4 w3.heap.size 30 #[.int .i64 ye,.bool yr]:=by rw[<-hw4];exact Has.made _ _ _
  have HW4:=zq hw4;obtain⟨g3,hg3⟩: ∃g,w3.heap.size=g:=⟨_,rfl⟩
  have HG3:=zq hg3;rw[hg3]at hH4;have HO4:=zq (HO3.out.under hb4);have HB4:=tB HB3 hb4;have HK4:=uH HK3 hb4;have HY4:=uH HY3 hb4;have HL4:=zq hH4;clear hw4 hb4 hg3 hH4 HO3 HB3 HK3 HY3;go_upto_region 7 with fail;rw[HW4.out];simp only[HG3.out];clear HW4 HG3 p0 p1 v1 v2 hm24;have y1:w4.cell? ⟨g2,1,none⟩=some (.int .i64 be):=HY4.out.cell 1;have k2:w4.cell? ⟨g1,2,none⟩=some (.bool xr):=HK4.out.cell 2;obtain⟨w5,hw5⟩: ∃u,w4.alloc (.cells #[.int .i64 be,.bool xr] 30)=u:=⟨_,rfl⟩
  have hb5:Below w4.heap.size w4 w5:=by rw[<-hw5];exact bA
  have hH5:Has w5 w4.heap.size 30 #[.int .i64 be,.bool xr]:=by rw[<-hw5];exact Has.made _ _ _
  have HW5:=zq hw5;obtain⟨g4,hg4⟩: ∃g,w4.heap.size=g:=⟨_,rfl⟩
  have HG4:=zq hg4;rw[hg4]at hH5;have HO5:=zq (HO4.out.under hb5);have HB5:=tB HB4 hb5;have HK5:=uH HK4 hb5;have HY5:=uH HY4 hb5;have HL5:=uH HL4 hb5;have HX5:=zq hH5;clear hw5 hb5 hg4 hH5 HO4 HB4 HK4 HY4 HL4;go_upto_region 8 with fail;rw[HW5.out];simp only[HG4.out];clear HW5 HG4 y1 k2;have k0:w5.cell? ⟨g1,0,none⟩=some (.bool xt):=HK5.out.cell 0
  cases xt with
  |false=>
   have HFF:=zq (show F=([],20)from by rw[<-HFO.out,if_pos rfl]);clear HFO;go_wp2;go_ret2
   exact⟨none,0,0,by rw[HFF.out];rfl,by rw[HFF.out];exact OwR.nil _ _ _ _ _,HUP.out _ HB5.out⟩
  |true=>
   have HFO:=zq (by have h_:=HFO.out;rw[if_neg (by decide)]at h_;exact h_);go_upto_region 10 with fail;clear k0
   cases hbf:balF t xg with
   |none=>
    have HFF:=zq (show F=([],4)from by rw[<-HFO.out,hbf]);obtain rfl:ok=false:=by rw[<-HOK.out,hbf];rfl
    clear HFO hbf;go_wp2;go_ret2
    exact⟨none,0,0,by rw[HFF.out];rfl,by rw[HFF.out];exact OwR.nil _ _ _ _ _,HUP.out _ HB5.out⟩
   |some bz=>
    obtain rfl:ok=true:=by rw[<-HOK.out,hbf];rfl
    obtain rfl:bz=⟨bi,be,ba⟩:=by rw[<-HBQ.out];unfold balR;rw[hbf];rfl
    have HBE:=zq (show edgeB t be=true from(bal_find HCK.out (List.mem_of_find?_eq_some hbf)).2.2.1);have HFO:=zq (by have h_:=HFO.out;rw[hbf]at h_;dsimp only at h_;rw[HLY.out]at h_;exact h_);dsimp only at HFO;clear hbf HBQ HOK;have y1:w5.cell? ⟨g2,1,none⟩=some (.int .i64 be):=HY5.out.cell 1;have l0:w5.cell? ⟨g3,0,none⟩=some (.int .i64 ye):=HL5.out.cell 0;go_upto_region 12 with fail;by_cases z:be=ye
    ·have z1:(be==ye)=true:=by simp[z]
     have HFO:=zq (show qaT t path (ks.drop (i+1))=F from by have h_:=HFO.out;rw[if_pos z]at h_;exact h_);clear z;go_wp2;go_roundg (k1-1)
     case measure=>have:=HIN.out;omega
     case rel=>exact⟨i+1,_,m,d,path,by have:=HIN.out;omega,by have:=HIN.out;omega,by first|go_num|(rw[IntWalk.wrap64_in _ (by have h1_:=HIN.out;have h2_:=HNB.out;omega)];go_num),rfl,HO5,HM,HED,HFO,HB5⟩
    have z1:(be==ye)=false:=by simp[z]
    have HFO:=zq (by have h_:=HFO.out;rw[if_neg z]at h_;exact h_);clear z;have HAX:=zq (fun W (hW:Below wa.heap.size wa W)=>HAF.out W (HUP.out _ hW) ⟨ye,yr⟩);unfold stA13 at HAX;dsimp only at HAX;have HCN:=zq (fun W A c (h_:SlO stC 2 W A (qaC t ⟨ye,yr⟩).length c (qaC t ⟨ye,yr⟩))=>qfq (qaC t ⟨ye,yr⟩) ⟨be,xr⟩ A (qaC t ⟨ye,yr⟩).length c W h_ (qfU t _ (qav HLT.out).1));unfold stA13 at HCN;dsimp only at HCN;obtain⟨mt,hmt⟩: ∃q,mayT t ⟨ye,yr⟩ ⟨be,xr⟩=q:=⟨_,rfl⟩
    have HMT:=zq (show qbV (qaC t ⟨ye,yr⟩) ⟨be,xr⟩=mt from by rw[<-hmt,Bool.eq_iff_iff,qc5,qbw];exact⟨fun g_=>g_.2.2,fun g_=>⟨HYE.out,HBE.out,g_⟩⟩);rw[hmt]at HFO;rw[HMT.out]at HCN;clear hmt;go_upto_region 13 with fail;clear z1 y1 l0;refine wp_region_held_drew (S:=(fun W_=>(Has W_ (w.heap.size) 27 (tpC t a))/\(Has W_ (g3) 30 #[.int .i64 ye,.bool yr])/\(Has W_ (g4) 30 #[.int .i64 be,.bool xr])/\(Has W_ (g2) 151 #[.int .i64 bi,.int .i64 be,.int .i64 ba])/\(Below wa.heap.size wa W_))) (by kernel_rfl) ?_ (fun hHeld=>?_)
    ·exact⟨(H0.out _ HB5.out).draw,HL5.out.draw,HX5.out.draw,HY5.out.draw,qah HB5.out⟩
    have HO5:=zq HO5.out.draw1;refine tlZ 0 55 w.heap.size (tpC t a) (fun _ ⟨h_,_,_,_,_⟩=>h_) (h:=?_);simp only[lyZ];refine tlZ 1 56 g3 #[.int .i64 ye,.bool yr] (fun _ ⟨_,h_,_,_,_⟩=>h_) (h:=?_);simp only[lyZ];refine tlZ 3 58 g4 #[.int .i64 be,.bool xr] (fun _ ⟨_,_,h_,_,_⟩=>h_) (h:=?_);simp only[lyZ];refine aoZ 2 (some 57) (fun K hK=>?_);go_simp;obtain⟨s0,s1,s2,s3,s4⟩:=hHeld;refine(HAX.out _ s4).mono ?_;rintro e_ q1 ⟨AA,ac,rfl,hsa_,hb_⟩;have HO5:=zq (HO5.out.under hb_);have HSA:=zq (hsa_);go_wp2_with fail;refine hK.out _ _ ?_ (fun hHeld=>?_)
    ·exact⟨s0.u hb_,s1.u hb_,s2.u hb_,s3.u hb_,bu s4 hb_⟩
    clear hK K s0 s1 s2 s3 s4
    try simp only[lyZ]
    refine aoZ 4 (some 59) (fun K hK=>?_);go_simp;obtain⟨s0,s1,s2,s3,s4⟩:=hHeld;refine(HCN.out _ AA ac HSA.out).mono ?_;rintro e_ q2 ⟨rfl,hb2_⟩;have HO5:=zq (HO5.out.under hb2_);have HSA:=zq (HSA.out.under hb2_);go_wp2_with fail;refine hK.out _ _ ?_ (fun hHeld=>?_)
    ·exact⟨s0.u hb2_,s1.u hb2_,s2.u hb2_,s3.u hb2_,bu s4 hb2_⟩
    clear hK K s0 s1 s2 s3 s4
    try simp only[lyZ]
    refine tkZ 5 60 (h:=?_);simp only[lyZ];refine tkZ 6 54 (h:=?_);simp only[lyZ];refine dnZ ?_;obtain⟨w6,hw6⟩: ∃u,u=q2:=⟨_,rfl⟩
    subst hw6;have HX6:=zq hHeld.2.2.1;have HY6:=zq hHeld.2.2.2.1;have HB6:=zq hHeld.2.2.2.2;have HO6:=zq HO5.out;clear hHeld HAX HCN HO5
    cases mt with
    |false=>
     have HFF:=zq (show F=([],141)from by rw[<-HFO.out,if_pos rfl]);clear HFO;go_wp2;go_ret2
     exact⟨none,0,0,by rw[HFF.out];rfl,by rw[HFF.out];exact OwR.nil _ _ _ _ _,HUP.out _ HB6.out⟩
    |true=>
     have HFO:=zq (by have h_:=HFO.out;rw[if_neg (by decide)]at h_;exact h_);have HGO:=zq (qey path be (some ⟨gp,0,none⟩) (m+1) d w6 HO6.out.sl (by have:=HM.out;omega));rw[goes_met17 path be xr]at HGO;obtain⟨gm,hgm⟩: ∃q,metS path [⟨be,xr⟩]=q:=⟨_,rfl⟩
     rw[hgm]at HGO HFO;clear hgm;have y1:w6.cell? ⟨g2,1,none⟩=some (.int .i64 be):=HY6.out.cell 1;by_cases z:m=23
     ·have z1:(((m+1:Nat):Int)==24)=true:=by simp;omega
      have z2:((m+1:Nat):Int)=24:=by omega
      have z3:(m:Int)+1=24:=by omega
      have HFF:=zq (show F=([],2)from by rw[<-HFO.out,if_pos (Or.inr (by rw[HO6.out.2];omega))]);clear HFO;have HZ:=zq z;clear z;go_wp2;go_ret2
      exact⟨none,0,0,by rw[HFF.out];rfl,by rw[HFF.out];exact OwR.nil _ _ _ _ _,HUP.out _ HB6.out⟩
     have z1:(((m+1:Nat):Int)==24)=false:=by simp;omega
     have z2: ¬((m+1:Nat):Int)=24:=by omega
     have z3: ¬(m:Int)+1=24:=by omega
     have hm22:m<23:=by have:=HM.out;omega
     go_upto_region 15 with fail;go_wp2_with fail;refine HGO.out.mono ?_;rintro e_ w7 ⟨rfl,hb7⟩;have HB7:=tB HB6 hb7;have HO7:=zq (HO6.out.under hb7);have HX7:=uH HX6 hb7;clear hb7 HGO y1 HB6 HO6 HX6 HY6
     cases gm with
     |true=>
      have HFF:=zq (show F=([],2)from by rw[<-HFO.out,if_pos (Or.inl rfl)]);clear HFO;go_wp2;go_ret2
      exact⟨none,0,0,by rw[HFF.out];rfl,by rw[HFF.out];exact OwR.nil _ _ _ _ _,HUP.out _ HB7.out⟩
     |false=>
      have HFO:=zq (show qaT t (path++[⟨be,xr⟩]) (ks.drop (i+1))=F from by have h_:=HFO.out;rw[if_neg (by rintro(h2_|h2_);exact absurd h2_ (by decide);rw[HO7.out.2]at h2_;omega)]at h_;exact h_);have HED2:=zq (show∀s∈path++[⟨be,xr⟩],edgeB t s.edge=true from fun s hs=>by rcases List.mem_append.1 hs with h_|h_;exact HED.out s h_;rw[List.mem_singleton]at h_;subst h_;exact HBE.out);clear z1 z2 z3 z;obtain⟨hO,hSL,h1,hBD⟩:=pourR 16 (HO7.out.under ((Below.refl _ _).alloc (Nat.le_refl _) (.cells #[.int .i64 be,.bool xr] 30))) (⟨rfl,qa3 (Has.made _ _ _) rfl⟩:SlO stC 2 (w7.alloc (.cells #[.int .i64 be,.bool xr] 30)) (some ⟨w7.heap.size,0,none⟩) 1 1 [⟨be,xr⟩]) qed (Nat.le_trans HB7.out.size (by simp)) (by omega) (by omega);go_wp2_with (first|(with_reducible refine ldZ 72 HX7.out ?_)|(with_reducible refine qaP (o:=⟨some 74,_,_,_,_,_⟩) rfl (.tmp 71) (.tmp 73) 35 rfl wa.heap.size 30 (.agg #[.int .i64 0,.bool false]) 2 16 Tryz.underlying35 qce ?hz1 (by decide) (some ⟨gp,0,none⟩) (m+1) d _ ?hs1 hO (some ⟨w7.heap.size,0,none⟩) 1 1 _ ?hx1 hSL h1 hBD ?next1))
      all_goals try rfl
      intro B8 d8 w8 ho8 hg8;have HO8:=zq (show OwR stC 2 30 wa.heap.size w8 B8 (m+1+1) d8 (path++[⟨be,xr⟩])from OwR.poured (l':=[⟨be,xr⟩]) HO7.out.2 rfl ho8.out);have HB8:=zq (qas (HB7.out.trans ((bA).mono HB7.out.size)) (Nat.le_trans HB7.out.size (by simp)) hO.out (Nat.le_refl _) rfl hg8.out);have HM8:=zq (show m+1+1<=24 from by omega);clear ho8 hg8 hO hSL h1 hBD HO7 HB7 HX7 hm22;go_wp2;go_roundg (k1-1)
      case measure=>have:=HIN.out;omega
      case rel=>exact⟨i+1,B8,m+1,d8,path++[⟨be,xr⟩],by have:=HIN.out;omega,by have:=HIN.out;omega,by first|go_num|(rw[IntWalk.wrap64_in _ (by have h1_:=HIN.out;have h2_:=HNB.out;omega)];go_num),rfl,HO8,HM8,HED2,HFO,HB8⟩
end
end Go.Proofs.YtahadmeilajdgaaGreatDoor
