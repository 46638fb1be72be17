/-
  Our own text, joined.
-/
import Derived.Test.YtahadmeilajdgaaGreatDoorMraz
import Derived.BigQuiet
import Derived.IntWalk
import Derived.Test.YtahadmeilajdgaaGreatDoorMraa
import Derived.Test.YtahadmeilajdgaaGreatDoorMral
import Derived.Test.YtahadmeilajdgaaGreatDoorMrag
import Derived.Test.YtahadmeilajdgaaGreatDoorMrat
import Derived.StillTailTactics
import Derived.Deep.DeepCutAuto
namespace Go.Proofs.YtahadmeilajdgaaGreatDoor
set_option maxRecDepth 100000
set_option maxHeartbeats 80000000
section
open Go.RowKit
open Go.Great
def qbh (t:Tp3)(s0:St3)(l:List PkE):List St3×Int:=match (qaM l).find? fun q=>q.1==5 with
 |none=>([s0],0)
 |some q=>qdN t [s0] q.2
def readT17 (t:Tp3)(ref:Int)(rev:Bool)(s0:St3)(l:List PkE):Ma3×Int:=match l with
 |[]=>(noMa,50)
 |p::r=>
  if(rsecE p.V rev).2.2≠0 then(noMa,(rsecE p.V rev).2.2)
  else if(qbh t s0 (p::r)).2≠0 then(noMa,(qbh t s0 (p::r)).2)
  else if mayM t ⟨ref,rev,(qbh t s0 (p::r)).1,(rsecE p.V rev).1,(rsecE p.V rev).2.1⟩=true then(⟨ref,rev,(qbh t s0 (p::r)).1,(rsecE p.V rev).1,(rsecE p.V rev).2.1⟩,0)else(noMa,7)
theorem read_bad17 {t:Tp3}{ref:Int}{rev:Bool}{L:List (Int×List Int)}(h:(locE t ref rev 0).2≠0):readE t qay ref rev L=(noMa,(locE t ref rev 0).2):=by
 rw[qb8]at h⊢;unfold readE;by_cases hc:qax t=0
 ·rw[if_pos hc]at h⊢
  rw[if_neg (fun h2=>h2 hc)]
  cases hb:balF t ref with
  |none=>rfl
  |some b=>rw[hb]at h;exact absurd rfl h
 ·rw[if_neg hc,if_pos hc]
theorem read_go17 {t:Tp3}{ref:Int}{rev:Bool}{l:List PkE}{x:Ps3}(h:locE t ref rev 0=(x,0)):readE t qay ref rev (qaM l)=if qch l=false then(noMa,50)else readT17 t ref rev (stepP x) l:=by
 rw[qb8]at h;unfold readE;by_cases hc:qax t=0
 ·rw[if_pos hc]at h
  rw[if_neg (fun h2=>h2 hc)]
  cases hb:balF t ref with
  |none=>rw[hb]at h;injection h with _ h;exact absurd h (by decide)
  |some b=>
   rw[hb]at h;injection h with h _
   subst h;dsimp only
   cases l with
   |nil=>rfl
   |cons p r=>
    have e1:qaM (p::r)=(p.id,p.V)::qaM r:=rfl;have e2:(qaM (p::r)).all qay=(p::r).all fun p=>qay (p.id,p.V):=by unfold qaM;rw[List.all_map];rfl
    have e3:qch (p::r)=(p.id==15 &&(p::r).all fun p=>qay (p.id,p.V)):=rfl;rw[e3,<-e2];by_cases h1:p.id≠15\/(qaM (p::r)).all qay=false
    ·have h2:(p.id==15 &&(qaM (p::r)).all qay)=false:=by
      rcases h1 with h1|h1
      ·rw[beq_eq_false_iff_ne.2 h1];rfl
      ·rw[h1,Bool.and_false]
     rw[h2,if_pos rfl,e1];dsimp only;rw[if_pos (by rw[<-e1];exact h1)]
    ·have h2:(p.id==15 &&(qaM (p::r)).all qay)=true:=by
      have h3:p.id=15:=Classical.not_not.1 fun h=>h1 (Or.inl h);have h4:(qaM (p::r)).all qay=true:=by
       cases hq:(qaM (p::r)).all qay with
       |true=>rfl
       |false=>exact absurd (Or.inr hq) h1
      rw[h3,h4]
      rfl
     rw[h2,if_neg (by decide)];unfold readT17 qbh rsecE;rw[e1]at h1⊢;dsimp only;rw[if_neg h1];by_cases h5:p.V.getD 0 0≠dirB rev
     ·rw[if_pos h5,if_pos h5,if_pos (by decide)]
     ·rw[if_neg h5,if_neg h5]
      by_cases h6:7<p.V.getD 4 0
      ·rw[if_pos h6,if_pos h6,if_pos (by decide)]
      ·rw[if_neg h6,if_neg h6]
       generalize qaf (p.V.getD 1 0) (p.V.getD 4 0+1).toNat 0 (p.V.drop 5)=s;obtain⟨s1,s2,s3⟩:=s;dsimp only;by_cases h7:s3≠0
       ·rw[if_pos h7,if_pos h7,if_pos h7]
       ·rw[if_neg h7,if_neg h7]
        rfl
 ·rw[if_neg hc]at h
  injection h with _ h
  exact absurd h (by decide)
theorem qeR (t:Tp3)(path:List St3)(ks:List Lk17):(qaT t path ks).1.length<=path.length+ks.length:=by
 induction ks generalizing path with
 |nil=>exact Nat.le_refl _
 |cons k r ih=>
  rw[qaT];split
  ·simp
  ·split
   ·simp
   ·split
    ·have:=ih path;rw[List.length_cons];omega
    ·split
     ·simp
     ·split
      ·simp
      ·have:=ih (path++[⟨‹Bl3›.edge,k.rev⟩]);rw[List.length_append]at this;simp only[List.length_cons,List.length_nil]at this⊢;omega
theorem dm_le17 (x u:Int):(dmOf x u).1<=3276600:=by
 have h:=qcN u;unfold dmOf;split
 ·show(0:Int)<=3276600;decide
 ·split
  ·show(0:Int)<=3276600;decide
  ·show x*qaS u<=3276600
   rcases h with h|h|h|h<;>rw[h]<;>omega
theorem qgs {u to_:Int}{k:Nat}{V:List Int}: ∀s∈(qaf u k to_ V).1,s.to_<=to_+k*3276600:=by
 induction k generalizing to_ V with
 |zero=>intro s hs;cases hs
 |succ k ih=>
  intro s hs;rw[qaf]at hs;split at hs
  ·cases hs
  ·split at hs
   ·cases hs
   ·split at hs
    ·cases hs
    ·dsimp only at hs
     split at hs
     ·cases hs
     ·have h1:=dm_le17 (V.getD 0 0) u
      rcases List.mem_cons.1 hs with rfl|hs
      ·show to_+(dmOf (V.getD 0 0) u).1<=_
       omega
      ·have h2:=ih s hs
       omega
theorem rsec_top17 {V:List Int}{rev:Bool}: ∀s∈(rsecE V rev).1,s.to_<=9223372036854775807:=by
 intro s hs;unfold rsecE at hs;split at hs
 ·cases hs
 ·split at hs
  ·cases hs
  ·rename_i h1 h2
   dsimp only at hs;split at hs
   ·cases hs
   ·have h3:=qgs s hs
    omega
theorem opn_read (t:Tp3)(a:TpA)(ref:Int)(rev:Bool)(l:List PkE)(A:Option Addr)(n c:Nat)(w:World)(ht:TopR w t a)(hl:qaJ t=true)(hcj:t.joints.length<=a.cj)(hs:SlK w A n c l)(hn:n<=30)(hv: ∀p∈l,p.n<=3000)(hwd:Wd w):Calls Tryz.prog 18 #[.agg (tpC t a),.int .i64 ref,.bool rev,.slice A n c] w fun r w'=> ∃b,r= .returned (.tuple #[.agg (maC (readE t qay ref rev (qaM l)).1 b),.int .i64 (readE t qay ref rev (qaM l)).2])/\MaR w' (readE t qay ref rev (qaM l)).1 b/\Below w.heap.size w w':=by
 have HL0:=zq (fun W (hW:Below w.heap.size w W)=>qcg t a ref rev 0 W (ht.under hW) hl hcj);have HAR:=zq (fun W (hW:Below w.heap.size w W)=>opread_ok17 l A n c W (hs.under hW) hn hv (hwd.under hW));have HSK:=zq (fun W (hW:Below w.heap.size w W)=>hs.under hW);have HMY:=zq (fun W (hW:Below w.heap.size w W) m b hm h1 h2=>opn_may t a m b W (ht.under hW) hl hcj hm h1 h2);have HFO:=zq (fun W (hW:Below w.heap.size w W) s0 ks B m d hck he0 hk hm=>opfollow_any t a s0 ks B m d W (ht.under hW) hl hck he0 hk hm);have HV:=zq hv;have HNN:=zq hn;obtain⟨R,hR⟩:=geZ (readE t qay ref rev (qaM l));have HR:=zq hR;rw[hR];obtain⟨M,E⟩:=R;dsimp only;obtain⟨x,e,hloc⟩: ∃x e,locE t ref rev 0=(x,e):=⟨_,_,rfl⟩
 have HLOC:=zq hloc;rw[hloc]at HL0;obtain⟨xe,xa,xr⟩:=x;unfold psA at HL0;dsimp only at HL0;obtain⟨wa,hwa,hbwa,HWA,HBWA,h0,h1⟩:=bx2Z w 27 (tpC t a) 38 #[.int .i64 0,.bool false,.slice none 0 0,.slice none 0 0,.int .i64 0];have H0:=zH h0;have H1:=zH h1;have HUP:=zq (fun W (hW:Below wa.heap.size wa W)=>HBWA.out.trans (hW.mono HBWA.out.size));have hg0:w.heap.size<wa.heap.size:=h0.lt;have hg1:w.heap.size+1<wa.heap.size:=h1.lt;clear hwa hbwa h0 h1 ht hl hcj hs hn hv hwd hloc hR;go_enter Tryz.func18,Tryz.ntmps18;go_upto_region 1 with fail;rw[HWA.out];clear HWA;go_wp2_with (with_reducible refine ldZ 14 (H0.out wa (Below.refl _ _)) ?_);refine(HL0.out wa HBWA.out).mono ?_;rintro e_ w1 ⟨rfl,hb1⟩;have HB1:=zq hb1;clear hb1 HL0;go_upto_region 2 with fail;obtain⟨w2,hw2⟩:=geZ (w1.alloc (.cells #[.int .i64 xe,.int .i64 xa,.bool xr] 51));rw[hw2];have HB2:=zq (show Below wa.heap.size wa w2 from by rw[<-hw2];exact HB1.out.alloc HB1.out.size _);have hH:Has w2 w1.heap.size 51 #[.int .i64 xe,.int .i64 xa,.bool xr]:=by rw[<-hw2];exact Has.made _ _ _
 obtain⟨gP,hgP⟩: ∃g,w1.heap.size=g:=⟨_,rfl⟩
 rw[hgP]at hH;simp only[hgP];have HHP:=zH hH;have HX2:=zq (fun W (hW:Below w2.heap.size w2 W)=>HB2.out.trans (hW.mono HB2.out.size));clear hw2 hH hgP HB1;by_cases z0:e=0;rotate_left
 ·have q0:(e !=0)=true:=by simp[z0]
  obtain⟨rfl,rfl⟩:M=noMa/\E=e:=by have h_:=HR.out;rw[read_bad17 (by rw[HLOC.out];exact z0),HLOC.out]at h_;injection h_ with h1_ h2_;exact⟨h1_.symm,h2_.symm⟩
  clear z0;have HZ:=zq (H1.out w2 HB2.out);have HRR:=zq (qab HZ.out #[.int .i64 0,.bool false,.slice none 0 0,.slice none 0 0,.int .i64 0]);have HBF:=zq (qac (g:=w.heap.size+1) (HBWA.out.trans (HB2.out.mono HBWA.out.size)) (by omega) #[.int .i64 0,.bool false,.slice none 0 0,.slice none 0 0,.int .i64 0]);go_wp2_with (with_reducible refine stZ #[.int .i64 0,.bool false,.slice none 0 0,.slice none 0 0,.int .i64 0] HZ.out ?_);refine rtZ HRR.out ?_;exact⟨⟨none,0,none,0⟩,rfl,⟨SlO.nil _ _ _,SlO.nil _ _ _,Nat.le_refl _,Nat.le_refl _,fun s hs=>by cases hs⟩,HBF.out⟩
 subst z0;have q0:((0:Int) !=0)=false:=rfl;obtain⟨hck,_,hrx,_⟩:=qcY HLOC.out;have HCK:=zq hck;have HEX:=zq (show edgeB t (stepP ⟨xe,xa,xr⟩).edge=true from(qbu.1 (qaQ.1 hrx).2).1);have HR:=zq ((read_go17 HLOC.out).symm.trans HR.out);have HARX:=zq (HAR.out w2 (HUP.out _ HB2.out));obtain⟨rb,hrb⟩: ∃q,qch l=q:=⟨_,rfl⟩
 rw[hrb]at HARX HR;have HRB:=zq hrb;clear hrb hck hrx HAR;go_upto_region 4 with fail;clear q0;go_wp2_with fail;refine HARX.out.mono ?_;rintro e_ w3 ⟨rfl,hb3⟩;have HB3:=tB HB2 hb3;have HP3:=zq (HHP.out _ hb3);clear hb3 HARX HHP HX2 HB2
 cases rb with
 |false=>
  obtain⟨rfl,rfl⟩:M=noMa/\E=50:=by have h_:=HR.out;rw[if_pos rfl]at h_;injection h_ with h1_ h2_;exact⟨h1_.symm,h2_.symm⟩
  have HZ:=zq (H1.out w3 HB3.out);have HRR:=zq (qab HZ.out #[.int .i64 0,.bool false,.slice none 0 0,.slice none 0 0,.int .i64 0]);have HBF:=zq (qac (g:=w.heap.size+1) (HBWA.out.trans (HB3.out.mono HBWA.out.size)) (by omega) #[.int .i64 0,.bool false,.slice none 0 0,.slice none 0 0,.int .i64 0]);go_wp2_with (with_reducible refine stZ #[.int .i64 0,.bool false,.slice none 0 0,.slice none 0 0,.int .i64 0] HZ.out ?_);refine rtZ HRR.out ?_;exact⟨⟨none,0,none,0⟩,rfl,⟨SlO.nil _ _ _,SlO.nil _ _ _,Nat.le_refl _,Nat.le_refl _,fun s hs=>by cases hs⟩,HBF.out⟩
 |true=>
 have HR:=zq (by have h_:=HR.out;rw[if_neg (by decide)]at h_;exact h_);obtain⟨w4,hw4⟩: ∃u,w3.alloc (.cells #[.int .i64 ref,.bool rev,.slice none 0 0,.slice none 0 0,.int .i64 0] 38)=u:=⟨_,rfl⟩
 have hb4:Below w3.heap.size w3 w4:=by rw[<-hw4];exact bA
 have hH4:Has w4 w3.heap.size 38 #[.int .i64 ref,.bool rev,.slice none 0 0,.slice none 0 0,.int .i64 0]:=by rw[<-hw4];exact Has.made _ _ _
 obtain⟨gm,hgm⟩: ∃g,w3.heap.size=g:=⟨_,rfl⟩
 rw[hgm]at hH4;have hgm2:wa.heap.size<=gm:=by rw[<-hgm];exact HB3.out.size
 have HB4:=tB HB3 hb4;have HP4:=uH HP3 hb4;have HM4:=zq hH4;have HW4:=zq hw4;have HGM:=zq hgm;clear hw4 hb4 hH4 hgm HB3 HP3
 cases l with
 |nil=>exact absurd HRB.out (by decide)
 |cons p r=>
 have hmem:p∈p::r:=List.mem_cons_self ..;have hrd:(p.id==15 &&(p::r).all fun p=>qay (p.id,p.V))=true:=HRB.out;obtain⟨hid,hall⟩:=Bool.and_eq_true_iff.1 hrd;have hid:p.id=15:=by simpa using hid
 have HALL:=zq (show∀q∈p::r,qay (q.id,q.V)=true from List.all_eq_true.1 hall);have hp15:=HALL.out p hmem;rw[hid]at hp15;have HP15:=zq hp15;have HPN:=zq (HV.out p hmem);have HS4:=zq (HSK.out w4 (HUP.out _ HB4.out));obtain⟨bk,off,hA,d0,d1⟩:=HS4.out.pk17 (j:=0) (x:=p) rfl;subst hA;have d0':w4.cell? ⟨bk,off,none⟩=some (.int .i64 p.id):=by rw[show off=off+0*2 by omega];exact d0
 have d1':w4.cell? ⟨bk,off+1,none⟩=some (.slice p.A p.n p.c):=by rw[show off+1=off+0*2+1 by omega];exact d1
 have HSE:=zq (HS4.out.each p hmem);have hn1:0<n:=by rw[<-HS4.out.len,List.length_cons];omega
 have u1:(0:Int)<(n:Int):=by omega
 have HRS:=zq (oprdsecs_any p.id p.A p.n p.c p.V rev w4 HSE.out (by have:=HPN.out;omega) HP15.out);obtain⟨RS,hRS⟩: ∃q,rsecE p.V rev=q:=⟨_,rfl⟩
 have HTOP:=zq (rsec_top17 (V:=p.V) (rev:=rev));have HR:=zq (show(if(rsecE p.V rev).2.2≠0 then(noMa,(rsecE p.V rev).2.2)else if(qbh t (stepP ⟨xe,xa,xr⟩) (p::r)).2≠0 then(noMa,(qbh t (stepP ⟨xe,xa,xr⟩) (p::r)).2)else if mayM t ⟨ref,rev,(qbh t (stepP ⟨xe,xa,xr⟩) (p::r)).1,(rsecE p.V rev).1,(rsecE p.V rev).2.1⟩=true then(⟨ref,rev,(qbh t (stepP ⟨xe,xa,xr⟩) (p::r)).1,(rsecE p.V rev).1,(rsecE p.V rev).2.1⟩,0)else(noMa,7))=(M,E)from HR.out);rw[hRS]at HRS HTOP HR;obtain⟨SL,SG,SE⟩:=RS;dsimp only at HRS HTOP HR;clear hRS hmem hrd hid hall hp15 hn1 d0 d1 HP15 HPN HSE;go_upto_region 7 with fail;rw[HW4.out];simp only[HGM.out];clear HW4 HGM;go_wp2_with fail;refine HRS.out.mono ?_;rintro e_ w5 ⟨SB,sm,sd,G,rfl,hsec,hsm,hb5⟩;have HSEC:=zq hsec;have HSM:=zq hsm;have HB5:=tB HB4 hb5;have HP5:=uH HP4 hb5;have HM5:=uH HM4 hb5;have HW45:=zq hb5.size;have HG4:=zq HB4.out.size;clear hb5 hsec hsm HRS HB4 HP4 HM4 d0' d1' u1;have HMa:=zq (qab HM5.out #[.int .i64 ref,.bool rev,.slice none 0 0,.slice SB sm sd,.int .i64 0]);have HMb:=zq (qab HMa.out #[.int .i64 ref,.bool rev,.slice none 0 0,.slice SB sm sd,.int .i64 G]);have HBb:=zq (qac (g:=gm) (qac (g:=gm) HB5.out hgm2 #[.int .i64 ref,.bool rev,.slice none 0 0,.slice SB sm sd,.int .i64 0]) hgm2 #[.int .i64 ref,.bool rev,.slice none 0 0,.slice SB sm sd,.int .i64 G]);have hpm:gP≠gm:=by intro e_;subst e_;have h1_:=HP5.out;have h2_:=HM5.out;unfold Has at h1_ h2_;rw[h1_]at h2_;injection h2_ with h2_;injection h2_ with _ h2_;exact absurd h2_ (by decide)
 have HPb:=zq (qae (g:=gm) (qae (g:=gm) HP5.out hpm #[.int .i64 ref,.bool rev,.slice none 0 0,.slice SB sm sd,.int .i64 0]) hpm #[.int .i64 ref,.bool rev,.slice none 0 0,.slice SB sm sd,.int .i64 G]);obtain⟨w6,hw6⟩: ∃u,(w5.setRow gm #[.int .i64 ref,.bool rev,.slice none 0 0,.slice SB sm sd,.int .i64 0]).setRow gm #[.int .i64 ref,.bool rev,.slice none 0 0,.slice SB sm sd,.int .i64 G]=u:=⟨_,rfl⟩
 have HSC:Hid (SE=0->OwR scC17 2 66 wa.heap.size w6 SB sm sd SL):=zq (fun h_=>by have ho_:=(HSEC.out h_).2.to_base HG4.out;rw[<-hw6];have hk_:=ho_.kept (qaj w5 gm #[.int .i64 ref,.bool rev,.slice none 0 0,.slice SB sm sd,.int .i64 0]) (.inr (ho_.apart HM5.out (by decide)));exact hk_.kept (qaj _ gm #[.int .i64 ref,.bool rev,.slice none 0 0,.slice SB sm sd,.int .i64 G]) (.inr (hk_.apart HMa.out (by decide))));rw[hw6]at HMb HBb HPb;have HW6:=zq hw6;clear hw6;go_upto_region 8 with(first|(with_reducible refine qal (o:=⟨none,_,_,_,_,_⟩) rfl 36 _ _ rfl (gm) 3 (.slice SB sm sd) rfl rfl 38 #[.int .i64 ref,.bool rev,.slice none 0 0,.slice none 0 0,.int .i64 0] HM5.out (Nat.le_of_ble_eq_true rfl) (by kernel_rfl) rfl #[.int .i64 ref,.bool rev,.slice none 0 0,.slice SB sm sd,.int .i64 0] rfl ?_)|(with_reducible refine qal (o:=⟨none,_,_,_,_,_⟩) rfl 3 _ _ rfl (gm) 4 (.int .i64 G) rfl rfl 38 #[.int .i64 ref,.bool rev,.slice none 0 0,.slice SB sm sd,.int .i64 0] HMa.out (Nat.le_of_ble_eq_true rfl) (by kernel_rfl) rfl #[.int .i64 ref,.bool rev,.slice none 0 0,.slice SB sm sd,.int .i64 G] rfl ?_))
 rw[HW6.out];clear HW6 HMa HM5 HB5 HP5;by_cases z:SE=0;rotate_left
 ·have q0:(SE !=0)=true:=by simp[z]
  obtain⟨rfl,rfl⟩:M=noMa/\E=SE:=by have h_:=HR.out;rw[if_pos z]at h_;injection h_ with h1_ h2_;exact⟨h1_.symm,h2_.symm⟩
  clear z;have HZ:=zq (H1.out w6 HBb.out);have HRR:=zq (qab HZ.out #[.int .i64 0,.bool false,.slice none 0 0,.slice none 0 0,.int .i64 0]);have HBF:=zq (qac (g:=w.heap.size+1) (HBWA.out.trans (HBb.out.mono HBWA.out.size)) (by omega) #[.int .i64 0,.bool false,.slice none 0 0,.slice none 0 0,.int .i64 0]);go_wp2_with (with_reducible refine stZ #[.int .i64 0,.bool false,.slice none 0 0,.slice none 0 0,.int .i64 0] HZ.out ?_);refine rtZ HRR.out ?_;exact⟨⟨none,0,none,0⟩,rfl,⟨SlO.nil _ _ _,SlO.nil _ _ _,Nat.le_refl _,Nat.le_refl _,fun s hs=>by cases hs⟩,HBF.out⟩
 subst z;have q0:((0:Int) !=0)=false:=rfl;obtain rfl:G=SG:=(HSEC.out rfl).1;have HSO:=zq (HSC.out rfl);have HR:=zq (by have h_:=HR.out;rw[if_neg (by simp)]at h_;exact h_);have HSP:=zq (fun W=>qcG ⟨xe,xa,xr⟩ W);unfold psA stA13 stepP at HSP;dsimp only at HSP;have HRL:=zq (fun W (hW:Below wa.heap.size wa W)=>oprdlinks_any (p::r) (some ⟨bk,off,none⟩) n c W (HSK.out W (HUP.out _ hW)) HNN.out HV.out HALL.out);have HFX:=zq (fun W (hW:Below wa.heap.size wa W) ks B m d hk hm=>HFO.out W (HUP.out _ hW) (stepP ⟨xe,xa,xr⟩) ks B m d HCK.out HEX.out hk hm);unfold stA13 stepP at HFX;dsimp only at HFX;clear HSEC HFO HSK HSC;go_upto_region 10 with fail;clear q0;skip;refine wp_region_held_drew (S:=(fun W_=>(Has W_ (w.heap.size) 27 (tpC t a))/\(Has W_ (gP) 51 #[.int .i64 xe,.int .i64 xa,.bool xr])/\(Below wa.heap.size wa W_))) (by kernel_rfl) ?_ (fun hHeld=>?_)
 ·exact⟨(H0.out _ HBb.out).draw,HPb.out.draw,qah HBb.out⟩
 have HMb:=zq HMb.out.draw;have HSO:=zq HSO.out.draw1;refine tlZ 0 47 w.heap.size (tpC t a) (fun _ ⟨h_,_,_⟩=>h_) (h:=?_);simp only[lyZ];refine tlZ 1 48 gP #[.int .i64 xe,.int .i64 xa,.bool xr] (fun _ ⟨_,h_,_⟩=>h_) (h:=?_);simp only[lyZ];refine tkZ 3 50 (h:=?_);simp only[lyZ];refine aoZ 2 (some 49) (fun K hK=>?_);go_simp;obtain⟨s0,s1,s2⟩:=hHeld;refine(HSP.out _).mono ?_;rintro e_ q1 ⟨rfl,hb_⟩;have HMb:=uH HMb hb_;have HSO:=zq (HSO.out.under hb_);go_wp2_with fail;refine hK.out _ _ ?_ (fun hHeld=>?_)
 ·exact⟨s0.u hb_,s1.u hb_,bu s2 hb_⟩
 clear hK K s0 s1 s2
 try simp only[lyZ]
 refine aoZ 4 (some 51) (fun K hK=>?_);go_simp;obtain⟨s0,s1,s2⟩:=hHeld;refine(HRL.out _ s2).mono ?_;rintro e_ q2 ⟨ks,LB,lm,ld,rfl,hls_,hlm_,hlp_,hb2_⟩;have HLP:=zq hlp_;have HLM:=zq hlm_;have HMb:=uH HMb hb2_;have HSO:=zq (HSO.out.under hb2_);have HLS:=zq (hls_);go_wp2_with fail;refine hK.out _ _ ?_ (fun hHeld=>?_)
 ·exact⟨s0.u hb2_,s1.u hb2_,bu s2 hb2_⟩
 clear hK K s0 s1 s2
 try simp only[lyZ]
 refine aoZ 5 (some 52) (fun K hK=>?_);go_simp;obtain⟨s0,s1,s2⟩:=hHeld;obtain⟨LQ,hLQ⟩: ∃q,qaT t [⟨xe,xr⟩] ks=q:=⟨_,rfl⟩
 have hfx:=HFX.out _ s2 ks LB lm ld HLS.out HLM.out;rw[hLQ]at hfx;obtain⟨LP,LE⟩:=LQ;dsimp only at hfx;have HLQ0:=zq hLQ;clear hLQ;refine hfx.mono ?_;have HKL:=zq (show ks.length<=32 from by rw[HLS.out.1];exact HLM.out);rintro e_ q3 ⟨PB,pm,pd,rfl,hpo_,hb3_⟩;have hz3_:=s2.size;have HMb:=uH HMb hb3_;have HSO:=zq (HSO.out.under hb3_);have HLS:=zq (HLS.out.under hb3_);have HPO:=zq (hpo_.to_base hz3_);go_wp2_with fail;refine hK.out _ _ ?_ (fun hHeld=>?_)
 ·exact⟨s0.u hb3_,s1.u hb3_,bu s2 hb3_⟩
 clear hK K s0 s1 s2
 try simp only[lyZ]
 refine tkZ 6 46 (h:=?_);simp only[lyZ];refine tkZ 7 53 (h:=?_);simp only[lyZ];refine tkZ 8 54 (h:=?_);simp only[lyZ];refine tkZ 9 55 (h:=?_);simp only[lyZ];refine aoZ 10 none (fun K hK=>?_);rw[if_pos (by rfl)];obtain⟨s0,s1,s2⟩:=hHeld;refine qaN 35 _ _ rfl (gm) 2 (.slice PB pm pd) (by rfl) (by rfl) 38 #[.int .i64 ref,.bool rev,.slice none 0 0,.slice SB sm sd,.int .i64 G] HMb.out (Nat.le_of_ble_eq_true rfl) (by kernel_rfl) rfl #[.int .i64 ref,.bool rev,.slice PB pm pd,.slice SB sm sd,.int .i64 G] rfl ?_;have HSO:=zq (HSO.out.kept (qaj _ _ #[.int .i64 ref,.bool rev,.slice PB pm pd,.slice SB sm sd,.int .i64 G]) (.inr (HSO.out.apart HMb.out (by decide))));have HPO:=zq (HPO.out.kept (qaj _ _ #[.int .i64 ref,.bool rev,.slice PB pm pd,.slice SB sm sd,.int .i64 G]) (.inr (HPO.out.apart HMb.out (by decide))));refine hK.out _ _ ?_ (fun hHeld=>?_)
 ·exact⟨qae s0 (by omega) _,qae s1 (by omega) _,qac s2 (by omega) _⟩
 have HMb:=zq (qab HMb.out #[.int .i64 ref,.bool rev,.slice PB pm pd,.slice SB sm sd,.int .i64 G]);clear hK K s0 s1 s2
 try simp only[Act.put]
 refine tkZ 11 11 (h:=?_);simp only[lyZ];refine dnZ ?_;obtain⟨w7,hw7⟩: ∃u,u=q3.setRow gm #[.int .i64 ref,.bool rev,.slice PB pm pd,.slice SB sm sd,.int .i64 G]:=⟨_,rfl⟩
 rw[<-hw7]at hHeld HMb HPO HSO⊢;have HB7:=zq hHeld.2.2;clear hHeld hw7 HRL HFX HSP;have HLQ:=zq (show qbh t (stepP ⟨xe,xa,xr⟩) (p::r)=(LP,LE)from by rw[<-HLQ0.out];have h_:=HLP.out;unfold qfT at h_;unfold qbh;cases hq_:(qaM (p::r)).find? (fun q=>q.1==5)with|none=>rw[hq_]at h_;rw[h_];rfl|some q_=>rw[hq_]at h_;exact h_ t _);have HLL:=zq (show LP.length<=33 from by have h_:=qeR t [⟨xe,xr⟩] ks;rw[HLQ0.out]at h_;have h2_:=HKL.out;simp only[List.length_cons,List.length_nil]at h_;omega);have HR:=zq (show(if LE≠0 then(noMa,LE)else if mayM t ⟨ref,rev,LP,SL,G⟩=true then(⟨ref,rev,LP,SL,G⟩,0)else(noMa,7))=(M,E)from by rw[<-HR.out,HLQ.out]);by_cases z:LE=0;rotate_left
 ·have q0:(LE !=0)=true:=by simp[z]
  obtain⟨rfl,rfl⟩:M=noMa/\E=LE:=by have h_:=HR.out;rw[if_pos z]at h_;injection h_ with h1_ h2_;exact⟨h1_.symm,h2_.symm⟩
  clear z;have HZ:=zq (H1.out w7 HB7.out);have HRR:=zq (qab HZ.out #[.int .i64 0,.bool false,.slice none 0 0,.slice none 0 0,.int .i64 0]);have HBF:=zq (qac (g:=w.heap.size+1) (HBWA.out.trans (HB7.out.mono HBWA.out.size)) (by omega) #[.int .i64 0,.bool false,.slice none 0 0,.slice none 0 0,.int .i64 0]);go_wp2_with (with_reducible refine stZ #[.int .i64 0,.bool false,.slice none 0 0,.slice none 0 0,.int .i64 0] HZ.out ?_);refine rtZ HRR.out ?_;exact⟨⟨none,0,none,0⟩,rfl,⟨SlO.nil _ _ _,SlO.nil _ _ _,Nat.le_refl _,Nat.le_refl _,fun s hs=>by cases hs⟩,HBF.out⟩
 subst z;have q0:((0:Int) !=0)=false:=rfl;have HR:=zq (by have h_:=HR.out;rw[if_neg (by simp)]at h_;exact h_);have hpl_:LP.length=pm:=HPO.out.2;have hsl_:SL.length=sm:=HSO.out.2;have HMR:Hid (∀W,Below w7.heap.size w7 W->MaR W ⟨ref,rev,LP,SL,G⟩ ⟨PB,pd,SB,sd⟩):=zq fun W hW=>⟨by show SlO stC 2 W PB LP.length pd LP;rw[hpl_];exact(HPO.out.under hW).sl,by show SlO scC17 2 W SB SL.length sd SL;rw[hsl_];exact(HSO.out.under hW).sl,by show LP.length<=pd;rw[hpl_];exact HPO.out.cap,by show SL.length<=sd;rw[hsl_];exact HSO.out.cap,HTOP.out⟩
 have HMX:=zq (HMY.out w7 (HUP.out _ HB7.out) ⟨ref,rev,LP,SL,G⟩ ⟨PB,pd,SB,sd⟩ (HMR.out w7 (Below.refl _ _)) (by have:=HLL.out;show LP.length<=100;omega) (by have:=HSM.out;show SL.length<=100;omega));unfold maC at HMX;dsimp only at HMX;rw[hpl_,hsl_]at HMX;obtain⟨my,hmy⟩: ∃q,mayM t ⟨ref,rev,LP,SL,G⟩=q:=⟨_,rfl⟩
 rw[hmy]at HMX HR;have HPL:=zq hpl_;have HSL:=zq hsl_;clear hmy hpl_ hsl_;go_upto_region 13 with fail;clear q0;go_wp2_with (first|(with_reducible refine ldZ 60 (H0.out w7 HB7.out) ?_)|(with_reducible refine ldZ 61 HMb.out ?_));refine HMX.out.mono ?_;rintro e_ w8 ⟨rfl,hb8⟩;have HB8:=tB HB7 hb8;have HPO8:=zq (HPO.out.under hb8);have HSO8:=zq (HSO.out.under hb8);have HM8:=uH HMb hb8;clear hb8 HMX HB7 HPO HSO HMb HMR
 cases my with
 |false=>
  obtain⟨rfl,rfl⟩:M=noMa/\E=7:=by have h_:=HR.out;rw[if_neg (by decide)]at h_;injection h_ with h1_ h2_;exact⟨h1_.symm,h2_.symm⟩
  have HZ:=zq (H1.out w8 HB8.out);have HRR:=zq (qab HZ.out #[.int .i64 0,.bool false,.slice none 0 0,.slice none 0 0,.int .i64 0]);have HBF:=zq (qac (g:=w.heap.size+1) (HBWA.out.trans (HB8.out.mono HBWA.out.size)) (by omega) #[.int .i64 0,.bool false,.slice none 0 0,.slice none 0 0,.int .i64 0]);go_wp2_with (with_reducible refine stZ #[.int .i64 0,.bool false,.slice none 0 0,.slice none 0 0,.int .i64 0] HZ.out ?_);refine rtZ HRR.out ?_;exact⟨⟨none,0,none,0⟩,rfl,⟨SlO.nil _ _ _,SlO.nil _ _ _,Nat.le_refl _,Nat.le_refl _,fun s hs=>by cases hs⟩,HBF.out⟩
 |true=>
  obtain⟨rfl,rfl⟩:M=⟨ref,rev,LP,SL,G⟩/\E=0:=by have h_:=HR.out;rw[if_pos rfl]at h_;injection h_ with h1_ h2_;exact⟨h1_.symm,h2_.symm⟩
  have HZ:=zq (H1.out w8 HB8.out);have HRR:=zq (qab HZ.out #[.int .i64 ref,.bool rev,.slice PB pm pd,.slice SB sm sd,.int .i64 G]);have HBF:=zq (qac (g:=w.heap.size+1) (HBWA.out.trans (HB8.out.mono HBWA.out.size)) (by omega) #[.int .i64 ref,.bool rev,.slice PB pm pd,.slice SB sm sd,.int .i64 G]);have HPF:=zq (HPO8.out.rowlow17 hg1 #[.int .i64 ref,.bool rev,.slice PB pm pd,.slice SB sm sd,.int .i64 G]);have HSF:=zq (HSO8.out.rowlow17 hg1 #[.int .i64 ref,.bool rev,.slice PB pm pd,.slice SB sm sd,.int .i64 G]);go_wp2_with (first|(with_reducible refine ldZ 65 HM8.out ?_)|(with_reducible refine stZ #[.int .i64 ref,.bool rev,.slice PB pm pd,.slice SB sm sd,.int .i64 G] HZ.out ?_));refine rtZ HRR.out ?_;refine⟨⟨PB,pd,SB,sd⟩,by unfold maC;dsimp only;rw[HPL.out,HSL.out];rfl,⟨?_,?_,?_,?_,HTOP.out⟩,HBF.out⟩
  ·show SlO stC 2 _ PB LP.length pd LP;rw[HPL.out];exact HPF.out.sl
  ·show SlO scC17 2 _ SB SL.length sd SL;rw[HSL.out];exact HSF.out.sl
  ·show LP.length<=pd;rw[HPL.out];exact HPF.out.cap
  ·show SL.length<=sd;rw[HSL.out];exact HSF.out.cap
end
section
open Go.RowKit
open Go.Great
def ma17:Ma3:=⟨7,false,[⟨0,false⟩,⟨1,false⟩],[⟨290,30⟩],0⟩
theorem a17_1:qdY lineT [⟨1,5,1⟩,⟨2,5,2⟩] 5 7 false 40=(ma17,0):=by kernel_rfl
theorem a17_2:(qbU lineT ma17).2=0:=by kernel_rfl
theorem a17_3:(qbU lineT ma17).1.length=2:=by kernel_rfl
theorem a17_4:readE lineT qay 7 false (qbU lineT ma17).1=(ma17,0):=by kernel_rfl
theorem a17_5:mayM lineT ma17=true:=by kernel_rfl
theorem a17_6:reachM ma17 29=290:=by kernel_rfl
theorem a17_7:reachM ma17 30=0:=by kernel_rfl
theorem a17_8:(qbU lineT ma17).1.all (fun p=>decide (p.2.length<=3000))=true:=by kernel_rfl
theorem awake17_any (w:World)(hwd:Wd w):Calls Tryz.prog 9 #[] w fun e w'=>e= .returned (.bool true)/\Below w.heap.size w w':=by
 have HWD:=zq (fun W (hW:Below w.heap.size w W)=>hwd.under hW);clear hwd;go_enter Tryz.func9,Tryz.ntmps9;go_wp2_with fail;refine(line_any w).mono ?_;rintro e_ v1 ⟨a1,rfl,ht1,hcj1,hb1⟩;have HT:=zq ht1;have HCJ:=zq hcj1;have HB:=zq hb1;clear ht1 hcj1 hb1;have hm:Has (v1.alloc (.cells #[.slice none 0 0,.slice none 0 0,.slice none 0 0,.slice none 0 0] 27)) v1.heap.size 27 #[.slice none 0 0,.slice none 0 0,.slice none 0 0,.slice none 0 0]:=Has.made _ _ _;have HMM:=zq hm;obtain⟨u1,hu1⟩: ∃u_,(v1.alloc (.cells #[.slice none 0 0,.slice none 0 0,.slice none 0 0,.slice none 0 0] 27)).setRow v1.heap.size (tpC lineT a1)=u_:=⟨_,rfl⟩
 have hbu1:Below v1.heap.size v1 u1:=by rw[<-hu1];exact qac (g:=v1.heap.size) (bA) (Nat.le_refl _) _
 have H1:=zq (show Has u1 v1.heap.size 27 (tpC lineT a1)from by rw[<-hu1];exact qab hm _);have HUU:=zq hu1;clear hm hu1;go_upto_region 2 with(with_reducible refine stZ (tpC lineT a1) HMM.out ?_)
 rw[HUU.out];clear HUU HMM;obtain⟨g1,hg1⟩: ∃g_,v1.heap.size=g_:=⟨_,rfl⟩
 rw[hg1]at H1;simp only[hg1];clear hg1;have HB:=tB HB hbu1;have HT:=zq (HT.out.under hbu1);clear hbu1;go_upto_region 3 with fail;obtain⟨u2,hu2⟩: ∃u_,u1.alloc (.cells #[.int .i64 1,.int .i64 5,.int .i64 1,.int .i64 2,.int .i64 5,.int .i64 2] 73)=u_:=⟨_,rfl⟩
 rw[hu2];have hbu2:Below u1.heap.size u1 u2:=by rw[<-hu2];exact bA
 have H2:=zq (show Has u2 u1.heap.size 73 #[.int .i64 1,.int .i64 5,.int .i64 1,.int .i64 2,.int .i64 5,.int .i64 2]from by rw[<-hu2];exact Has.made _ _ _);obtain⟨g2,hg2⟩: ∃g_,u1.heap.size=g_:=⟨_,rfl⟩
 rw[hg2]at H2;simp only[hg2];clear hu2 hg2;have HB:=tB HB hbu2;have H1:=uH H1 hbu2;have HT:=zq (HT.out.under hbu2);clear hbu2;have HL:=zq (show SlO lcC 3 u2 (some ⟨g2,0,none⟩) 2 2 [⟨1,5,1⟩,⟨2,5,2⟩]from⟨rfl,qa3 H2.out rfl⟩);go_wp2_with (with_reducible refine ldZ 15 H1.out ?_);refine(opn_build lineT a1 [⟨1,5,1⟩,⟨2,5,2⟩] 5 7 false 40 (some ⟨g2,0,none⟩) 2 2 u2 HT.out qdx HCJ.out HL.out (by omega) (by omega)).mono ?_;rw[a17_1];rintro e_ v3 ⟨b3,rfl,hm3,hb3⟩;have HM3:=zq hm3;clear hm3 HL H2;dsimp only;have HB:=tB HB hb3;have H1:=uH H1 hb3;have HT:=zq (HT.out.under hb3);clear hb3;have hm:Has (v3.alloc (.cells #[.int .i64 0,.bool false,.slice none 0 0,.slice none 0 0,.int .i64 0] 38)) v3.heap.size 38 #[.int .i64 0,.bool false,.slice none 0 0,.slice none 0 0,.int .i64 0]:=Has.made _ _ _;have HMM:=zq hm;obtain⟨u3,hu3⟩: ∃u_,(v3.alloc (.cells #[.int .i64 0,.bool false,.slice none 0 0,.slice none 0 0,.int .i64 0] 38)).setRow v3.heap.size (maC ma17 b3)=u_:=⟨_,rfl⟩
 have hbu3:Below v3.heap.size v3 u3:=by rw[<-hu3];exact qac (g:=v3.heap.size) (bA) (Nat.le_refl _) _
 have H3:=zq (show Has u3 v3.heap.size 38 (maC ma17 b3)from by rw[<-hu3];exact qab hm _);have HUU:=zq hu3;clear hm hu3;go_upto_region 4 with(with_reducible refine stZ (maC ma17 b3) HMM.out ?_)
 rw[HUU.out];clear HUU HMM;obtain⟨g3,hg3⟩: ∃g_,v3.heap.size=g_:=⟨_,rfl⟩
 rw[hg3]at H3;simp only[hg3];clear hg3;have HB:=tB HB hbu3;have H1:=uH H1 hbu3;have HT:=zq (HT.out.under hbu3);have HM3:=zq (HM3.out.under hbu3);clear hbu3;go_wp2_with (first|(with_reducible refine ldZ 21 H1.out ?_)|(with_reducible refine ldZ 22 H3.out ?_));refine(opn_packets lineT a1 ma17 b3 u3 HT.out qdx HCJ.out HM3.out (by decide) (by decide)).mono ?_;rw[a17_2];rintro e_ v4 ⟨B,k,c,L,rfl,hs4,hp4,hb4⟩;have HS4:=zq hs4;have HP4:=zq hp4;clear hs4 hp4;have HB:=tB HB hb4;have H1:=uH H1 hb4;have H3:=uH H3 hb4;have HT:=zq (HT.out.under hb4);have HM3:=zq (HM3.out.under hb4);clear hb4;obtain rfl:k=2:=by rw[<-HS4.out.len];have h_:=congrArg List.length HP4.out;rw[a17_3]at h_;simpa[qaM]using h_
 have HV4:=zq (show∀p∈L,p.n<=3000 from fun p hp=>by have h_:=List.all_eq_true.1 a17_8 (p.id,p.V) (by rw[<-HP4.out];exact List.mem_map.2 ⟨p,hp,rfl⟩);rw[<-(HS4.out.each p hp).len];simpa using h_);go_upto_region 5 with fail;go_wp2_with (with_reducible refine ldZ 27 H1.out ?_);refine(opn_read lineT a1 7 false L B 2 c v4 HT.out qdx HCJ.out HS4.out (by omega) HV4.out (HWD.out v4 HB.out)).mono ?_;rw[HP4.out,a17_4];rintro e_ v5 ⟨b5,rfl,hm5,hb5⟩;have HM5:=zq hm5;clear hm5 HS4 HP4 HV4;dsimp only;have HB:=tB HB hb5;have H1:=uH H1 hb5;have H3:=uH H3 hb5;have HT:=zq (HT.out.under hb5);have HM3:=zq (HM3.out.under hb5);clear hb5;have hm:Has (v5.alloc (.cells #[.int .i64 0,.bool false,.slice none 0 0,.slice none 0 0,.int .i64 0] 38)) v5.heap.size 38 #[.int .i64 0,.bool false,.slice none 0 0,.slice none 0 0,.int .i64 0]:=Has.made _ _ _;have HMM:=zq hm;obtain⟨u5,hu5⟩: ∃u_,(v5.alloc (.cells #[.int .i64 0,.bool false,.slice none 0 0,.slice none 0 0,.int .i64 0] 38)).setRow v5.heap.size (maC ma17 b5)=u_:=⟨_,rfl⟩
 have hbu5:Below v5.heap.size v5 u5:=by rw[<-hu5];exact qac (g:=v5.heap.size) (bA) (Nat.le_refl _) _
 have H5:=zq (show Has u5 v5.heap.size 38 (maC ma17 b5)from by rw[<-hu5];exact qab hm _);have HUU:=zq hu5;clear hm hu5;go_upto_region 6 with(with_reducible refine stZ (maC ma17 b5) HMM.out ?_)
 rw[HUU.out];clear HUU HMM;obtain⟨g5,hg5⟩: ∃g_,v5.heap.size=g_:=⟨_,rfl⟩
 rw[hg5]at H5;simp only[hg5];clear hg5;have HB:=tB HB hbu5;have H1:=uH H1 hbu5;have H3:=uH H3 hbu5;have HT:=zq (HT.out.under hbu5);have HM3:=zq (HM3.out.under hbu5);have HM5:=zq (HM5.out.under hbu5);clear hbu5;have m3:u5.cell? ⟨g3,3,none⟩=some (.slice b3.aq 1 b3.cs):=H3.out.cell 3;go_upto_region 8 with fail;clear m3;go_wp2_with (first|(with_reducible refine ldZ 53 H3.out ?_)|(with_reducible refine ldZ 54 H5.out ?_));refine(rsame17 ma17 ma17 b3 b5 u5 HM3.out HM5.out (by decide) (by decide)).mono ?_;rw[(qfD ma17 ma17).2 rfl];rintro e_ v6 ⟨rfl,hb6⟩;have HB:=tB HB hb6;have H1:=uH H1 hb6;have H3:=uH H3 hb6;have HT:=zq (HT.out.under hb6);have HM3:=zq (HM3.out.under hb6);clear hb6;obtain⟨bs,os,hbs,d0,d1⟩:=HM3.out.sects.sect (j:=0) (x:=⟨290,30⟩) rfl;rw[Nat.zero_mul,Nat.add_zero]at d0 d1;have m3:v6.cell? ⟨g3,3,none⟩=some (.slice (some ⟨bs,os,none⟩) 1 b3.cs):=by have h_:=H3.out.cell 3;rw[<-hbs];exact h_
 have q1:=eql_sc17 ⟨290,30⟩ ⟨290,30⟩;rw[(qcA _ _).2 rfl]at q1;unfold scA17 at q1;dsimp only at q1 d0 d1;clear hbs;go_upto_region 9 with fail;go_wp2_with (first|((with_reducible refine qbx 66 ?_);refine qaB (o:=⟨some 66,_,_,_,_,_⟩) 27 _ rfl (by kernel_rfl) (g1) rfl 27 (tpC lineT a1) (0,0) _ (H1.out).raw11 Tryz.underlying27 rfl (by kernel_rfl) ?_)|((with_reducible refine qbx 67 ?_);refine qaB (o:=⟨some 67,_,_,_,_,_⟩) 38 _ rfl (by kernel_rfl) (g3) rfl 38 (maC ma17 b3) (0,0) _ (H3.out).raw11 Tryz.underlying38 rfl (by kernel_rfl) ?_));refine(opn_may lineT a1 ma17 b3 v6 HT.out qdx HCJ.out HM3.out (by decide) (by decide)).mono ?_;rw[a17_5];rintro e_ v7 ⟨rfl,hb7⟩;clear d0 d1 m3 q1;have HB:=tB HB hb7;have H1:=uH H1 hb7;have H3:=uH H3 hb7;have HT:=zq (HT.out.under hb7);have HM3:=zq (HM3.out.under hb7);clear hb7;go_wp2_with ((with_reducible refine qbx 71 ?_);refine qaB (o:=⟨some 71,_,_,_,_,_⟩) 38 _ rfl (by kernel_rfl) (g3) rfl 38 (maC ma17 b3) (0,0) _ (H3.out).raw11 Tryz.underlying38 rfl (by kernel_rfl) ?_);refine(opn_reach ma17 b3 29 v7 HM3.out (by decide) (by decide)).mono ?_;rw[a17_6];rintro e_ v8 ⟨rfl,hb8⟩;have HB:=tB HB hb8;have H1:=uH H1 hb8;have H3:=uH H3 hb8;have HT:=zq (HT.out.under hb8);have HM3:=zq (HM3.out.under hb8);clear hb8;go_wp2_with ((with_reducible refine qbx 76 ?_);refine qaB (o:=⟨some 76,_,_,_,_,_⟩) 38 _ rfl (by kernel_rfl) (g3) rfl 38 (maC ma17 b3) (0,0) _ (H3.out).raw11 Tryz.underlying38 rfl (by kernel_rfl) ?_);refine(opn_reach ma17 b3 30 v8 HM3.out (by decide) (by decide)).mono ?_;rw[a17_7];rintro e_ v9 ⟨rfl,hb9⟩;have HB:=tB HB hb9;clear hb9;go_wp2;go_ret
 exact⟨by first|rfl|simp,HB.out⟩
end
section
open Go.RowKit
def msgCells (id t a o:Int)(A:Option Addr)(n c:Nat)(B:Option Addr)(m d:Nat):Array Value:=#[.int .i64 id,.int .i64 t,.int .i64 a,.int .i64 o,.slice A n c,.slice B m d]
def msgV (id t a o:Int)(A:Option Addr)(n c:Nat)(B:Option Addr)(m d:Nat):Value:= .agg (msgCells id t a o A n c B m d)
def qfm (n m:Nat)(l:List PkE):Bool:=decide (n<=30) &&decide (m<=30) &&l.all fun p=>decide (p.n<=3000)
theorem light_any (id t a o:Int)(A:Option Addr)(n c:Nat)(B:Option Addr)(m d:Nat)(l:List PkE)(w:World)(hl:SlK w B m d l):
  Calls Tryz.prog 17 #[msgV id t a o A n c B m d] w fun e w'=>e= .returned (.bool (qfm n m l))/\Below w.heap.size w w':=by
 obtain⟨T,hT⟩:=geZ (qfm n m l);rw[hT];have HT:=zq hT;clear hT;obtain⟨w0,hw0⟩:=geZ (w.alloc (.cells #[.int .i64 id,.int .i64 t,.int .i64 a,.int .i64 o,.slice A n c,.slice B m d] 47));have hb0:Below w.heap.size w w0:=by rw[<-hw0];exact bA
 have hh:Has w0 w.heap.size 47 #[.int .i64 id,.int .i64 t,.int .i64 a,.int .i64 o,.slice A n c,.slice B m d]:=by rw[<-hw0];exact Has.made _ _ _
 have HL:=zq (hl.under hb0);have HLN:=zq hl.len;have HB0:=zq hb0;have k4:w0.cell? ⟨w.heap.size,4,none⟩=some (.slice A n c):=by rw[hh.cell];rfl
 have k5:w0.cell? ⟨w.heap.size,5,none⟩=some (.slice B m d):=by rw[hh.cell];rfl
 clear hl hb0 hh;unfold msgV msgCells;by_cases h1:n<=30
 ·by_cases h2:m<=30
  ·have hTT:T=l.all (fun p=>decide (p.n<=3000)):=by have:=HT.out;unfold qfm at this;rw[decide_eq_true h1,decide_eq_true h2]at this;simpa using this.symm
   have HTT:=zq hTT;clear hTT HT;have x1: ¬(30:Int)<n:=by omega
   have x2: ¬(30:Int)<m:=by omega
   go_enter Tryz.func17,Tryz.ntmps17;go_wp2;go_loopw [3] (fun i wr=> ∃j:Nat,j<=m/\i= .int .i64 (j:Nat)/\(l.take j).all (fun p=>decide (p.n<=3000))=true/\wr=w0) (fun i _=>m-(intOf i).toNat)
   case atStart=>exact⟨0,by omega,rfl,rfl,rfl⟩
   obtain⟨j,hj,rfl,hok,rfl⟩:=hrel;have HOK:=zq hok;clear hok;have hln:=HLN.out;by_cases hlt:j<m
   ·have hjl:j<l.length:=by omega
    obtain⟨b0,o0,rfl,hci,hc⟩:=HL.out.at_ (j:=j) hjl;clear hci;have hst:(l.take (j+1)).all (fun p=>decide (p.n<=3000))=decide (l[j].n<=3000):=by
     rw[List.take_succ_eq_append_getElem hjl,List.all_append,HOK.out];simp
    have hF:decide (l[j].n<=3000)=false->T=false:=fun h=>by
     rw[HTT.out,List.all_eq_false];exact⟨l[j],List.getElem_mem hjl,by simpa using h⟩
    generalize l[j].n=N at*;generalize l[j].A=XA at*;generalize l[j].c=XC at*;have HST:=zq hst;have HF:=zq hF;clear hst hF hjl hln;have x3:(0:Int)<=j:=by omega
    have x4:(j:Int)<m:=by omega
    by_cases hN:N<=3000
    ·have x5: ¬(3000:Int)<N:=by omega
     go_wp2;go_roundw
     case rel=>exact⟨j+1,by omega,by go_num,by rw[HST.out,decide_eq_true hN],trivial⟩
     case measure=>simp[intOf];omega
    ·have x5:(3000:Int)<N:=by omega
     have hTf:=HF.out (decide_eq_false hN);subst hTf;go_wp2;go_ret
     exact⟨rfl,HB0.out⟩
   ·obtain rfl:j=m:=by omega
    have hTt:T=true:=by
     have:=HOK.out;rw[List.take_of_length_le (by omega)]at this;rw[HTT.out,this]
    subst hTt;go_wp2;go_ret
    exact⟨rfl,HB0.out⟩
  ·have hTT:T=false:=by have:=HT.out;unfold qfm at this;rw[decide_eq_true h1,decide_eq_false h2]at this;simpa using this.symm
   subst hTT;have x1: ¬(30:Int)<n:=by omega
   have x2:(30:Int)<m:=by omega
   go_enter Tryz.func17,Tryz.ntmps17;go_wp2;go_ret
   exact⟨rfl,HB0.out⟩
 ·have hTT:T=false:=by have:=HT.out;unfold qfm at this;rw[decide_eq_false h1]at this;simpa using this.symm
  subst hTT;have x1:(30:Int)<n:=by omega
  go_enter Tryz.func17,Tryz.ntmps17;go_wp2;go_ret
  exact⟨rfl,HB0.out⟩
end
end Go.Proofs.YtahadmeilajdgaaGreatDoor
