/-
  Our own text, joined.
-/
import Derived.Test.YtahadmeilajdgaaGreatDoorMrar
import Derived.BigQuiet
import Derived.IntWalk
import Derived.Test.YtahadmeilajdgaaGreatDoorMraa
import Derived.Test.YtahadmeilajdgaaGreatDoorRows
import Derived.WalkKit
import Derived.Great.Walk
import Derived.Test.YtahadmeilajdgaaGreatDoorMrak
import Derived.Laws.ResultCell
import Derived.Deep.LoopGhost
import Derived.Maps.AppendAt
import Derived.OwnWalk
namespace Go.Proofs.YtahadmeilajdgaaGreatDoor
set_option maxRecDepth 100000
set_option maxHeartbeats 80000000
section
open Go.RowKit
open Go.Great
def lkJ (acc:List Int)(p:List Int×Int):List Int×Int:=if p.2≠0 then([],p.2)else(acc++p.1,0)
theorem links_nil17 (t:Tp3)(m:Ma3)(u last:Int)(fst:Bool)(r:List St3)(h:(qa9 t m u last fst r).2≠0):(qa9 t m u last fst r).1=[]:=by
 cases r with
 |nil=>exact absurd rfl h
 |cons s r=>
  rw[qa9]at h⊢
  cases hg:qf6 t s.edge with
  |none=>rfl
  |some b=>
   rw[hg]at h;dsimp only at h⊢;split
   ·rfl
   ·split
    ·rfl
    ·rename_i h1 h2
     rw[if_neg h1,if_neg h2]at h;exact absurd rfl h
theorem lkJ_nil17 (t:Tp3)(m:Ma3)(u last:Int)(fst:Bool)(r:List St3):lkJ [] (qa9 t m u last fst r)=qa9 t m u last fst r:=by
 unfold lkJ;split
 ·rename_i h
  exact Prod.ext (links_nil17 _ _ _ _ _ _ h).symm rfl
 ·rename_i h
  exact Prod.ext (by simp) (by simpa using(Classical.not_not.1 h).symm)
theorem links_none17 {t:Tp3}{m:Ma3}{u last:Int}{fst:Bool}{l:List St3}{i:Nat}{s:St3}(acc:List Int)(h:l[i]?=some s)(hg:qf6 t s.edge=none):lkJ acc (qa9 t m u last fst (l.drop i))=([],1):=by
 rw[qcc h,qa9,hg]
 rfl
theorem links_bad17 {t:Tp3}{m:Ma3}{u last N X E:Int}{fst:Bool}{l:List St3}{i:Nat}{s:St3}{b:Bl3}(acc:List Int)(h:l[i]?=some s)(hg:qf6 t s.edge=some b)(hN:(onE t m.path ⟨b.edge,b.at_,s.rev⟩).1=N)(hS:qaW (N-last) u false=(X,E))(hE:E≠0):lkJ acc (qa9 t m u last fst (l.drop i))=([],E):=by
 rw[qcc h,qa9,hg];dsimp only;rw[hN,hS,if_pos hE];unfold lkJ;rw[if_pos hE]
theorem links_go17 {t:Tp3}{m:Ma3}{u last N X:Int}{fst:Bool}{l:List St3}{i:Nat}{s:St3}{b:Bl3}(acc:List Int)(h:l[i]?=some s)(hg:qf6 t s.edge=some b)(hN:(onE t m.path ⟨b.edge,b.at_,s.rev⟩).1=N)(hS:qaW (N-last) u false=(X,0)):
  lkJ acc (qa9 t m u last fst (l.drop i))=lkJ (acc++[X,1,b.id/16384,b.id %16384,dirB s.rev,2,12]++(if fst=true then[(m.path.length:Int)-2]else[])) (qa9 t m u N false (l.drop (i+1))):=by
 rw[qcc h,qa9,hg];dsimp only;unfold scT;rw[hN,hS,if_neg (by simp)];generalize qa9 t m u N false (l.drop (i+1))=q;obtain⟨q1,q2⟩:=q;unfold lkJ;dsimp only;by_cases hq:q2≠0
 ·rw[if_pos hq,if_pos hq,if_pos hq]
 ·rw[if_neg hq,if_neg hq]
  simp
theorem onGo_bnd17 {t:Tp3}{p:Ps3}(ht:qaF t=true)(hp:onB t p=true){path:List St3}(hed: ∀s∈path,edgeB t s.edge=true){c n:Int}(h:onGo t p path c=some n):c<=n/\n<=c+sumT t path:=by
 induction path generalizing c with
 |nil=>cases h
 |cons s r ih=>
  have h1:=qa2 ht (hed s (List.mem_cons_self ..));have h2:=qcw ht (fun x hx=>hed x (List.mem_cons_of_mem s hx));rw[onGo]at h;show c<=n/\n<=c+(lenAt t s+sumT t r)
  split at h
  ·rename_i h3
   injection h with h
   rw[qaI]at h3;subst h3;have h4:=qcf ht hp;unfold intoP at h4;omega
  ·have h4:=ih (fun x hx=>hed x (List.mem_cons_of_mem s hx)) h
   omega
theorem on_bnd17 (t:Tp3)(path:List St3)(p:Ps3):0<=(onE t path p).1/\(onE t path p).1<=41000000:=by
 unfold onE;split
 ·rename_i h1
  obtain⟨h2,h3⟩:=qaQ.1 h1;have ht:=(qaD h2).1;split
  ·rename_i h4
   have h5:=qd8 h4;have h6:=qcw ht h5.2.2.1
   cases hq:onGo t p path 0 with
   |none=>
    show(0:Int)<=0/\(0:Int)<=41000000
    omega
   |some n=>
    have h7:=onGo_bnd17 ht h3 h5.2.2.1 hq;show 0<=n/\n<=41000000
    omega
  ·show(0:Int)<=0/\(0:Int)<=41000000
   omega
 ·show(0:Int)<=0/\(0:Int)<=41000000
  omega
theorem qgb {t:Tp3}{m:Ma3}(h:mayM t m=true):1<=m.path.length/\m.path.length<=24/\1<=m.sects.length/\m.sects.length<=8:=by
 have h1:=qb4.1 h;have h2:=qd8 h1.len;have h3:=List.length_pos_iff.2 h2.1;exact⟨h3,h1.few,h1.one,h1.eight⟩
theorem optl1_any (b:Bl3)(d:Int)(g:Nat)(w:World)(hc:w.cell? ⟨g,0,none⟩=some (.int .i64 d)):
  Calls Tryz.prog 161 #[.agg (blA b),.pointer (some ⟨g,0,none⟩)] w fun e w'=>e= .returned (.bool (b.edge==d))/\Below w.heap.size w w':=by
 obtain⟨wa,hwa,hbwa,HWA,HBWA,h0⟩:=bx1Z w 151 (blA b);have c0:wa.cell? ⟨w.heap.size,1,none⟩=some (.int .i64 b.edge):=h0.cell 1;have e0:wa.cell? ⟨g,0,none⟩=some (.int .i64 d):=(hbwa.cell (qag hc)).trans hc;clear hwa hbwa h0 hc;obtain⟨q,hq⟩:=geZ ((b.edge==d));rw[hq];unfold blA at*;go_enter Tryz.func161,Tryz.ntmps161;go_upto_region 1 with fail;rw[HWA.out];clear HWA;go_wp2;go_ret
 exact⟨by first|rfl|(rw[hq];done)|simp_all,HBWA.out⟩
theorem oix_tl17 (p:Bl3->Bool)(l:List Bl3)(A:Option Addr)(n c:Nat)(g:Nat)(w:World)(hs:SlO blC 3 w A n c l)(hbig:n<=1048576)
  (HE:Hid (∀(x:Bl3) W,Below w.heap.size w W->Calls Tryz.prog 161 #[.agg (blA x),.pointer (some ⟨g,0,none⟩)] W fun e w'=>e= .returned (.bool (p x))/\Below W.heap.size W w')):
  Calls Tryz.prog 160 #[.slice A n c,.func (.func 161) #[] #[.pointer (some ⟨g,0,none⟩)]] w fun e w'=>e= .returned (.int .i64 (idxL p l))/\Below w.heap.size w w':=by
 try unfold blA at HE
 try unfold stA13 at HE
 have HN:Hid (l.length=n):=zq hs.len13;have HW:=zq hs;clear hs;have x0:(0:Int)<=n:=by omega
 obtain⟨R,hR⟩:=geZ (idxL p l);have HR:=zq hR;rw[hR];clear hR;go_enter Tryz.func160,Tryz.ntmps160;go_wp2;go_loopg [8] n (fun kk v wl=> ∃j:Nat,j<=n/\n-j<=kk/\v= .int .i64 j/\Hid (∀i x,i<j->l[i]?=some x->p x=false)/\Hid (Below w.heap.size w wl))
 case atStart=>exact⟨0,by omega,by omega,rfl,zq fun i x h=>absurd h (by omega),zq (Below.refl _ _)⟩
 obtain⟨j,hj,hjk,rfl,HNO,HBL⟩:=hrel;by_cases hlt:j<n
 ·obtain⟨x,hx⟩:=glZ l (j) (by rw[HN.out];omega)
  obtain⟨bk,off,rfl,d0,d1,d2⟩:=(HW.out.under HBL.out).bal hx;have HX:=zq hx;have y0:(0:Int)<=j:=by omega
  have y1:(j:Int)<n:=by omega
  have HC:=zq (HE.out x wr HBL.out);clear hx;generalize hb:p x=b at*;have HBE:=zq hb;clear hb
  cases b with
  |true=>
   have HF:Hid (R=j):=zq (by rw[<-HR.out];exact qbC HX.out HBE.out HNO.out);go_upto_region 4 with fail;go_wp2_with fail;refine HC.out.mono ?_;rintro e w1 ⟨rfl,hb1⟩;have HB1:=tB HBL hb1;clear hb1 d0 d1 d2 HBE HNO;go_wp2;go_ret
   exact⟨by rw[HF.out];rfl,HB1.out⟩
  |false=>
   go_upto_region 4 with fail;go_wp2_with fail;refine HC.out.mono ?_;rintro e w1 ⟨rfl,hb1⟩;have HB1:=tB HBL hb1;have HN2:Hid (∀i y,i<j+1->l[i]?=some y->p y=false):=zq fun i y hi hy=>by
    by_cases h:i=j
    ·subst h;rw[HX.out]at hy;cases hy;exact HBE.out
    ·exact HNO.out i y (by omega) hy
   clear hb1 d0 d1 d2 HBE HNO;go_wp2;go_roundg (gk-1)
   case measure=>omega
   case rel=>exact⟨j+1,by omega,by omega,by go_num,HN2,HB1⟩
 ·have y1: ¬(j:Int)<n:=by omega
  have HF:Hid (R= -1):=zq (by rw[<-HR.out];exact qbg fun i y hi hy=>HNO.out i y (by have:=HN.out;omega) hy);go_wp2;go_ret
  exact⟨by rw[HF.out];rfl,HBL.out⟩
theorem qfP (t:Tp3)(a:TpA)(m:Ma3)(b:MaA)(u:Int)(w:World)(ht:TopR w t a)(hl:qaJ t=true)(hcj:t.joints.length<=a.cj)(hm:MaR w m b)(hmay:mayM t m=true):
  Calls Tryz.prog 83 #[.agg (tpC t a),.agg (maC m b),.int .i64 u] w fun r w'=> ∃A n c,r= .returned (.tuple #[.slice A n c,.int .i64 (qa9 t m u (qa1 t m) true (m.path.drop 1)).2])/\SlO inC 1 w' A n c (qa9 t m u (qa1 t m) true (m.path.drop 1)).1/\n<=200/\Below w.heap.size w w':=by
 obtain⟨x,hloc,hrx,hbh,hck⟩:=may_loc17 hmay;have hpl:=qgb hmay;rw[hbh];have HL0:=zq (fun W (hW:Below w.heap.size w W)=>qcg t a m.ref m.rev 0 W (ht.under hW) hl hcj);rw[hloc]at HL0;have HEO:=zq (fun W (hW:Below w.heap.size w W)=>qee t a x W (ht.under hW) hl hcj);rw[qd0 hrx]at HEO;have HON:=zq (fun W (hW:Below w.heap.size w W) p (hp:SlO stC 2 W b.ap m.path.length b.cp m.path)=>opl_on t a m.path b.ap m.path.length b.cp p W (ht.under hW) hl hcj hp (by omega) hm.capP);have hpp:=hm.path;have hcP:=hm.capP;clear hm;obtain⟨xe,xa,xr⟩:=x;unfold psA at HL0 HEO;dsimp only at HL0 HEO;obtain⟨R,hR⟩:=geZ (qa9 t m u (intoP t ⟨xe,xa,xr⟩) true (m.path.drop 1));rw[hR];obtain⟨I,hI⟩:=geZ (intoP t ⟨xe,xa,xr⟩);have HIB:=zq (show 0<=I/\I<=41000000 from by rw[<-hI];have h1_:=qcf (qaD hck).1 (qaQ.1 hrx).2;have h2_:=qa2 (qaD hck).1 (s:=stepP ⟨xe,xa,xr⟩) (qbu.1 (qaQ.1 hrx).2).1;omega);rw[hI]at HEO hR;obtain⟨m0,hm0⟩: ∃q,m=q:=⟨_,rfl⟩
 have HR:=zq hR;have HCK:=zq hck;have HPL:=zq hpl;clear hR hI hloc hrx hbh hmay hck hm0;have hbl:=(qav hl).2.2.1;unfold maC;obtain⟨mr,hmr⟩: ∃q,m.ref=q:=⟨_,rfl⟩
 obtain⟨mv,hmv⟩: ∃q,m.rev=q:=⟨_,rfl⟩
 obtain⟨mg,hmg⟩: ∃q,m.gap=q:=⟨_,rfl⟩
 obtain⟨sn,hsn⟩: ∃q,m.sects.length=q:=⟨_,rfl⟩
 obtain⟨mp,hmp⟩: ∃q,m.path=q:=⟨_,rfl⟩
 obtain⟨ap,cp,aq,cs⟩:=b;dsimp only at*;rw[hmr,hmv]at HL0;rw[hmp]at hpp hpl hcP HR HON HPL;rw[hmr,hmv,hmg,hsn,hmp];obtain⟨pn,hpn⟩: ∃q,mp.length=q:=⟨_,rfl⟩
 rw[hpn]at hpp hpl hcP HON HPL⊢;have HMP:=zq hmp;have HPN:=zq hpn;have HCP:=zq hcP;clear hmr hmv hmg hsn hmp hpn;obtain⟨wa,hwa,hbwa,HWA,HBWA,h0,h1⟩:=bx2Z w 27 (tpC t a) 38 #[.int .i64 mr,.bool mv,.slice ap pn cp,.slice aq sn cs,.int .i64 mg];have H0:=zH h0;have H1:=zH h1;have HPP:=zq (fun W (hW:Below wa.heap.size wa W)=>(hpp.under hbwa).under hW);have HBS:=zq (fun W (hW:Below wa.heap.size wa W)=>((ht.under hbwa).under hW).b);have HBL:=zq hbl;have e0:wa.cell? ⟨w.heap.size+1,0,none⟩=some (.int .i64 mr):=h1.cell 0;have e1:wa.cell? ⟨w.heap.size+1,1,none⟩=some (.bool mv):=h1.cell 1;clear hwa hbwa h0 h1 ht hl hcj hpp hpl hcP hbl;go_enter Tryz.func83,Tryz.ntmps83;go_upto_region 1 with fail;rw[HWA.out];clear HWA;go_wp2_with (with_reducible refine ldZ 21 (H0.out wa (Below.refl _ _)) ?_);refine(HL0.out wa HBWA.out).mono ?_;rintro e_ w1 ⟨rfl,hb1⟩;have HB1:=zq hb1;clear hb1 HL0 e0 e1;go_upto_region 2 with fail;obtain⟨w2,hw2⟩:=geZ (w1.alloc (.cells #[.int .i64 xe,.int .i64 xa,.bool xr] 51));rw[hw2];have HB2:=zq (show Below wa.heap.size wa w2 from by rw[<-hw2];exact HB1.out.alloc HB1.out.size _);have hH:Has w2 w1.heap.size 51 #[.int .i64 xe,.int .i64 xa,.bool xr]:=by rw[<-hw2];exact Has.made _ _ _
 obtain⟨gP,hgP⟩: ∃g,w1.heap.size=g:=⟨_,rfl⟩
 rw[hgP]at hH;simp only[hgP];have HHP:=zq hH;clear hw2 hH hgP HB1;go_wp2_with (first|(with_reducible refine ldZ 29 (H0.out w2 HB2.out) ?_)|(with_reducible refine ldZ 30 HHP.out ?_));refine(HEO.out w2 (HBWA.out.trans (HB2.out.mono HBWA.out.size))).mono ?_;rintro e_ w3 ⟨rfl,hb3⟩;have HB3:=tB HB2 hb3;clear hb3 HB2 HHP HEO;have m2:w3.cell? ⟨w.heap.size+1,2,none⟩=some (.slice ap pn cp):=(H1.out w3 HB3.out).cell 2;have hp1:1<=pn:=HPL.out.1;have hcu: ∀W,(Instr.sliceAt 35 (.slice ap pn cp) (some (.int .i64 1)) none none).run Tryz.prog W= .ok (.slice (if cp=1 then ap else ap.map (·.add (1*2))) (pn-1) (cp-1)) W:=fun W=>qbF (P:=Tryz.prog) 2 35 30 Tryz.underlying35 (by kernel_rfl) ap pn cp 1 hp1 W;have HTS:=zq (fun W (hW:Below wa.heap.size wa W)=>(HPP.out W hW).from17 (fun _=>rfl) HCP.out hp1);obtain⟨A2,hA2⟩: ∃A,(if cp=1 then ap else ap.map (·.add (1*2)))=A:=⟨_,rfl⟩
 obtain⟨c2,hc2⟩: ∃c,cp-1=c:=⟨_,rfl⟩
 obtain⟨tn,htn⟩: ∃n,pn-1=n:=⟨_,rfl⟩
 obtain⟨tl,htl⟩: ∃l,mp.drop 1=l:=⟨_,rfl⟩
 rw[hA2,hc2,htn]at hcu HTS;rw[htl]at HTS HR;have HTN:=zq (show tn<=23/\tl.length=tn/\pn=tn+1 from by have h1_:=HPL.out;have h2_:=HPN.out;refine⟨by omega,?_,by omega⟩;rw[<-htl,List.length_drop];omega);have htb:tn<=23:=HTN.out.1;clear hA2 hc2 htn htl hp1;go_wp2;clear hcu m2;go_loopg [10,11,36] tn (fun kk v10 v11 v36 wl=> ∃(i:Nat) (X:Option Addr) (n c:Nat) (acc:List Int) (last:Int),i<=tn/\tn-i<=kk/\v36= .int .i64 i/\v11= .slice X n c/\v10= .int .i64 last/\Hid (0<=last/\last<=41000000)/\Hid (n<=8*i)/\Hid (OwR inC 1 3 wa.heap.size wl X n c acc)/\Hid (R=lkJ acc (qa9 t m u last (decide (i=0)) (tl.drop i)))/\Hid (Below wa.heap.size wa wl))
 case atStart=>exact⟨0,none,0,0,[],I,by omega,by omega,rfl,rfl,rfl,HIB,zq (by omega),zq (OwR.nil _ _ _ _ _),zq (by rw[lkJ_nil17,List.drop_zero];exact HR.out.symm),HB3⟩
 clear HR HIB HB3;obtain⟨i,X,n,c,acc,last,hi,hik,rfl,rfl,rfl,HLB,HN,HO,HRI,HB⟩:=hrel;obtain⟨k1,hk1⟩: ∃k1,k1=gk:=⟨_,rfl⟩
 subst hk1;obtain⟨wv,hwv⟩: ∃wv,wv=wr:=⟨_,rfl⟩
 subst hwv;by_cases hlt:i<tn;rotate_left
 ·obtain rfl:i=tn:=by omega
  have HF:=zq (show R=(acc,0)from by rw[HRI.out,List.drop_of_length_le (by rw[HTN.out.2.1];exact Nat.le_refl _)];show lkJ acc ([],0)=_;unfold lkJ;simp);have y1: ¬(i:Int)<i:=by omega
  have HNB:=zq (show n<=200 from by have h1_:=HN.out;omega);clear HRI;go_wp2;go_ret2
  exact⟨X,n,c,by rw[HF.out];rfl,by rw[HF.out];exact HO.out.sl,HNB.out,HBWA.out.trans (HB.out.mono HBWA.out.size)⟩
 ·obtain⟨s,hs⟩:=glZ tl (i) (by rw[HTN.out.2.1];exact hlt)
  obtain⟨bk,off,rfl,d0,d1⟩:=(HTS.out wv HB.out).step hs;have HSS:=zq hs;obtain⟨se,sr⟩:=s;dsimp only at d0 d1;have x1:(i:Int)<tn:=by omega
  have x2:(0:Int)<=i:=by omega
  have HIN:=zq (show i<tn/\tn-i<=k1 from⟨hlt,hik⟩);clear hs hi hik;obtain⟨wb,hwb⟩: ∃u,wv.alloc (.cells #[.int .i64 se,.bool sr] 30)=u:=⟨_,rfl⟩
  have hbb:Below wv.heap.size wv wb:=by rw[<-hwb];exact bA
  have hHb:Has wb wv.heap.size 30 #[.int .i64 se,.bool sr]:=by rw[<-hwb];exact Has.made _ _ _
  have HWB:=zq hwb;obtain⟨gs,hgs⟩: ∃g,wv.heap.size=g:=⟨_,rfl⟩
  have HGS:=zq hgs;rw[hgs]at hHb;have HOB:=zq (HO.out.under hbb);have HBB:=tB HB hbb;have HHB:=zH hHb;have HWX:=zq (fun W (hW:Below wb.heap.size wb W)=>HBB.out.trans (hW.mono HBB.out.size));clear hwb hbb hgs hlt hHb;go_upto_region 7 with fail;rw[HWB.out];simp only[HGS.out];clear HWB HGS d0 d1 HO HB;have b2:wb.cell? ⟨w.heap.size,2,none⟩=some (.slice a.ab t.bals.length a.cb):=(H0.out wb HBB.out).cell 2;have HE:Hid (∀(x:Bl3) W,Below wb.heap.size wb W->Calls Tryz.prog 161 #[.agg (blA x),.pointer (some ⟨gs,0,none⟩)] W fun e w'=>e= .returned (.bool (x.edge==se))/\Below W.heap.size W w'):=zq fun x W hW=>optl1_any x se gs W ((HHB.out W hW).cell 0);have HIX:=zq (oix_tl17 (fun x=>x.edge==se) t.bals a.ab t.bals.length a.cb gs wb (HBS.out wb HBB.out) (by have:=HBL.out;omega) HE);clear HE;have hfi:=qe5 (fun x:Bl3=>x.edge==se) t.bals;obtain⟨bn,hbn⟩: ∃n,t.bals.length=n:=⟨_,rfl⟩
  rw[hbn]at b2 HIX;have HBN:=zq hbn;clear hbn
  rcases hfi with⟨h1,h2⟩|⟨j,y,h1,h2,h3⟩
  ·rw[h1]at HIX
   have HF:=zq (show R=([],1)from by rw[HRI.out];exact links_none17 acc HSS.out h2);clear h1 h2;go_wp2_with fail;refine HIX.out.mono ?_;rintro e_ w4 ⟨rfl,hb4⟩;have HB4:=zq (HWX.out _ hb4);clear hb4 HIX b2;go_wp2;go_ret2
   exact⟨none,0,0,by rw[HF.out];rfl,by rw[HF.out];exact SlO.nil _ _ _,by omega,HBWA.out.trans (HB4.out.mono HBWA.out.size)⟩
  ·rw[h2]at HIX
   have HGF:=zq (show qf6 t se=some y from h3);have HYB:=zq (bal_find HCK.out (List.mem_of_getElem? h1));have hjb:j<bn:=by rw[<-HBN.out];exact(List.getElem?_eq_some_iff.1 h1).1
   have HJ:=zq h1;have hbn8:bn<=100:=by rw[<-HBN.out];exact HBL.out
   clear h1 h2 h3;go_wp2_with fail;refine HIX.out.mono ?_;rintro e_ w4 ⟨rfl,hb4⟩;have HB4:=zq (HWX.out _ hb4);have HO4:=zq (HOB.out.under hb4);have HH4:=zq (HHB.out _ hb4);clear hb4 HIX b2 HOB HBB HHB HWX;obtain⟨yb,yo,hyA,y0,y1,y2⟩:=(HBS.out w4 HB4.out).bal HJ.out;have b2:w4.cell? ⟨w.heap.size,2,none⟩=some (.slice (some ⟨yb,yo,none⟩) bn a.cb):=by rw[<-hyA,<-HBN.out];exact(H0.out w4 HB4.out).cell 2
   clear hyA;obtain⟨yi,ye,ya⟩:=y;dsimp only at y0 y1 y2 HYB;have x3:(0:Int)<=j:=by omega
   have x4:(j:Int)<bn:=by omega
   have q1:decide ((j:Int)<0)=false:=decide_eq_false (by omega);obtain⟨w5,hw5⟩: ∃u,w4.alloc (.cells #[.int .i64 yi,.int .i64 ye,.int .i64 ya] 151)=u:=⟨_,rfl⟩
   have hb5:Below w4.heap.size w4 w5:=by rw[<-hw5];exact bA
   have hH5:Has w5 w4.heap.size 151 #[.int .i64 yi,.int .i64 ye,.int .i64 ya]:=by rw[<-hw5];exact Has.made _ _ _
   have HW5:=zq hw5;obtain⟨gb,hgb⟩: ∃g,w4.heap.size=g:=⟨_,rfl⟩
   have HGB:=zq hgb;rw[hgb]at hH5;have HO5:=zq (HO4.out.under hb5);have HB5:=tB HB4 hb5;have HH5:=uH HH4 hb5;have HY5:=zq hH5;clear hw5 hb5 hgb hH5;go_upto_region 11 with fail;rw[HW5.out];simp only[HGB.out];clear HW5 HGB y0 y1 y2 b2 x3 x4 q1 hjb hbn8 HJ HO4 HB4 HH4;have m2:w5.cell? ⟨w.heap.size+1,2,none⟩=some (.slice ap pn cp):=(H1.out w5 HB5.out).cell 2;have y1:w5.cell? ⟨gb,1,none⟩=some (.int .i64 ye):=HY5.out.cell 1;have y2:w5.cell? ⟨gb,2,none⟩=some (.int .i64 ya):=HY5.out.cell 2;have z1:w5.cell? ⟨gs,1,none⟩=some (.bool sr):=HH5.out.cell 1;obtain⟨N,hN⟩:=geZ ((onE t m.path ⟨ye,ya,sr⟩).1);obtain⟨E0,hE0⟩: ∃N,(onE t m.path ⟨ye,ya,sr⟩).2=N:=⟨_,rfl⟩
   have HNB:=zq (show 0<=N/\N<=41000000 from by rw[<-hN];exact on_bnd17 _ _ _);have HC:=zq (HON.out w5 (HBWA.out.trans (HB5.out.mono HBWA.out.size)) ⟨ye,ya,sr⟩ (HPP.out w5 HB5.out));rw[<-HMP.out,hN,hE0]at HC;unfold psA at HC;dsimp only at HC;have HNE:=zq hN;clear hN hE0;go_wp2_with (with_reducible refine ldZ 53 (H0.out w5 HB5.out) ?_);refine HC.out.mono ?_;rintro e_ w6 ⟨rfl,hb6⟩;have HB6:=tB HB5 hb6;have HO6:=zq (HO5.out.under hb6);have HH6:=uH HH5 hb6;have HY6:=uH HY5 hb6;clear hb6 HC m2 y1 y2 z1 HB5 HO5 HH5 HY5;obtain⟨D,hD⟩:=geZ (N-last);have hw1:IntKind.i64.wrap (N-last)=D:=by rw[IntKind.wrap_i64];have h1_:=HNB.out;have h2_:=HLB.out;omega
   obtain⟨X2,hX2⟩: ∃X,(qaW D u false).1=X:=⟨_,rfl⟩
   obtain⟨E,hE⟩:=geZ ((qaW D u false).2);have HS:=zq (show qaW (N-last) u false=(X2,E)from by rw[hD];exact Prod.ext hX2 hE);have HSC:=zq (fun W=>qdC D u false W);unfold pair at HSC;rw[hX2,hE]at HSC;clear hD hX2 hE;go_wp2_with fail;refine(HSC.out w6).mono ?_;rintro e_ w6' ⟨rfl,rfl⟩;clear hw1 HSC;by_cases z:E=0;rotate_left
   ·have q1:(E !=0)=true:=by simp[z]
    have HF:=zq (show R=([],E)from by rw[HRI.out];exact links_bad17 acc HSS.out HGF.out HNE.out HS.out z);clear z;go_wp2;go_ret2
    exact⟨none,0,0,by rw[HF.out];rfl,by rw[HF.out];exact SlO.nil _ _ _,by omega,HBWA.out.trans (HB6.out.mono HBWA.out.size)⟩
   ·subst z
    have q1:((0:Int) !=0)=false:=rfl;have HGO:=zq (HRI.out.trans (links_go17 acc HSS.out HGF.out HNE.out HS.out));dsimp only at HGO;rw[HMP.out,HPN.out]at HGO;obtain⟨Q,hQ⟩:=geZ (yi/16384);obtain⟨M,hM⟩:=geZ (yi %16384);obtain⟨DR,hDR⟩: ∃d,dirB sr=d:=⟨_,rfl⟩
    have HQ:=zq (show Int.tdiv yi 16384=Q from by rw[Int.tdiv_eq_ediv_of_nonneg HYB.out.1];exact hQ);have HQM:=zq (show Int.tmod yi 16384=M from by rw[Int.tmod_eq_emod_of_nonneg HYB.out.1];exact hM);have HWQ:=zq (show IntKind.i64.wrap Q=Q from by rw[IntKind.wrap_i64];have:=HYB.out;omega);have HWM:=zq (show IntKind.i64.wrap M=M from by rw[IntKind.wrap_i64];have:=HYB.out;omega);rw[hQ,hM,hDR]at HGO;have HDI:Hid (∀W,Calls Tryz.prog 82 #[.bool sr] W fun r w'=>r= .returned (.int .i64 DR)/\Below W.heap.size W w'):=zq (fun W=>(qfs sr W).mono (fun e w' h=>⟨by rw[h.1,hDR],by rw[h.2];exact Below.refl _ _⟩));clear hQ hM hDR HRI HS;go_upto_region 15 with fail;clear q1;refine wp_region_held_drew (S:=(fun W_=>(Has W_ (gb) 151 #[.int .i64 yi,.int .i64 ye,.int .i64 ya])/\(Has W_ (gs) 30 #[.int .i64 se,.bool sr])/\(Below wa.heap.size wa W_))) (by kernel_rfl) ?_ (fun hHeld=>?_)
    ·exact⟨HY6.out.draw,HH6.out.draw,qah HB6.out⟩
    have HO6:=zq HO6.out.draw1;refine tkZ 0 77 (h:=?_);simp only[lyZ];refine tkZ 1 78 (h:=?_);simp only[lyZ];refine tkZ 2 79 (h:=?_);simp only[lyZ];refine tqZ 3 80 (fun w_ ⟨s0,s1,s2⟩=>(show w_.cell? ⟨gb,0,none⟩=some (.int .i64 yi:Value)from s0.cell 0)) (h:=?_);simp only[lyZ];refine tqZ 4 81 (fun w_ ⟨s0,s1,s2⟩=>And.intro (HQ.out) (HWQ.out)) (h:=?_);simp only[lyZ];refine tkZ 5 82 (h:=?_);simp only[lyZ];refine tqZ 6 83 (fun w_ ⟨s0,s1,s2⟩=>(show w_.cell? ⟨gb,0,none⟩=some (.int .i64 yi:Value)from s0.cell 0)) (h:=?_);simp only[lyZ];refine tqZ 7 84 (fun w_ ⟨s0,s1,s2⟩=>And.intro (HQM.out) (HWM.out)) (h:=?_);simp only[lyZ];refine tkZ 8 85 (h:=?_);simp only[lyZ];refine tqZ 9 86 (fun w_ ⟨s0,s1,s2⟩=>(show w_.cell? ⟨gs,1,none⟩=some (.bool sr:Value)from s1.cell 1)) (h:=?_);simp only[lyZ];refine aoZ 10 (some 87) (fun K hK=>?_);go_simp;obtain⟨s0,s1,s2⟩:=hHeld;refine(HDI.out _).mono ?_;rintro e_ q1 ⟨rfl,hb_⟩;have HO6:=zq (HO6.out.under hb_);go_wp2_with fail;refine hK.out _ _ ?_ (fun hHeld=>?_)
    ·exact⟨s0.u hb_,s1.u hb_,bu s2 hb_⟩
    clear hK K s0 s1 s2
    try simp only[lyZ]
    refine aoZ 11 (some 88) (fun K hK=>?_);go_simp;obtain⟨s0,s1,s2⟩:=hHeld;obtain⟨gl,hgl⟩:=geZ (q1.heap.size);have p0_gl:gb<gl:=by rw[<-hgl];exact s0.lt
    have p1_gl:gs<gl:=by rw[<-hgl];exact s1.lt
    have p2_gl:wa.heap.size<=gl:=by rw[<-hgl];exact s2.size
    rw[hgl];refine hK.out _ _ ?_ (fun hHeld=>?_)
    ·exact⟨s0.beside _,s1.beside _,qao s2 _⟩
    have HNL:=zq (show(Value.slice X n c).ownBlock≠some gl from by rw[<-hgl];exact HO6.out.ne (Nat.le_refl _));have HO6:=zq (HO6.out.under ((Below.refl _ _).alloc (Nat.le_refl _) (.cells #[.int .i64 X2,.int .i64 1,.int .i64 Q,.int .i64 M,.int .i64 DR,.int .i64 2,.int .i64 12] 3)));refine mr3 (fun W_=>(Has W_ (gl) 3 #[.int .i64 X2,.int .i64 1,.int .i64 Q,.int .i64 M,.int .i64 DR,.int .i64 2,.int .i64 12])) ⟨s0.beside _,s1.beside _,qao s2 _,(by rw[<-hgl];exact Has.made _ _ _)⟩ (fun h_=>?_);clear hHeld;have hHeld:=h_;clear h_;clear hK K hgl s0 s1 s2
    try simp only[lyZ]
    refine aoZ 12 (some 89) (fun K hK=>?_);skip;obtain⟨s0,s1,s2,s3⟩:=hHeld;obtain⟨hO,hSL,h1,hBD⟩:=pourR 8 HO6.out (⟨rfl,qa3 s3 rfl⟩:SlO inC 1 _ (some ⟨gl,0,none⟩) 7 7 [X2,1,Q,M,DR,2,12]) qct s2.size (by have h1_:=HIN.out;have h2_:=HTN.out.1;have h3_:=HN.out;omega) (by omega);refine qcj (o:=⟨some 89,_,_,_,_,_⟩) (by rfl) (.tmp 77) (.tmp 88) 22 (by rfl) wa.heap.size 3 (.int .i64 0) 1 8 Tryz.underlying22 qbG (by rfl) (by decide) X n c _ (by rfl) hO (some ⟨gl,0,none⟩) 7 7 _ (by rfl) hSL h1 hBD ?_;intro X3 x3 u3 ho hg h5;have hs0:=s0.grow hg.out (Ne.symm (HO6.out.apart s0 (by decide)));have hs1:=s1.grow hg.out (Ne.symm (HO6.out.apart s1 (by decide)));have hs2:=qas s2 s2.size hO.out (Nat.le_refl _) rfl hg.out;have hs3:=s3.grow hg.out (Ne.symm HNL.out);have HO6:=zq (show OwR inC 1 3 wa.heap.size u3 X3 (n+7) x3 (acc++[X2,1,Q,M,DR,2,12])from OwR.poured (l':=[X2,1,Q,M,DR,2,12]) HO6.out.2 rfl ho.out);refine hK.out _ _ ?_ (fun hHeld=>?_)
    ·exact⟨hs0,hs1,hs2,hs3⟩
    clear hK K s0 s1 s2 s3
    try simp only[lyZ]
    refine tkZ 13 11 (h:=?_);simp only[lyZ];refine dnZ ?_;obtain⟨w7,hw7⟩: ∃u,u=u3:=⟨_,rfl⟩
    subst hw7;have HB7:=zq hHeld.2.2.1;clear hHeld;obtain⟨a2,ha2⟩: ∃l,acc++[X2,1,Q,M,DR,2,12]=l:=⟨_,rfl⟩
    rw[ha2]at HO6 HGO;clear ha2;have HN7:=zq (show n+7<=8*i+7 from by have:=HN.out;omega);have hib:i<23:=by have h1_:=HIN.out;have h2_:=HTN.out;omega
    by_cases z:i=0
    ·have q1:((i:Int)==0)=true:=by simp[z]
     have HGO:=zq (show R=lkJ (a2++[(pn:Int)-2]) (qa9 t m u N (decide (i+1=0)) (tl.drop (i+1)))from by rw[HGO.out,if_pos (decide_eq_true z),decide_eq_false (show¬i+1=0 by omega)]);have HI0:=zq z;clear z;have m2:w7.cell? ⟨w.heap.size+1,2,none⟩=some (.slice ap pn cp):=(H1.out w7 HB7.out).cell 2;have hpb:pn<=24:=HPL.out.2.1;obtain⟨P2,hP2⟩: ∃q,(pn:Int)-2=q:=⟨_,rfl⟩
     have hw2:IntKind.i64.wrap ((pn:Int)-2)=P2:=by rw[IntKind.wrap_i64];omega
     rw[hP2]at HGO;clear hP2;go_upto_region 17 with fail;obtain⟨hO,hSL,h1,hBD⟩:=pourR 8 (HO6.out.under ((Below.refl _ _).alloc (Nat.le_refl _) (.cells #[.int .i64 P2] 3))) (⟨rfl,qa3 (Has.made _ _ _) rfl⟩:SlO inC 1 (w7.alloc (.cells #[.int .i64 P2] 3)) (some ⟨w7.heap.size,0,none⟩) 1 1 [P2]) qct (Nat.le_trans HB7.out.size (by simp)) (by have:=HN7.out;omega) (by omega);go_wp2_with (with_reducible refine qaP (o:=⟨some 98,_,_,_,_,_⟩) rfl (.tmp 92) (.tmp 97) 22 rfl wa.heap.size 3 (.int .i64 0) 1 8 Tryz.underlying22 qbG ?hz7 (by decide) X3 (n+7) x3 _ ?hs7 hO (some ⟨w7.heap.size,0,none⟩) 1 1 _ ?hx7 hSL h1 hBD ?next7)
     all_goals try rfl
     intro A8 c8 w8 ho8 hg8;have HO8:=zq (show OwR inC 1 3 wa.heap.size w8 A8 (n+7+1) c8 (a2++[P2])from OwR.poured (l':=[P2]) HO6.out.2 rfl ho8.out);have HB8:=zq (qas (HB7.out.trans ((bA).mono HB7.out.size)) (Nat.le_trans HB7.out.size (by simp)) hO.out (Nat.le_refl _) rfl hg8.out);clear ho8 hg8 hO hSL h1 hBD HO6 HB7 m2 hw2 q1 hpb;go_wp2;go_roundg (k1-1)
     case measure=>have:=HIN.out;omega
     case rel=>exact⟨i+1,A8,n+7+1,c8,a2++[P2],N,by have:=HIN.out;omega,by have:=HIN.out;omega,by first|go_num|(rw[IntWalk.wrap64_in _ (by have h1_:=HIN.out;have h2_:=HTN.out;omega)];go_num),rfl,rfl,HNB,zq (by have:=HN7.out;omega),HO8,HGO,HB8⟩
    ·have q1:((i:Int)==0)=false:=by simp;omega
     have q2: ¬(i:Int)=0:=by omega
     have HGO:=zq (show R=lkJ a2 (qa9 t m u N (decide (i+1=0)) (tl.drop (i+1)))from by rw[HGO.out,if_neg (by rw[decide_eq_false z];decide),decide_eq_false (show¬i+1=0 by omega),List.append_nil]);clear z;go_wp2;go_roundg (k1-1)
     case measure=>have:=HIN.out;omega
     case rel=>exact⟨i+1,X3,n+7,x3,a2,N,by have:=HIN.out;omega,by have:=HIN.out;omega,by first|go_num|(rw[IntWalk.wrap64_in _ (by have h1_:=HIN.out;have h2_:=HTN.out;omega)];go_num),rfl,rfl,HNB,zq (by have:=HN7.out;omega),HO6,HGO,HB7⟩
end
section
open Go.RowKit
def qgq (P:Program):List Oper->Act->World->Option (Act×World)
 |[],a,w=>some (a,w)
 |o::l,a,w=>match o.guard with
  |some _=>none
  |none=>match (execOp a.eval o).run P w with
   | .ok (.value v) w'=>qgq P l (a.put o.dst v) w'
   |_=>none
theorem qc2 {P:Program}{ops:Array Oper}{Q:Exit->Act->World->Prop}: ∀(l:List Oper) (a:Act) (w:World) (a':Act) (w':World),
  qgq P l a w=some (a',w')->wpList P ops Q [] a' w'->wpList P ops Q l a w
 |[],a,w,a',w',h,k=>by
  simp only[qgq,Option.some.injEq,Prod.mk.injEq]at h;obtain⟨rfl,rfl⟩:=h;exact k
 |o::l,a,w,a',w',h,k=>by
  unfold qgq at h;split at h
  ·cases h
  ·rename_i hg
   split at h
   ·rename_i v w1 hr
    exact Great.wpList_runTo hg o.dst rfl v w1 hr (qc2 l _ _ a' w' h k)
   ·cases h
theorem calls_runSlot {P:Program}{f:FuncId}{fn:Func}{id1 id2:Nat}{ops1 ops2:Array Oper}{s:Tmp}{args:Array Value}{w:World}{R:Ending->World->Prop}(hf:P.funcs[f]?=some fn)
  (hb:fn.body=some ((Code.region id1 ops1 false).seq ((Code.region id2 ops2 false).seq .ret))) (hr:fn.results=#[.tmp s]) (v:Value) (w':World)
  (h:((qgq P ops1.toList {tmps:=args++Array.replicate (fn.ntmps-args.size) undef,defers:=[]} w).bind fun x=>qgq P ops2.toList x.1 x.2).map (fun x=>(x.1.tmps.getD s undef,x.1.defers,x.2))=some (v,[],w'))
  (k:R (.returned v) w'):Calls P f args w R:=by
 obtain⟨⟨a2,w2⟩,h0,h2⟩:=Option.map_eq_some_iff.1 h;obtain⟨⟨a1,w1⟩,h1,h3⟩:=Option.bind_eq_some_iff.1 h0;simp only[Prod.mk.injEq]at h2;obtain⟨e1,e2,rfl⟩:=h2;refine calls_of_wp hf hb (wp_seq (wp_region_list ?_));refine qc2 ops1.toList _ w a1 w1 h1 (wpList_nil ?_);refine wp_seq (wp_region_list ?_);refine qc2 ops2.toList a1 w1 a2 w2 h3 (wpList_nil ?_);refine wp_ret (bodyPost_ret (results_tmp hr _ _ _) e2 ?_);rw[e1];exact k
end
section
open Go.RowKit
def rowOf (r:VRow):List Value:=[.string r.name,.int .i64 ((r.width:Nat):Int),.int .i64 r.most,.int .i64 r.special]
def qdB:Array Value:=(vrows.flatMap rowOf).toArray
theorem table_any (w:World):
  Calls Tryz.prog 215 #[] w fun e w'=> ∃g,e= .returned (.slice (some ⟨g,0,none⟩) 96 96)/\w.heap.size<=g/\Has w' g 232 qdB/\Below w.heap.size w w':=by
 refine calls_runSlot Tryz.func215 rfl rfl (.slice (some ⟨w.heap.size,0,none⟩) 96 96) (w.alloc (.cells qdB 232)) (by kernel_rfl) ?_;exact⟨_,rfl,Nat.le_refl _,Has.made _ _ _,bA⟩
end
section
open Go.RowKit
theorem flat_at02 {l:List VRow}: ∀(i:Nat) (r:VRow),l[i]?=some r-> ∀(j:Nat) (u:Value),(rowOf r)[j]?=some u->(l.flatMap rowOf)[i*4+j]?=some u:=by
 induction l with
 |nil=>intro i r h;simp at h
 |cons x l ih=>
  intro i r h j u hj;have hx:(rowOf x).length=4:=rfl;have hj4:j<4:=by
   have:=(List.getElem?_eq_some_iff.1 hj).1;exact this
  rw[List.flatMap_cons]
  cases i with
  |zero=>
   simp only[List.getElem?_cons_zero,Option.some.injEq]at h;subst h;rw[List.getElem?_append_left (by omega),Nat.zero_mul,Nat.zero_add];exact hj
  |succ i=>
   rw[List.getElem?_append_right (by omega),hx,show(i+1)*4+j-4=i*4+j by omega];exact ih i r (by simpa using h) j u hj
theorem qfB (i:Nat)(hi:i<96)(j:Nat)(u:Value)(hj:(rowOf (vrows.getD i vnone))[j]?=some u):qdB[i*4+j]?=some u:=by
 have hl:=qbY;simp only[qdB,List.getElem?_toArray];refine flat_at02 i _ ?_ j u hj;rw[List.getElem?_eq_getElem (by omega)];simp[List.getD_eq_getElem?_getD,List.getElem?_eq_getElem (show i<vrows.length by omega)]
theorem qci {P:Program}{fn:Func}{p u:Tmp}{ty:TypeId}(h:fn.results=#[.cell p ty,.tmp u])(tmps:Array Value)(w:World)(g:Nat)(t:TypeId)(cs:Array Value)(d:TypeDesc)
  (hp:tmps.getD p undef= .pointer (some ⟨g,0,none⟩)) (hg:w.heap[g]?=some (.cells cs t (0,0)))
  (hu:P.underlying ty=some d) (hd:(match d with| .struct _| .array _ _=>true|_=>false)=true) (hi:(P.info? ty).map (·.size)=some cs.size):
  (results fn tmps).run P w= .ok (.tuple #[.agg cs,tmps.getD u undef]) w:=by
 rw[results_cell_tmp h,hp];simp[asAddr,run_loadVar_row w g t ty cs (0,0) d hg hu hd hi]
theorem vget_any (v:Int)(w:World):
  Calls Tryz.prog 187 #[.int .i64 v] w fun e w'=>e= .returned (.tuple #[.agg (rowOf (vrow v)).toArray,.bool (decide (0<=v/\v<96))])/\Below w.heap.size w w':=by
 have ht:=fun w=>table_any w;have HT:=zq ht;clear ht;by_cases h:0<=v/\v<96
 ·have hr:=qfB v.toNat (by omega)
  rw[decide_eq_true h,qeI h];generalize vrows.getD v.toNat vnone=R at*;generalize qdB=C at*;obtain⟨h0,h1⟩:=h;have HR:=zq hr;clear hr;go_enter Tryz.func187,Tryz.ntmps187;go_wp2_with fail;refine(HT.out _).mono ?_;rintro e w' ⟨g,rfl,hg,hh,hb⟩;have hz:w'.heap[w.heap.size]?=some (.cells #[.string ByteArray.empty,.int .i64 0,.int .i64 0,.int .i64 0] 232 (0,0)):=(Has.made w 232 _).under hb (by simp);have HZ:=zq hz;have HB:=zq (((Below.refl w.heap.size w).alloc (Nat.le_refl _) _).trans (hb.mono (by simp)));have hne:w.heap.size≠g:=by simp at hg;omega
  have c0:w'.cell? ⟨g,v.toNat*4,none⟩=some (.string R.name):=by rw[hh.cell];exact HR.out 0 _ rfl
  have c1:w'.cell? ⟨g,v.toNat*4+1,none⟩=some (.int .i64 ((R.width:Nat):Int)):=by rw[hh.cell];exact HR.out 1 _ rfl
  have c2:w'.cell? ⟨g,v.toNat*4+2,none⟩=some (.int .i64 R.most):=by rw[hh.cell];exact HR.out 2 _ rfl
  have c3:w'.cell? ⟨g,v.toNat*4+3,none⟩=some (.int .i64 R.special):=by rw[hh.cell];exact HR.out 3 _ rfl
  clear hz hb hh hg;go_wp2_with (with_reducible refine wpList_store_rowTo (o:=⟨none,_,_,_,_,_⟩) rfl 232 _ _ rfl rfl w.heap.size #[.string R.name,.int .i64 ((R.width:Nat):Int),.int .i64 R.most,.int .i64 R.special] rfl rfl 232 _ HZ.out (by kernel_rfl) (by kernel_rfl) (by kernel_rfl) ?_);refine bodyPost_ret (qci rfl _ _ w.heap.size 232 #[.string R.name,.int .i64 ((R.width:Nat):Int),.int .i64 R.most,.int .i64 R.special] _ rfl (setRow_heap _ _ _ _ _ _ HZ.out) Tryz.underlying232 rfl (by kernel_rfl)) rfl ?_;exact⟨rfl,qac HB.out (Nat.le_refl _) _⟩
 ·rw[decide_eq_false h,qep h]
  have H:=zq h;clear h;go_enter Tryz.func187,Tryz.ntmps187;go_wp2_with fail;refine(HT.out _).mono ?_;rintro e w' ⟨g,rfl,hg,hh,hb⟩;have hz:w'.heap[w.heap.size]?=some (.cells #[.string ByteArray.empty,.int .i64 0,.int .i64 0,.int .i64 0] 232 (0,0)):=(Has.made w 232 _).under hb (by simp);have HZ:=zq hz;have HB:=zq (((Below.refl w.heap.size w).alloc (Nat.le_refl _) _).trans (hb.mono (by simp)));clear hz hb hh hg;obtain h1|h1:v<0\/(¬v<0/\96<=v):=by have:=H.out;omega
  ·go_wp2_with (with_reducible refine wpList_store_rowTo (o:=⟨none,_,_,_,_,_⟩) rfl 232 _ _ rfl rfl w.heap.size #[.string ByteArray.empty,.int .i64 0,.int .i64 0,.int .i64 0] rfl rfl 232 _ HZ.out (by kernel_rfl) (by kernel_rfl) (by kernel_rfl) ?_)
   refine bodyPost_ret (qci rfl _ _ w.heap.size 232 #[.string ByteArray.empty,.int .i64 0,.int .i64 0,.int .i64 0] _ rfl (setRow_heap _ _ _ _ _ _ HZ.out) Tryz.underlying232 rfl (by kernel_rfl)) rfl ?_;exact⟨rfl,qac HB.out (Nat.le_refl _) _⟩
  ·obtain⟨h1,h2⟩:=h1
   go_wp2_with (with_reducible refine wpList_store_rowTo (o:=⟨none,_,_,_,_,_⟩) rfl 232 _ _ rfl rfl w.heap.size #[.string ByteArray.empty,.int .i64 0,.int .i64 0,.int .i64 0] rfl rfl 232 _ HZ.out (by kernel_rfl) (by kernel_rfl) (by kernel_rfl) ?_);refine bodyPost_ret (qci rfl _ _ w.heap.size 232 #[.string ByteArray.empty,.int .i64 0,.int .i64 0,.int .i64 0] _ rfl (setRow_heap _ _ _ _ _ _ HZ.out) Tryz.underlying232 rfl (by kernel_rfl)) rfl ?_;exact⟨rfl,qac HB.out (Nat.le_refl _) _⟩
end
section
open Go.RowKit
theorem get_row (v:Int)(w:World)(R:VRow)(hR:vrow v=R):
  Calls Tryz.prog 187 #[.int .i64 v] w fun e w'=>e= .returned (.tuple #[.agg #[.string R.name,.int .i64 ((R.width:Nat):Int),.int .i64 R.most,.int .i64 R.special],.bool (decide (0<=v/\v<96))])/\Below w.heap.size w w':=by
 subst hR;exact vget_any v w
theorem ref_width (v:Int)(w:World):
  Calls Tryz.prog 132 #[.int .i64 v] w fun e w'=>e= .returned (.int .i64 ((qak v:Nat):Int))/\Below w.heap.size w w':=by
 have hg:=fun w=>get_row v w _ rfl;rw[qak];generalize vrow v=R at*;have HG:=zq hg;clear hg;go_enter Tryz.func132,Tryz.ntmps132;go_wp2_with fail;refine(HG.out _).mono ?_;rintro e w' ⟨rfl,hb⟩;have HB:=zq (hb.alloc hb.size (.cells #[.string R.name,.int .i64 ((R.width:Nat):Int),.int .i64 R.most,.int .i64 R.special] 232));clear hb;go_wp2;go_ret
 exact⟨rfl,HB.out⟩
end
section
open Go.RowKit
theorem ref_find (s:ByteArray)(w:World):
  Calls Tryz.prog 189 #[.string s] w fun e w'=>e= .returned (.int .i64 (findOf s))/\Below w.heap.size w w':=by
 have hc:=fun i h=>qfB i h 0 _ rfl;have ht:=table_any w;generalize qdB=C at*;have HC:=zq hc;have HT:=zq ht;clear hc ht;go_enter Tryz.func189,Tryz.ntmps189;go_wp2_with fail;refine HT.out.mono ?_;rintro e w' ⟨g,rfl,hg,hh,hb⟩;have HB:=zq hb;have HH:=zq hh;clear hb hh hg;go_wp2_with fail;go_loop [4] (fun i=> ∃k:Nat,k<=96/\i= .int .i64 k/\findOf s=qd1 s (vrows.drop k) k) (fun i=>96-(intOf i).toNat)
 case atStart=>exact⟨0,by omega,rfl,rfl⟩
 obtain⟨k,hk,rfl,hf⟩:=hrel;by_cases hlt:k<96
 ·have hd:vrows.drop k=vrows.getD k vnone::vrows.drop (k+1):=by
   have hl:=qbY;rw[List.drop_eq_getElem_cons (by omega)];simp[List.getD_eq_getElem?_getD,List.getElem?_eq_getElem (show k<vrows.length by omega)]
  have hi:w'.cell? ⟨g,k*4,none⟩=some (.string (vrows.getD k vnone).name):=by rw[HH.out.cell];exact HC.out k hlt
  rw[hd,qd1]at hf;clear hd;generalize (vrows.getD k vnone).name=S at*;have HF:=zq hf;clear hf;by_cases hs:S=s
  ·have hs1:(S.toList==s.toList)=true:=by rw[qby];simp[hs]
   go_wp2;go_ret
   have:=HF.out;rw[if_pos hs]at this;rw[this];exact⟨rfl,HB.out⟩
  ·have hs1:(S.toList==s.toList)=false:=by rw[qby];simp[hs]
   go_wp2;go_round
   case rel=>exact⟨k+1,by omega,by go_num,by have:=HF.out;rw[if_neg hs]at this;exact this⟩
   case measure=>simp[intOf];omega
 ·have hf2:findOf s= -1:=by rw[hf,List.drop_eq_nil_of_le (by rw[qbY];omega),qd1]
  have HF:=zq hf2;clear hf hf2;go_wp2;go_ret
  rw[HF.out];exact⟨rfl,HB.out⟩
end
section
open Go.RowKit
inductive Nd where
 |v (n:Nat)
 |g (k:Nat) (body:List Nd)
def openW (k:Nat):ByteArray:=if k=0 then⟨#[123]⟩else if k=1 then⟨#[60]⟩else⟨#[40,49,50]⟩
def qbb (k:Nat):ByteArray:=if k=0 then⟨#[125]⟩else⟨#[62]⟩
def nameV (n:Nat):ByteArray:=(vrows.getD n vnone).name
mutual
def qa7:Nd->List ByteArray
 | .v n=>[nameV n]
 | .g k b=>openW k::(qai b++[qbb k])
def qai:List Nd->List ByteArray
 |[]=>[]
 |x::l=>qa7 x++qai l
end
def gram0:ByteArray:=⟨#[76,95,80,65,67,75,69,84,32,81,95,83,67,65,76,69,32,78,73,68,95,76,82,66,71,32,68,95,76,82,66,71,32,81,95,68,73,82,76,82,66,71,32,81,95,68,76,82,66,71,32,76,95,68,79,85,66,84,79,86,69,82,32,76,95,68,79,85,66,84,85,78,68,69,82,32,81,95,76,69,78,71,84,72,32,40,49,50,32,76,95,84,82,65,73,78,73,78,84,32,62,32,86,95,84,82,65,73,78,32,81,95,68,73,82,84,82,65,73,78,32,77,95,77,79,68,69,32,77,95,76,69,86,69,76,32,60,32,78,73,68,95,78,84,67,32,62]⟩
def gram1:ByteArray:=⟨#[76,95,80,65,67,75,69,84,32,81,95,83,67,65,76,69,32,78,73,68,95,76,82,66,71,32,78,73,68,95,80,82,86,76,82,66,71,32,68,95,76,82,66,71,32,81,95,68,73,82,76,82,66,71,32,81,95,68,76,82,66,71,32,76,95,68,79,85,66,84,79,86,69,82,32,76,95,68,79,85,66,84,85,78,68,69,82,32,81,95,76,69,78,71,84,72,32,40,49,50,32,76,95,84,82,65,73,78,73,78,84,32,62,32,86,95,84,82,65,73,78,32,81,95,68,73,82,84,82,65,73,78,32,77,95,77,79,68,69,32,77,95,76,69,86,69,76,32,60,32,78,73,68,95,78,84,67,32,62]⟩
def gram3:ByteArray:=⟨#[81,95,68,73,82,32,76,95,80,65,67,75,69,84,32,81,95,83,67,65,76,69,32,68,95,86,65,76,73,68,78,86,32,78,95,73,84,69,82,32,123,32,78,73,68,95,67,32,125,32,86,95,78,86,83,72,85,78,84,32,77,95,78,86,67,79,78,84,65,67,84,32,84,95,78,86,67,79,78,84,65,67,84]⟩
def gram5:ByteArray:=⟨#[81,95,68,73,82,32,76,95,80,65,67,75,69,84,32,81,95,83,67,65,76,69,32,68,95,76,73,78,75,32,81,95,78,69,87,67,79,85,78,84,82,89,32,60,32,78,73,68,95,67,32,62,32,78,73,68,95,66,71,32,81,95,76,73,78,75,79,82,73,69,78,84,65,84,73,79,78,32,81,95,76,73,78,75,82,69,65,67,84,73,79,78,32,81,95,76,79,67,65,67,67,32,78,95,73,84,69,82,32,123,32,68,95,76,73,78,75,32,81,95,78,69,87,67,79,85,78,84,82,89,32,60,32,78,73,68,95,67,32,62,32,78,73,68,95,66,71,32,81,95,76,73,78,75,79,82,73,69,78,84,65,84,73,79,78,32,81,95,76,73,78,75,82,69,65,67,84,73,79,78,32,81,95,76,79,67,65,67,67,32,125]⟩
def gram11:ByteArray:=⟨#[76,95,80,65,67,75,69,84,32,78,73,68,95,79,80,69,82,65,84,73,79,78,65,76,32,78,67,95,84,82,65,73,78,32,76,95,84,82,65,73,78,32,86,95,77,65,88,84,82,65,73,78,32,77,95,76,79,65,68,73,78,71,71,65,85,71,69,32,77,95,65,88,76,69,76,79,65,68,32,77,95,65,73,82,84,73,71,72,84,32,78,95,73,84,69,82,32,123,32,77,95,84,82,65,67,84,73,79,78,32,125,32,78,95,73,84,69,82,32,123,32,78,73,68,95,83,84,77,32,125]⟩
def gram15:ByteArray:=⟨#[81,95,68,73,82,32,76,95,80,65,67,75,69,84,32,81,95,83,67,65,76,69,32,86,95,69,77,65,32,84,95,69,77,65,32,78,95,73,84,69,82,32,123,32,76,95,83,69,67,84,73,79,78,32,81,95,83,69,67,84,73,79,78,84,73,77,69,82,32,60,32,84,95,83,69,67,84,73,79,78,84,73,77,69,82,32,68,95,83,69,67,84,73,79,78,84,73,77,69,82,83,84,79,80,76,79,67,32,62,32,125,32,76,95,69,78,68,83,69,67,84,73,79,78,32,81,95,83,69,67,84,73,79,78,84,73,77,69,82,32,60,32,84,95,83,69,67,84,73,79,78,84,73,77,69,82,32,68,95,83,69,67,84,73,79,78,84,73,77,69,82,83,84,79,80,76,79,67,32,62,32,81,95,69,78,68,84,73,77,69,82,32,60,32,84,95,69,78,68,84,73,77,69,82,32,68,95,69,78,68,84,73,77,69,82,83,84,65,82,84,76,79,67,32,62,32,81,95,68,65,78,71,69,82,80,79,73,78,84,32,60,32,68,95,68,80,32,86,95,82,69,76,69,65,83,69,68,80,32,62,32,81,95,79,86,69,82,76,65,80,32,60,32,68,95,83,84,65,82,84,79,76,32,84,95,79,76,32,68,95,79,76,32,86,95,82,69,76,69,65,83,69,79,76,32,62]⟩
def gram21:ByteArray:=⟨#[81,95,68,73,82,32,76,95,80,65,67,75,69,84,32,81,95,83,67,65,76,69,32,68,95,71,82,65,68,73,69,78,84,32,81,95,71,68,73,82,32,71,95,65,32,78,95,73,84,69,82,32,123,32,68,95,71,82,65,68,73,69,78,84,32,81,95,71,68,73,82,32,71,95,65,32,125]⟩
def gram27:ByteArray:=⟨#[81,95,68,73,82,32,76,95,80,65,67,75,69,84,32,81,95,83,67,65,76,69,32,68,95,83,84,65,84,73,67,32,86,95,83,84,65,84,73,67,32,81,95,70,82,79,78,84,32,78,95,73,84,69,82,32,123,32,78,67,95,68,73,70,70,32,86,95,68,73,70,70,32,125,32,78,95,73,84,69,82,32,123,32,68,95,83,84,65,84,73,67,32,86,95,83,84,65,84,73,67,32,81,95,70,82,79,78,84,32,78,95,73,84,69,82,32,123,32,78,67,95,68,73,70,70,32,86,95,68,73,70,70,32,125,32,125]⟩
def gram42:ByteArray:=⟨#[81,95,68,73,82,32,76,95,80,65,67,75,69,84,32,81,95,82,66,67,32,78,73,68,95,67,32,78,73,68,95,82,66,67,32,78,73,68,95,82,65,68,73,79,32,78,73,68,95,82,65,68,73,79,32,81,95,83,76,69,69,80,83,69,83,83,73,79,78]⟩
def gram57:ByteArray:=⟨#[81,95,68,73,82,32,76,95,80,65,67,75,69,84,32,84,95,77,65,82,32,84,95,84,73,77,69,79,85,84,82,81,83,84,32,84,95,67,89,67,82,81,83,84]⟩
def gram58:ByteArray:=⟨#[81,95,68,73,82,32,76,95,80,65,67,75,69,84,32,81,95,83,67,65,76,69,32,84,95,67,89,67,76,79,67,32,68,95,67,89,67,76,79,67,32,77,95,76,79,67,32,78,95,73,84,69,82,32,123,32,68,95,76,79,67,32,81,95,76,71,84,76,79,67,32,125]⟩
def gram80:ByteArray:=⟨#[81,95,68,73,82,32,76,95,80,65,67,75,69,84,32,81,95,83,67,65,76,69,32,68,95,77,65,77,79,68,69,32,77,95,77,65,77,79,68,69,32,86,95,77,65,77,79,68,69,32,76,95,77,65,77,79,68,69,32,76,95,65,67,75,77,65,77,79,68,69,32,81,95,77,65,77,79,68,69,32,78,95,73,84,69,82,32,123,32,68,95,77,65,77,79,68,69,32,77,95,77,65,77,79,68,69,32,86,95,77,65,77,79,68,69,32,76,95,77,65,77,79,68,69,32,76,95,65,67,75,77,65,77,79,68,69,32,81,95,77,65,77,79,68,69,32,125]⟩
def qco (id:Int):ByteArray:=
 if id=0 then gram0 else if id=1 then gram1 else if id=3 then gram3 else if id=5 then gram5 else if id=11 then gram11 else if id=15 then gram15 else if id=21 then gram21 else if id=27 then gram27 else if id=42 then gram42 else if id=57 then gram57 else if id=58 then gram58 else if id=80 then gram80 else⟨#[]⟩
def ast0:List Nd:=[.v 7,.v 8,.v 4,.v 13,.v 14,.v 15,.v 16,.v 17,.v 18,.g 2 [.v 19],.v 20,.v 21,.v 22,.v 23,.g 1 [.v 24]]
def ast1:List Nd:=[.v 7,.v 8,.v 4,.v 74,.v 13,.v 14,.v 15,.v 16,.v 17,.v 18,.g 2 [.v 19],.v 20,.v 21,.v 22,.v 23,.g 1 [.v 24]]
def ast3:List Nd:=[.v 6,.v 7,.v 8,.v 84,.v 27,.g 0 [.v 10],.v 85,.v 87,.v 86]
def ast5:List Nd:=[.v 6,.v 7,.v 8,.v 44,.v 12,.g 1 [.v 10],.v 11,.v 45,.v 46,.v 47,.v 27,.g 0 [.v 44,.v 12,.g 1 [.v 10],.v 11,.v 45,.v 46,.v 47]]
def ast11:List Nd:=[.v 7,.v 75,.v 76,.v 77,.v 78,.v 79,.v 80,.v 81,.v 27,.g 0 [.v 82],.v 27,.g 0 [.v 83]]
def ast15:List Nd:=[.v 6,.v 7,.v 8,.v 25,.v 26,.v 27,.g 0 [.v 28,.v 29,.g 1 [.v 30,.v 31]],.v 32,.v 29,.g 1 [.v 30,.v 31],.v 33,.g 1 [.v 34,.v 35],.v 36,.g 1 [.v 37,.v 38],.v 39,.g 1 [.v 40,.v 41,.v 42,.v 43]]
def ast21:List Nd:=[.v 6,.v 7,.v 8,.v 48,.v 49,.v 50,.v 27,.g 0 [.v 48,.v 49,.v 50]]
def ast27:List Nd:=[.v 6,.v 7,.v 8,.v 51,.v 52,.v 53,.v 27,.g 0 [.v 54,.v 55],.v 27,.g 0 [.v 51,.v 52,.v 53,.v 27,.g 0 [.v 54,.v 55]]]
def ast42:List Nd:=[.v 6,.v 7,.v 62,.v 10,.v 63,.v 64,.v 64,.v 65]
def ast57:List Nd:=[.v 6,.v 7,.v 66,.v 67,.v 68]
def ast58:List Nd:=[.v 6,.v 7,.v 8,.v 69,.v 70,.v 71,.v 27,.g 0 [.v 72,.v 73]]
def ast80:List Nd:=[.v 6,.v 7,.v 8,.v 56,.v 57,.v 58,.v 59,.v 60,.v 61,.v 27,.g 0 [.v 56,.v 57,.v 58,.v 59,.v 60,.v 61]]
def astOf (id:Int):List Nd:=
 if id=0 then ast0 else if id=1 then ast1 else if id=3 then ast3 else if id=5 then ast5 else if id=11 then ast11 else if id=15 then ast15 else if id=21 then ast21 else if id=27 then ast27 else if id=42 then ast42 else if id=57 then ast57 else if id=58 then ast58 else if id=80 then ast80 else[]
def qbA (id:Int):Bool:=decide (id=0)||decide (id=1)||decide (id=3)||decide (id=5)||decide (id=11)||decide (id=15)||decide (id=21)||decide (id=27)||decide (id=42)||decide (id=57)||decide (id=58)||decide (id=80)
def wstep (s:ByteArray):Nat->List ByteArray×Nat
 |0=>([],0)
 |j+1=>if j=s.size\/s.data.getD j 0=32 then(if(wstep s j).2<j then(wstep s j).1++[s.extract (wstep s j).2 j]else(wstep s j).1,j+1)else wstep s j
def qbe (s:ByteArray):List ByteArray:=(wstep s (s.size+1)).1
theorem words0:qbe gram0=qai ast0:=by kernel_rfl
theorem words1:qbe gram1=qai ast1:=by kernel_rfl
theorem words3:qbe gram3=qai ast3:=by kernel_rfl
theorem words5:qbe gram5=qai ast5:=by kernel_rfl
theorem words11:qbe gram11=qai ast11:=by kernel_rfl
theorem words15:qbe gram15=qai ast15:=by kernel_rfl
theorem words21:qbe gram21=qai ast21:=by kernel_rfl
theorem words27:qbe gram27=qai ast27:=by kernel_rfl
theorem words42:qbe gram42=qai ast42:=by kernel_rfl
theorem words57:qbe gram57=qai ast57:=by kernel_rfl
theorem words58:qbe gram58=qai ast58:=by kernel_rfl
theorem words80:qbe gram80=qai ast80:=by kernel_rfl
theorem qfh (id:Int)(w:World):
  Calls Tryz.prog 135 #[.int .i64 id] w fun e w'=>e= .returned (.string (qco id))/\w=w':=by
 by_cases h:id=0\/id=1\/id=3\/id=5\/id=11\/id=15\/id=21\/id=27\/id=42\/id=57\/id=58\/id=80
 ·rcases h with rfl|rfl|rfl|rfl|rfl|rfl|rfl|rfl|rfl|rfl|rfl|rfl
  all_goals
   go_enter Tryz.func135,Tryz.ntmps135;go_wp2;go_ret
   exact⟨by kernel_rfl,rfl⟩
 ·have e:qco id=⟨#[]⟩:=by
   unfold qco;rw[if_neg (fun k=>h (by omega))];rw[if_neg (fun k=>h (by omega))];rw[if_neg (fun k=>h (by omega))];rw[if_neg (fun k=>h (by omega))];rw[if_neg (fun k=>h (by omega))];rw[if_neg (fun k=>h (by omega))];rw[if_neg (fun k=>h (by omega))];rw[if_neg (fun k=>h (by omega))];rw[if_neg (fun k=>h (by omega))];rw[if_neg (fun k=>h (by omega))];rw[if_neg (fun k=>h (by omega))];rw[if_neg (fun k=>h (by omega))]
  rw[e];obtain⟨h0,h1,h3,h5,h11,h15,h21,h27,h42,h57,h58,h80⟩:id≠0/\id≠1/\id≠3/\id≠5/\id≠11/\id≠15/\id≠21/\id≠27/\id≠42/\id≠57/\id≠58/\id≠80:=by omega
  clear h e;go_enter Tryz.func135,Tryz.ntmps135;go_wp2;go_ret
  exact⟨rfl,rfl⟩
end
section
open Go.RowKit
def strs (l:List ByteArray):List Value:=l.map .string
theorem qfH (l:List ByteArray):(strs l).length=l.length:=by simp[strs]
theorem info_str:(Tryz.prog.info? 9).map (fun i=>(i.zero,i.size,i.bytes))=some (some (.string ⟨#[]⟩),1,16):=by kernel_rfl
abbrev OwS (base:Nat)(w:World)(A:Option Addr)(m c:Nat)(l:List ByteArray):Prop:=w.ownsRow base 9 1 (.slice A m c) m (strs l)
theorem wstep_le (s:ByteArray): ∀j,(wstep s j).2<=j/\(wstep s j).1.length<=j
 |0=>⟨Nat.le_refl _,Nat.le_refl _⟩
 |j+1=>by
  have h:=wstep_le s j;rw[wstep];split
  ·refine⟨Nat.le_refl _,?_⟩
   show(if _ then _ else _:List ByteArray).length<=_
   split
   ·rw[List.length_append,List.length_singleton];omega
   ·omega
  ·omega
theorem data_at (s:ByteArray)(j:Nat)(h:j<s.size):s.data.getD j 0=s[j]'h:=by
 have h2:j<s.data.size:=h;rw[Array.getD_eq_getD_getElem?,Array.getElem?_eq_getElem h2];rfl
theorem push_str {base:Nat}{w0 w:World}{A:Option Addr}{m c:Nat}{l:List ByteArray}(x:ByteArray)(ho:OwS base w A m c l)(hb:Below base w0 w)(hbase:base<=w.heap.size)(hm:m<=1048576):
  Hid (([.string x]:List Value).length=1*1)/\Hid ((w.alloc (.cells #[.string x] 9)).ownsRow base 9 1 (.slice A m c) m (strs l))/\
  Hid (∀i u,([.string x]:List Value)[i]?=some u->(w.alloc (.cells #[.string x] 9)).cell? ((⟨w.heap.size,0,none⟩:Addr).add i)=some u)/\
  Hid (∀u∈([.string x]:List Value),u.oneCell'=true)/\
  Hid (m+1<=maxLen/\(m+1)*16<=140737488355328/\base<=(w.alloc (.cells #[.string x] 9)).heap.size)/\
  Hid (Below base w0 (w.alloc (.cells #[.string x] 9))):=by
 refine⟨zq rfl,zq (ho.alloc _),zq ?_,zq ?_,zq ⟨by unfold maxLen;omega,by omega,by simp;omega⟩,zq (hb.alloc hbase _)⟩
 ·intro i u hu
  rw[WideShapes.add_plain,(Has.made w 9 #[.string x]).cell,Nat.zero_add]
  simpa using hu
 ·intro u hu
  simp only[List.mem_singleton]at hu;subst hu
  rfl
theorem run_cutstr {P:Program}(t:TypeId)(h:P.underlying t=some .string)(s:ByteArray)(f j:Nat)(h1:f<=j)(h2:j<=s.size)(w:World):
  (Instr.sliceAt t (.string s) (some (.int .i64 (f:Nat))) (some (.int .i64 (j:Nat))) none).run P w= .ok (.string (s.extract f j)) w:=by
 have a0:(0:Int)<=(f:Nat):=by omega
 have a1:((f:Nat):Int)<=(j:Nat):=by omega
 have a2:(0:Int)<=(j:Nat):=by omega
 have a3:((j:Nat):Int)<=(s.size:Nat):=by omega
 simp[Instr.sliceAt,Instr.slice,run_underlying h,Instr.sliceBounds,run_sliceBound,a0,a1,a2,a3]
theorem wstep_end {s:ByteArray}{j:Nat}(h:j=s.size\/s.data.getD j 0=32):wstep s (j+1)=(if(wstep s j).2<j then(wstep s j).1++[s.extract (wstep s j).2 j]else(wstep s j).1,j+1):=by rw[wstep,if_pos h]
theorem wstep_in {s:ByteArray}{j:Nat}(h: ¬(j=s.size\/s.data.getD j 0=32)):wstep s (j+1)=wstep s j:=by rw[wstep,if_neg h]
theorem words_any (s:ByteArray)(hs:s.size<=65536)(w:World):
  Calls Tryz.prog 134 #[.string s] w fun e w'=> ∃A c,e= .returned (.slice A (qbe s).length c)/\OwS w.heap.size w' A (qbe s).length c (qbe s)/\Below w.heap.size w w':=by
 obtain⟨M,hM⟩:=geZ (qbe s);rw[hM];have HM:=zq hM;clear hM;have HO0:Hid (OwS w.heap.size w none 0 0 []):=zq (World.ownsRow_nil w w.heap.size 9 1);go_enter Tryz.func134,Tryz.ntmps134;go_wp2;go_loopg [3,4,5] (s.size+1) (fun kk v f i wl=> ∃(j:Nat) (A2:Option Addr) (c2:Nat),j<=s.size+1/\s.size+1-j<=kk/\i= .int .i64 j/\f= .int .i64 ((wstep s j).2:Nat)/\v= .slice A2 (wstep s j).1.length c2/\OwS w.heap.size wl A2 (wstep s j).1.length c2 (wstep s j).1/\Below w.heap.size w wl)
 case atStart=>exact⟨0,none,0,by omega,by omega,rfl,rfl,rfl,HO0.out,Below.refl _ _⟩
 obtain⟨j,A2,c2,hj,hjk,rfl,rfl,rfl,ho,hb⟩:=hrel;have HO:=zq ho;have HB:=zq hb;clear ho hb;by_cases hlt:j<s.size+1
 ·have hle:=wstep_le s j
  by_cases hend:j=s.size\/s.data.getD j 0=32
  ·have hst:=wstep_end hend
   obtain⟨P,hP⟩:=geZ (wstep s j);rw[hP]at hst HO hle⊢;obtain⟨K,f⟩:=P;simp only at HO hle hst⊢;by_cases he:j=s.size
   ·subst he
    have h1:((s.size:Int)==(s.size:Int))=true:=by simp
    by_cases hf:f<s.size
    ·have x2:(f:Int)<s.size:=by omega
     have y0:(0:Int)<=f:=by omega
     have y1:(f:Int)<=s.size:=by omega
     have y2:(s.size:Int)<=s.size:=by omega
     rw[if_pos hf]at hst;obtain⟨hN,hO3,hC,h1c,hBD,hB3⟩:=push_str (s.extract f s.size) HO.out HB.out HB.out.size (by omega);go_wp2_with (with_reducible refine qaZ (o:=⟨some 31,_,_,_,_,_⟩) rfl (.tmp 25) (.tmp 30) 190 rfl w.heap.size 9 (.string ⟨#[]⟩) 1 16 Tryz.underlying190 info_str ?hz (by decide) A2 K.length c2 (strs K) ?hs hO3 ⟨wr.heap.size,0,none⟩ 1 1 [.string (s.extract f s.size)] ?hx hN hC h1c hBD ?next);intro A4 c4 w4 ho4 hg4;go_wp2;go_roundg (gk-1)
     case measure=>omega
     case rel=>
      refine⟨s.size+1,A4,c4,by omega,by omega,by go_num,by rw[hst];go_num,by rw[hst];simp,?_,qas hB3.out hBD.out.2.2 hO3.out (Nat.le_refl _) rfl hg4.out⟩;rw[hst];have:=ho4.out
      simpa[OwS,strs]using this
    ·have x2: ¬(f:Int)<s.size:=by omega
     rw[if_neg hf]at hst;go_wp2;go_roundg (gk-1)
     case measure=>omega
     case rel=>exact⟨s.size+1,A2,c2,by omega,by omega,by go_num,by rw[hst];go_num,by rw[hst],by rw[hst];exact HO.out,HB.out⟩
   ·have h1:((j:Int)==(s.size:Int))=false:=by rw[beq_eq_false_iff_ne];omega
    have x0:(0:Int)<=j:=by omega
    have x1:(j:Int)<s.size:=by omega
    have hj1:j<s.size:=by omega
    have h2:(((s[j]'hj1).toNat:Int)==32)=true:=by
     have h3:=hend.resolve_left he;rw[data_at s j hj1]at h3;rw[h3];rfl
    by_cases hf:f<j
    ·have x2:(f:Int)<j:=by omega
     have y0:(0:Int)<=f:=by omega
     have y1:(f:Int)<=j:=by omega
     have y2:(j:Int)<=s.size:=by omega
     rw[if_pos hf]at hst;have e1: ∀w,(Instr.sliceAt 9 (.string s) (some (.int .i64 (f:Nat))) (some (.int .i64 (j:Nat))) none).run Tryz.prog w= .ok (.string (s.extract f j)) w:=fun w=>run_cutstr _ Tryz.underlying9 s f j (by omega) (by omega) w;obtain⟨hN,hO3,hC,h1c,hBD,hB3⟩:=push_str (s.extract f j) HO.out HB.out HB.out.size (by omega);go_wp2_with (with_reducible refine qaZ (o:=⟨some 31,_,_,_,_,_⟩) rfl (.tmp 25) (.tmp 30) 190 rfl w.heap.size 9 (.string ⟨#[]⟩) 1 16 Tryz.underlying190 info_str ?hz2 (by decide) A2 K.length c2 (strs K) ?hs2 hO3 ⟨wr.heap.size,0,none⟩ 1 1 [.string (s.extract f j)] ?hx2 hN hC h1c hBD ?next2)
     all_goals try rfl
     intro A4 c4 w4 ho4 hg4;go_wp2;go_roundg (gk-1)
     case measure=>omega
     case rel=>
      refine⟨j+1,A4,c4,by omega,by omega,by go_num,by rw[hst];go_num,by rw[hst];simp,?_,qas hB3.out hBD.out.2.2 hO3.out (Nat.le_refl _) rfl hg4.out⟩;rw[hst];have:=ho4.out
      simpa[OwS,strs]using this
    ·have x2: ¬(f:Int)<j:=by omega
     rw[if_neg hf]at hst;go_wp2;go_roundg (gk-1)
     case measure=>omega
     case rel=>exact⟨j+1,A2,c2,by omega,by omega,by go_num,by rw[hst];go_num,by rw[hst],by rw[hst];exact HO.out,HB.out⟩
  ·have hst:=wstep_in hend
   obtain⟨P,hP⟩:=geZ (wstep s j);rw[hP]at hst HO hle⊢;obtain⟨K,f⟩:=P;simp only at HO hle⊢;have h1:((j:Int)==(s.size:Int))=false:=by rw[beq_eq_false_iff_ne];omega
   have x0:(0:Int)<=j:=by omega
   have x1:(j:Int)<s.size:=by omega
   have hj1:j<s.size:=by omega
   have h2:(((s[j]'hj1).toNat:Int)==32)=false:=by
    rw[beq_eq_false_iff_ne];intro h3;refine hend (.inr ?_);rw[data_at s j hj1];exact UInt8.toNat_inj.1 (by
                  have:(s[j]'hj1).toNat=32:=by omega
                  rw[this];rfl)
   go_wp2;go_roundg (gk-1)
   case measure=>omega
   case rel=>exact⟨j+1,A2,c2,by omega,by omega,by go_num,by rw[hst],by rw[hst],by rw[hst];exact HO.out,HB.out⟩
 ·obtain rfl:j=s.size+1:=by omega
  have hM:=HM.out;unfold qbe at hM;rw[hM]at HO⊢;go_wp2;go_ret
  exact⟨A2,c2,rfl,HO.out,HB.out⟩
theorem gram_ne (id:Int):decide (qco id≠⟨#[]⟩)=qbA id:=by
 unfold qbA;by_cases h:id=0\/id=1\/id=3\/id=5\/id=11\/id=15\/id=21\/id=27\/id=42\/id=57\/id=58\/id=80
 ·rcases h with rfl|rfl|rfl|rfl|rfl|rfl|rfl|rfl|rfl|rfl|rfl|rfl
  all_goals kernel_rfl
 ·have e:qco id=⟨#[]⟩:=by
   unfold qco
   iterate 12 rw[if_neg (fun k=>h (by omega))]
  rw[e,decide_eq_false (by simp)]
  symm
  simp only[Bool.or_eq_false_iff,decide_eq_false_iff_not];omega
theorem isEmpty_ne (s:ByteArray):s.toList.isEmpty=!decide (s≠⟨#[]⟩):=by
 have h:=qby s ⟨#[]⟩;rw[show(⟨#[]⟩:ByteArray).toList=[]from by kernel_rfl]at h;have e:s.toList.isEmpty=(s.toList==[]):=by cases s.toList<;>rfl
 rw[e,h,decide_not,Bool.not_not]
theorem known_any (id:Int)(w:World):
  Calls Tryz.prog 131 #[.int .i64 id] w fun e w'=>e= .returned (.bool (qbA id))/\w=w':=by
 have h:=gram_ne id;have c:=qfh id w;have h2:=isEmpty_ne (qco id);rw[h]at h2;generalize qco id=s at*;generalize qbA id=b at*;have C:=zq c;clear c h;go_enter Tryz.func131,Tryz.ntmps131;go_wp2_with fail;refine C.out.mono ?_;rintro e w' ⟨rfl,rfl⟩;go_wp2;go_ret
 exact⟨by cases b<;>simp_all,rfl⟩
end
end Go.Proofs.YtahadmeilajdgaaGreatDoor
