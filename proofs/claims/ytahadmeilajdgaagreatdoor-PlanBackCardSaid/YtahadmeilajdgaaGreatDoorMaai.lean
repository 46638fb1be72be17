/-
  Our own text, joined.
-/
import Derived.Test.YtahadmeilajdgaaGreatDoorMaah
import Derived.BigQuiet
import Derived.IntWalk
import Derived.Test.YtahadmeilajdgaaGreatDoorMaaa
import Derived.Test.YtahadmeilajdgaaGreatDoorMaae
import Derived.Test.YtahadmeilajdgaaGreatDoorRows
import Derived.WalkKit
import Derived.Great.Walk
import Derived.Laws.ResultCell
import Derived.Deep.LoopGhost
import Derived.Maps.AppendAt
import Derived.OwnWalk
import Derived.Deep.DeepCutAuto
import Derived.Deep.CutBlock
import Derived.Deep.QuietTactic
import Derived.Test.YtahadmeilajdgaaGreatDoorMaab
namespace Go.Proofs.YtahadmeilajdgaaGreatDoor
set_option maxRecDepth 100000
set_option maxHeartbeats 80000000
section
open Go.RowKit
open Go.Great
def lkJ (acc:List Int)(p:List Int×Int):List Int×Int:=if p.2≠0 then([],p.2)else(acc++p.1,0)
theorem links_nil17 (t:Tp3)(m:Ma3)(u last:Int)(fst:Bool)(r:List St3)(h:(linksV t m u last fst r).2≠0):(linksV t m u last fst r).1=[]:=by
 cases r with
 |nil=>exact absurd rfl h
 |cons s r=>
  rw[linksV]at h⊢
  cases hg:groupF t s.edge with
  |none=>rfl
  |some b=>
   rw[hg]at h;dsimp only at h⊢;split
   ·rfl
   ·split
    ·rfl
    ·rename_i h1 h2
     rw[if_neg h1,if_neg h2]at h;exact absurd rfl h
theorem lkJ_nil17 (t:Tp3)(m:Ma3)(u last:Int)(fst:Bool)(r:List St3):lkJ [] (linksV t m u last fst r)=linksV t m u last fst r:=by
 unfold lkJ;split
 ·rename_i h
  exact Prod.ext (links_nil17 _ _ _ _ _ _ h).symm rfl
 ·rename_i h
  exact Prod.ext (by simp) (by simpa using(Classical.not_not.1 h).symm)
theorem links_none17 {t:Tp3}{m:Ma3}{u last:Int}{fst:Bool}{l:List St3}{i:Nat}{s:St3}(acc:List Int)(h:l[i]?=some s)(hg:groupF t s.edge=none):lkJ acc (linksV t m u last fst (l.drop i))=([],1):=by
 rw[drop_at15 h,linksV,hg]
 rfl
theorem links_bad17 {t:Tp3}{m:Ma3}{u last N X E:Int}{fst:Bool}{l:List St3}{i:Nat}{s:St3}{b:Bl3}(acc:List Int)(h:l[i]?=some s)(hg:groupF t s.edge=some b)(hN:(onE t m.path ⟨b.edge,b.at_,s.rev⟩).1=N)(hS:scaledOf (N-last) u false=(X,E))(hE:E≠0):lkJ acc (linksV t m u last fst (l.drop i))=([],E):=by
 rw[drop_at15 h,linksV,hg];dsimp only;rw[hN,hS,if_pos hE];unfold lkJ;rw[if_pos hE]
theorem links_go17 {t:Tp3}{m:Ma3}{u last N X:Int}{fst:Bool}{l:List St3}{i:Nat}{s:St3}{b:Bl3}(acc:List Int)(h:l[i]?=some s)(hg:groupF t s.edge=some b)(hN:(onE t m.path ⟨b.edge,b.at_,s.rev⟩).1=N)(hS:scaledOf (N-last) u false=(X,0)):
  lkJ acc (linksV t m u last fst (l.drop i))=lkJ (acc++[X,1,b.id/16384,b.id %16384,dirB s.rev,2,12]++(if fst=true then[(m.path.length:Int)-2]else[])) (linksV t m u N false (l.drop (i+1))):=by
 rw[drop_at15 h,linksV,hg];dsimp only;unfold scT;rw[hN,hS,if_neg (by simp)];generalize linksV t m u N false (l.drop (i+1))=q;obtain⟨q1,q2⟩:=q;unfold lkJ;dsimp only;by_cases hq:q2≠0
 ·rw[if_pos hq,if_pos hq,if_pos hq]
 ·rw[if_neg hq,if_neg hq]
  simp
theorem onGo_bnd17 {t:Tp3}{p:Ps3}(ht:edgesOk t=true)(hp:onB t p=true){path:List St3}(hed: ∀s∈path,edgeB t s.edge=true){c n:Int}(h:onGo t p path c=some n):c<=n/\n<=c+sumT t path:=by
 induction path generalizing c with
 |nil=>cases h
 |cons s r ih=>
  have h1:=lenAt_ok ht (hed s (List.mem_cons_self ..));have h2:=sum_ok ht (fun x hx=>hed x (List.mem_cons_of_mem s hx));rw[onGo]at h;show c<=n/\n<=c+(lenAt t s+sumT t r)
  split at h
  ·rename_i h3
   injection h with h
   rw[eqS_iff]at h3;subst h3;have h4:=into_ok17 ht hp;unfold intoP at h4;omega
  ·have h4:=ih (fun x hx=>hed x (List.mem_cons_of_mem s hx)) h
   omega
theorem on_bnd17 (t:Tp3)(path:List St3)(p:Ps3):0<=(onE t path p).1/\(onE t path p).1<=41000000:=by
 unfold onE;split
 ·rename_i h1
  obtain⟨h2,h3⟩:=right_iff.1 h1;have ht:=(check_routes h2).1;split
  ·rename_i h4
   have h5:=len_ok h4;have h6:=sum_ok ht h5.2.2.1
   cases hq:onGo t p path 0 with
   |none=>
    show(0:Int)<=0/\(0:Int)<=41000000
    omega
   |some n=>
    have h7:=onGo_bnd17 ht h3 h5.2.2.1 hq;show 0<=n/\n<=41000000
    omega
  ·show(0:Int)<=0/\(0:Int)<=41000000
   omega
 ·show(0:Int)<=0/\(0:Int)<=41000000
  omega
theorem may_path17 {t:Tp3}{m:Ma3}(h:mayM t m=true):1<=m.path.length/\m.path.length<=24/\1<=m.sects.length/\m.sects.length<=8:=by
 have h1:=mayM_iff.1 h;have h2:=len_ok h1.len;have h3:=List.length_pos_iff.2 h2.1;exact⟨h3,h1.few,h1.one,h1.eight⟩
theorem optl1_any (b:Bl3)(d:Int)(g:Nat)(w:World)(hc:w.cell? ⟨g,0,none⟩=some (.int .i64 d)):
  Calls Tryz.prog 161 #[.agg (blA b),.pointer (some ⟨g,0,none⟩)] w fun e w'=>e= .returned (.bool (b.edge==d))/\Below w.heap.size w w':=by
 obtain⟨wa,hwa,hbwa,HWA,HBWA,h0⟩:=bx1Z w 151 (blA b);have c0:wa.cell? ⟨w.heap.size,1,none⟩=some (.int .i64 b.edge):=h0.cell 1;have e0:wa.cell? ⟨g,0,none⟩=some (.int .i64 d):=(hbwa.cell (cell_block hc)).trans hc;clear hwa hbwa h0 hc;obtain⟨q,hq⟩:=geZ ((b.edge==d));rw[hq];unfold blA at*;go_enter Tryz.func161,Tryz.ntmps161;go_upto_region 1 with fail;rw[HWA.out];clear HWA;go_wp2;go_ret
 exact⟨by first|rfl|(rw[hq];done)|simp_all,HBWA.out⟩
theorem oix_tl17 (p:Bl3->Bool)(l:List Bl3)(A:Option Addr)(n c:Nat)(g:Nat)(w:World)(hs:SlO blC 3 w A n c l)(hbig:n<=1048576)
  (HE:Hid (∀(x:Bl3) W,Below w.heap.size w W->Calls Tryz.prog 161 #[.agg (blA x),.pointer (some ⟨g,0,none⟩)] W fun e w'=>e= .returned (.bool (p x))/\Below W.heap.size W w')):
  Calls Tryz.prog 160 #[.slice A n c,.func (.func 161) #[] #[.pointer (some ⟨g,0,none⟩)]] w fun e w'=>e= .returned (.int .i64 (idxL p l))/\Below w.heap.size w w':=by
 try unfold blA at HE
 try unfold stA13 at HE
 have HN:Hid (l.length=n):=zq hs.len13;have HW:=zq hs;clear hs;have x0:(0:Int)<=n:=by omega
 obtain⟨R,hR⟩:=geZ (idxL p l);have HR:=zq hR;rw[hR];clear hR;go_enter Tryz.func160,Tryz.ntmps160;go_wp2;go_loopg [8] n (fun kk v wl=> ∃j:Nat,j<=n/\n-j<=kk/\v= .int .i64 j/\Hid (∀i x,i<j->l[i]?=some x->p x=false)/\Hid (Below w.heap.size w wl))
 case atStart=>exact⟨0,by omega,by omega,rfl,zq fun i x h=>absurd h (by omega),zq (Below.refl _ _)⟩
 obtain⟨j,hj,hjk,rfl,HNO,HBL⟩:=hrel;by_cases hlt:j<n
 ·obtain⟨x,hx⟩:=glZ l (j) (by rw[HN.out];omega)
  obtain⟨bk,off,rfl,d0,d1,d2⟩:=(HW.out.under HBL.out).bal hx;have HX:=zq hx;have y0:(0:Int)<=j:=by omega
  have y1:(j:Int)<n:=by omega
  have HC:=zq (HE.out x wr HBL.out);clear hx;generalize hb:p x=b at*;have HBE:=zq hb;clear hb
  cases b with
  |true=>
   have HF:Hid (R=j):=zq (by rw[<-HR.out];exact idx_hit HX.out HBE.out HNO.out);go_upto_region 4 with fail;go_wp2_with fail;refine HC.out.mono ?_;rintro e w1 ⟨rfl,hb1⟩;have HB1:=tB HBL hb1;clear hb1 d0 d1 d2 HBE HNO;go_wp2;go_ret
   exact⟨by rw[HF.out];rfl,HB1.out⟩
  |false=>
   go_upto_region 4 with fail;go_wp2_with fail;refine HC.out.mono ?_;rintro e w1 ⟨rfl,hb1⟩;have HB1:=tB HBL hb1;have HN2:Hid (∀i y,i<j+1->l[i]?=some y->p y=false):=zq fun i y hi hy=>by
    by_cases h:i=j
    ·subst h;rw[HX.out]at hy;cases hy;exact HBE.out
    ·exact HNO.out i y (by omega) hy
   clear hb1 d0 d1 d2 HBE HNO;go_wp2;go_roundg (gk-1)
   case measure=>omega
   case rel=>exact⟨j+1,by omega,by omega,by go_num,HN2,HB1⟩
 ·have y1: ¬(j:Int)<n:=by omega
  have HF:Hid (R= -1):=zq (by rw[<-HR.out];exact idx_miss fun i y hi hy=>HNO.out i y (by have:=HN.out;omega) hy);go_wp2;go_ret
  exact⟨by rw[HF.out];rfl,HBL.out⟩
theorem optellinks_any (t:Tp3)(a:TpA)(m:Ma3)(b:MaA)(u:Int)(w:World)(ht:TopR w t a)(hl:lightT t=true)(hcj:t.joints.length<=a.cj)(hm:MaR w m b)(hmay:mayM t m=true):
  Calls Tryz.prog 83 #[.agg (tpC t a),.agg (maC m b),.int .i64 u] w fun r w'=> ∃A n c,r= .returned (.tuple #[.slice A n c,.int .i64 (linksV t m u (behindM t m) true (m.path.drop 1)).2])/\SlO inC 1 w' A n c (linksV t m u (behindM t m) true (m.path.drop 1)).1/\n<=200/\Below w.heap.size w w':=by
 obtain⟨x,hloc,hrx,hbh,hck⟩:=may_loc17 hmay;have hpl:=may_path17 hmay;rw[hbh];have HL0:=zq (fun W (hW:Below w.heap.size w W)=>opl_locate0 t a m.ref m.rev 0 W (ht.under hW) hl hcj);rw[hloc]at HL0;have HEO:=zq (fun W (hW:Below w.heap.size w W)=>opent_any t a x W (ht.under hW) hl hcj);rw[entered17 hrx]at HEO;have HON:=zq (fun W (hW:Below w.heap.size w W) p (hp:SlO stC 2 W b.ap m.path.length b.cp m.path)=>opl_on t a m.path b.ap m.path.length b.cp p W (ht.under hW) hl hcj hp (by omega) hm.capP);have hpp:=hm.path;have hcP:=hm.capP;clear hm;obtain⟨xe,xa,xr⟩:=x;unfold psA at HL0 HEO;dsimp only at HL0 HEO;obtain⟨R,hR⟩:=geZ (linksV t m u (intoP t ⟨xe,xa,xr⟩) true (m.path.drop 1));rw[hR];obtain⟨I,hI⟩:=geZ (intoP t ⟨xe,xa,xr⟩);have HIB:=zq (show 0<=I/\I<=41000000 from by rw[<-hI];have h1_:=into_ok17 (check_routes hck).1 (right_iff.1 hrx).2;have h2_:=lenAt_ok (check_routes hck).1 (s:=stepP ⟨xe,xa,xr⟩) (on_iff.1 (right_iff.1 hrx).2).1;omega);rw[hI]at HEO hR;obtain⟨m0,hm0⟩: ∃q,m=q:=⟨_,rfl⟩
 have HR:=zq hR;have HCK:=zq hck;have HPL:=zq hpl;clear hR hI hloc hrx hbh hmay hck hm0;have hbl:=(light_nums13 hl).2.2.1;unfold maC;obtain⟨mr,hmr⟩: ∃q,m.ref=q:=⟨_,rfl⟩
 obtain⟨mv,hmv⟩: ∃q,m.rev=q:=⟨_,rfl⟩
 obtain⟨mg,hmg⟩: ∃q,m.gap=q:=⟨_,rfl⟩
 obtain⟨sn,hsn⟩: ∃q,m.sects.length=q:=⟨_,rfl⟩
 obtain⟨mp,hmp⟩: ∃q,m.path=q:=⟨_,rfl⟩
 obtain⟨ap,cp,aq,cs⟩:=b;dsimp only at*;rw[hmr,hmv]at HL0;rw[hmp]at hpp hpl hcP HR HON HPL;rw[hmr,hmv,hmg,hsn,hmp];obtain⟨pn,hpn⟩: ∃q,mp.length=q:=⟨_,rfl⟩
 rw[hpn]at hpp hpl hcP HON HPL⊢;have HMP:=zq hmp;have HPN:=zq hpn;have HCP:=zq hcP;clear hmr hmv hmg hsn hmp hpn;obtain⟨wa,hwa,hbwa,HWA,HBWA,h0,h1⟩:=bx2Z w 27 (tpC t a) 38 #[.int .i64 mr,.bool mv,.slice ap pn cp,.slice aq sn cs,.int .i64 mg];have H0:=zH h0;have H1:=zH h1;have HPP:=zq (fun W (hW:Below wa.heap.size wa W)=>(hpp.under hbwa).under hW);have HBS:=zq (fun W (hW:Below wa.heap.size wa W)=>((ht.under hbwa).under hW).b);have HBL:=zq hbl;have e0:wa.cell? ⟨w.heap.size+1,0,none⟩=some (.int .i64 mr):=h1.cell 0;have e1:wa.cell? ⟨w.heap.size+1,1,none⟩=some (.bool mv):=h1.cell 1;clear hwa hbwa h0 h1 ht hl hcj hpp hpl hcP hbl;go_enter Tryz.func83,Tryz.ntmps83;go_upto_region 1 with fail;rw[HWA.out];clear HWA;go_wp2_with (with_reducible refine ldZ 21 (H0.out wa (Below.refl _ _)) ?_);refine(HL0.out wa HBWA.out).mono ?_;rintro e_ w1 ⟨rfl,hb1⟩;have HB1:=zq hb1;clear hb1 HL0 e0 e1;go_upto_region 2 with fail;obtain⟨w2,hw2⟩:=geZ (w1.alloc (.cells #[.int .i64 xe,.int .i64 xa,.bool xr] 51));rw[hw2];have HB2:=zq (show Below wa.heap.size wa w2 from by rw[<-hw2];exact HB1.out.alloc HB1.out.size _);have hH:Has w2 w1.heap.size 51 #[.int .i64 xe,.int .i64 xa,.bool xr]:=by rw[<-hw2];exact Has.made _ _ _
 obtain⟨gP,hgP⟩: ∃g,w1.heap.size=g:=⟨_,rfl⟩
 rw[hgP]at hH;simp only[hgP];have HHP:=zq hH;clear hw2 hH hgP HB1;go_wp2_with (first|(with_reducible refine ldZ 29 (H0.out w2 HB2.out) ?_)|(with_reducible refine ldZ 30 HHP.out ?_));refine(HEO.out w2 (HBWA.out.trans (HB2.out.mono HBWA.out.size))).mono ?_;rintro e_ w3 ⟨rfl,hb3⟩;have HB3:=tB HB2 hb3;clear hb3 HB2 HHP HEO;have m2:w3.cell? ⟨w.heap.size+1,2,none⟩=some (.slice ap pn cp):=(H1.out w3 HB3.out).cell 2;have hp1:1<=pn:=HPL.out.1;have hcu: ∀W,(Instr.sliceAt 35 (.slice ap pn cp) (some (.int .i64 1)) none none).run Tryz.prog W= .ok (.slice (if cp=1 then ap else ap.map (·.add (1*2))) (pn-1) (cp-1)) W:=fun W=>cut_from17 (P:=Tryz.prog) 2 35 30 Tryz.underlying35 (by kernel_rfl) ap pn cp 1 hp1 W;have HTS:=zq (fun W (hW:Below wa.heap.size wa W)=>(HPP.out W hW).from17 (fun _=>rfl) HCP.out hp1);obtain⟨A2,hA2⟩: ∃A,(if cp=1 then ap else ap.map (·.add (1*2)))=A:=⟨_,rfl⟩
 obtain⟨c2,hc2⟩: ∃c,cp-1=c:=⟨_,rfl⟩
 obtain⟨tn,htn⟩: ∃n,pn-1=n:=⟨_,rfl⟩
 obtain⟨tl,htl⟩: ∃l,mp.drop 1=l:=⟨_,rfl⟩
 rw[hA2,hc2,htn]at hcu HTS;rw[htl]at HTS HR;have HTN:=zq (show tn<=23/\tl.length=tn/\pn=tn+1 from by have h1_:=HPL.out;have h2_:=HPN.out;refine⟨by omega,?_,by omega⟩;rw[<-htl,List.length_drop];omega);have htb:tn<=23:=HTN.out.1;clear hA2 hc2 htn htl hp1;go_wp2;clear hcu m2;go_loopg [10,11,36] tn (fun kk v10 v11 v36 wl=> ∃(i:Nat) (X:Option Addr) (n c:Nat) (acc:List Int) (last:Int),i<=tn/\tn-i<=kk/\v36= .int .i64 i/\v11= .slice X n c/\v10= .int .i64 last/\Hid (0<=last/\last<=41000000)/\Hid (n<=8*i)/\Hid (OwR inC 1 3 wa.heap.size wl X n c acc)/\Hid (R=lkJ acc (linksV t m u last (decide (i=0)) (tl.drop i)))/\Hid (Below wa.heap.size wa wl))
 case atStart=>exact⟨0,none,0,0,[],I,by omega,by omega,rfl,rfl,rfl,HIB,zq (by omega),zq (OwR.nil _ _ _ _ _),zq (by rw[lkJ_nil17,List.drop_zero];exact HR.out.symm),HB3⟩
 clear HR HIB HB3;obtain⟨i,X,n,c,acc,last,hi,hik,rfl,rfl,rfl,HLB,HN,HO,HRI,HB⟩:=hrel;obtain⟨k1,hk1⟩: ∃k1,k1=gk:=⟨_,rfl⟩
 subst hk1;obtain⟨wv,hwv⟩: ∃wv,wv=wr:=⟨_,rfl⟩
 subst hwv;by_cases hlt:i<tn;rotate_left
 ·obtain rfl:i=tn:=by omega
  have HF:=zq (show R=(acc,0)from by rw[HRI.out,List.drop_of_length_le (by rw[HTN.out.2.1];exact Nat.le_refl _)];show lkJ acc ([],0)=_;unfold lkJ;simp);have y1: ¬(i:Int)<i:=by omega
  have HNB:=zq (show n<=200 from by have h1_:=HN.out;omega);clear HRI;go_wp2;go_ret2
  exact⟨X,n,c,by rw[HF.out];rfl,by rw[HF.out];exact HO.out.sl,HNB.out,HBWA.out.trans (HB.out.mono HBWA.out.size)⟩
 ·obtain⟨s,hs⟩:=glZ tl (i) (by rw[HTN.out.2.1];exact hlt)
  obtain⟨bk,off,rfl,d0,d1⟩:=(HTS.out wv HB.out).step hs;have HSS:=zq hs;obtain⟨se,sr⟩:=s;dsimp only at d0 d1;have x1:(i:Int)<tn:=by omega
  have x2:(0:Int)<=i:=by omega
  have HIN:=zq (show i<tn/\tn-i<=k1 from⟨hlt,hik⟩);clear hs hi hik;obtain⟨wb,hwb⟩: ∃u,wv.alloc (.cells #[.int .i64 se,.bool sr] 30)=u:=⟨_,rfl⟩
  have hbb:Below wv.heap.size wv wb:=by rw[<-hwb];exact bA
  have hHb:Has wb wv.heap.size 30 #[.int .i64 se,.bool sr]:=by rw[<-hwb];exact Has.made _ _ _
  have HWB:=zq hwb;obtain⟨gs,hgs⟩: ∃g,wv.heap.size=g:=⟨_,rfl⟩
  have HGS:=zq hgs;rw[hgs]at hHb;have HOB:=zq (HO.out.under hbb);have HBB:=tB HB hbb;have HHB:=zH hHb;have HWX:=zq (fun W (hW:Below wb.heap.size wb W)=>HBB.out.trans (hW.mono HBB.out.size));clear hwb hbb hgs hlt hHb;go_upto_region 7 with fail;rw[HWB.out];simp only[HGS.out];clear HWB HGS d0 d1 HO HB;have b2:wb.cell? ⟨w.heap.size,2,none⟩=some (.slice a.ab t.bals.length a.cb):=(H0.out wb HBB.out).cell 2;have HE:Hid (∀(x:Bl3) W,Below wb.heap.size wb W->Calls Tryz.prog 161 #[.agg (blA x),.pointer (some ⟨gs,0,none⟩)] W fun e w'=>e= .returned (.bool (x.edge==se))/\Below W.heap.size W w'):=zq fun x W hW=>optl1_any x se gs W ((HHB.out W hW).cell 0);have HIX:=zq (oix_tl17 (fun x=>x.edge==se) t.bals a.ab t.bals.length a.cb gs wb (HBS.out wb HBB.out) (by have:=HBL.out;omega) HE);clear HE;have hfi:=idx_find (fun x:Bl3=>x.edge==se) t.bals;obtain⟨bn,hbn⟩: ∃n,t.bals.length=n:=⟨_,rfl⟩
  rw[hbn]at b2 HIX;have HBN:=zq hbn;clear hbn
  rcases hfi with⟨h1,h2⟩|⟨j,y,h1,h2,h3⟩
  ·rw[h1]at HIX
   have HF:=zq (show R=([],1)from by rw[HRI.out];exact links_none17 acc HSS.out h2);clear h1 h2;go_wp2_with fail;refine HIX.out.mono ?_;rintro e_ w4 ⟨rfl,hb4⟩;have HB4:=zq (HWX.out _ hb4);clear hb4 HIX b2;go_wp2;go_ret2
   exact⟨none,0,0,by rw[HF.out];rfl,by rw[HF.out];exact SlO.nil _ _ _,by omega,HBWA.out.trans (HB4.out.mono HBWA.out.size)⟩
  ·rw[h2]at HIX
   have HGF:=zq (show groupF t se=some y from h3);have HYB:=zq (bal_find HCK.out (List.mem_of_getElem? h1));have hjb:j<bn:=by rw[<-HBN.out];exact(List.getElem?_eq_some_iff.1 h1).1
   have HJ:=zq h1;have hbn8:bn<=100:=by rw[<-HBN.out];exact HBL.out
   clear h1 h2 h3;go_wp2_with fail;refine HIX.out.mono ?_;rintro e_ w4 ⟨rfl,hb4⟩;have HB4:=zq (HWX.out _ hb4);have HO4:=zq (HOB.out.under hb4);have HH4:=zq (HHB.out _ hb4);clear hb4 HIX b2 HOB HBB HHB HWX;obtain⟨yb,yo,hyA,y0,y1,y2⟩:=(HBS.out w4 HB4.out).bal HJ.out;have b2:w4.cell? ⟨w.heap.size,2,none⟩=some (.slice (some ⟨yb,yo,none⟩) bn a.cb):=by rw[<-hyA,<-HBN.out];exact(H0.out w4 HB4.out).cell 2
   clear hyA;obtain⟨yi,ye,ya⟩:=y;dsimp only at y0 y1 y2 HYB;have x3:(0:Int)<=j:=by omega
   have x4:(j:Int)<bn:=by omega
   have q1:decide ((j:Int)<0)=false:=decide_eq_false (by omega);obtain⟨w5,hw5⟩: ∃u,w4.alloc (.cells #[.int .i64 yi,.int .i64 ye,.int .i64 ya] 151)=u:=⟨_,rfl⟩
   have hb5:Below w4.heap.size w4 w5:=by rw[<-hw5];exact bA
   have hH5:Has w5 w4.heap.size 151 #[.int .i64 yi,.int .i64 ye,.int .i64 ya]:=by rw[<-hw5];exact Has.made _ _ _
   have HW5:=zq hw5;obtain⟨gb,hgb⟩: ∃g,w4.heap.size=g:=⟨_,rfl⟩
   have HGB:=zq hgb;rw[hgb]at hH5;have HO5:=zq (HO4.out.under hb5);have HB5:=tB HB4 hb5;have HH5:=uH HH4 hb5;have HY5:=zq hH5;clear hw5 hb5 hgb hH5;go_upto_region 11 with fail;rw[HW5.out];simp only[HGB.out];clear HW5 HGB y0 y1 y2 b2 x3 x4 q1 hjb hbn8 HJ HO4 HB4 HH4;have m2:w5.cell? ⟨w.heap.size+1,2,none⟩=some (.slice ap pn cp):=(H1.out w5 HB5.out).cell 2;have y1:w5.cell? ⟨gb,1,none⟩=some (.int .i64 ye):=HY5.out.cell 1;have y2:w5.cell? ⟨gb,2,none⟩=some (.int .i64 ya):=HY5.out.cell 2;have z1:w5.cell? ⟨gs,1,none⟩=some (.bool sr):=HH5.out.cell 1;obtain⟨N,hN⟩:=geZ ((onE t m.path ⟨ye,ya,sr⟩).1);obtain⟨E0,hE0⟩: ∃N,(onE t m.path ⟨ye,ya,sr⟩).2=N:=⟨_,rfl⟩
   have HNB:=zq (show 0<=N/\N<=41000000 from by rw[<-hN];exact on_bnd17 _ _ _);have HC:=zq (HON.out w5 (HBWA.out.trans (HB5.out.mono HBWA.out.size)) ⟨ye,ya,sr⟩ (HPP.out w5 HB5.out));rw[<-HMP.out,hN,hE0]at HC;unfold psA at HC;dsimp only at HC;have HNE:=zq hN;clear hN hE0;go_wp2_with (with_reducible refine ldZ 53 (H0.out w5 HB5.out) ?_);refine HC.out.mono ?_;rintro e_ w6 ⟨rfl,hb6⟩;have HB6:=tB HB5 hb6;have HO6:=zq (HO5.out.under hb6);have HH6:=uH HH5 hb6;have HY6:=uH HY5 hb6;clear hb6 HC m2 y1 y2 z1 HB5 HO5 HH5 HY5;obtain⟨D,hD⟩:=geZ (N-last);have hw1:IntKind.i64.wrap (N-last)=D:=by rw[IntKind.wrap_i64];have h1_:=HNB.out;have h2_:=HLB.out;omega
   obtain⟨X2,hX2⟩: ∃X,(scaledOf D u false).1=X:=⟨_,rfl⟩
   obtain⟨E,hE⟩:=geZ ((scaledOf D u false).2);have HS:=zq (show scaledOf (N-last) u false=(X2,E)from by rw[hD];exact Prod.ext hX2 hE);have HSC:=zq (fun W=>scaled_any D u false W);unfold pair at HSC;rw[hX2,hE]at HSC;clear hD hX2 hE;go_wp2_with fail;refine(HSC.out w6).mono ?_;rintro e_ w6' ⟨rfl,rfl⟩;clear hw1 HSC;by_cases z:E=0;rotate_left
   ·have q1:(E !=0)=true:=by simp[z]
    have HF:=zq (show R=([],E)from by rw[HRI.out];exact links_bad17 acc HSS.out HGF.out HNE.out HS.out z);clear z;go_wp2;go_ret2
    exact⟨none,0,0,by rw[HF.out];rfl,by rw[HF.out];exact SlO.nil _ _ _,by omega,HBWA.out.trans (HB6.out.mono HBWA.out.size)⟩
   ·subst z
    have q1:((0:Int) !=0)=false:=rfl;have HGO:=zq (HRI.out.trans (links_go17 acc HSS.out HGF.out HNE.out HS.out));dsimp only at HGO;rw[HMP.out,HPN.out]at HGO;obtain⟨Q,hQ⟩:=geZ (yi/16384);obtain⟨M,hM⟩:=geZ (yi %16384);obtain⟨DR,hDR⟩: ∃d,dirB sr=d:=⟨_,rfl⟩
    have HQ:=zq (show Int.tdiv yi 16384=Q from by rw[Int.tdiv_eq_ediv_of_nonneg HYB.out.1];exact hQ);have HQM:=zq (show Int.tmod yi 16384=M from by rw[Int.tmod_eq_emod_of_nonneg HYB.out.1];exact hM);have HWQ:=zq (show IntKind.i64.wrap Q=Q from by rw[IntKind.wrap_i64];have:=HYB.out;omega);have HWM:=zq (show IntKind.i64.wrap M=M from by rw[IntKind.wrap_i64];have:=HYB.out;omega);rw[hQ,hM,hDR]at HGO;have HDI:Hid (∀W,Calls Tryz.prog 82 #[.bool sr] W fun r w'=>r= .returned (.int .i64 DR)/\Below W.heap.size W w'):=zq (fun W=>(opdir_any sr W).mono (fun e w' h=>⟨by rw[h.1,hDR],by rw[h.2];exact Below.refl _ _⟩));clear hQ hM hDR HRI HS;go_upto_region 15 with fail;clear q1;refine wp_region_held_drew (S:=(fun W_=>(Has W_ (gb) 151 #[.int .i64 yi,.int .i64 ye,.int .i64 ya])/\(Has W_ (gs) 30 #[.int .i64 se,.bool sr])/\(Below wa.heap.size wa W_))) (by kernel_rfl) ?_ (fun hHeld=>?_)
    ·exact⟨HY6.out.draw,HH6.out.draw,below_dr11 HB6.out⟩
    have HO6:=zq HO6.out.draw1;refine tkZ 0 77 (h:=?_);simp only[lyZ];refine tkZ 1 78 (h:=?_);simp only[lyZ];refine tkZ 2 79 (h:=?_);simp only[lyZ];refine tqZ 3 80 (fun w_ ⟨s0,s1,s2⟩=>(show w_.cell? ⟨gb,0,none⟩=some (.int .i64 yi:Value)from s0.cell 0)) (h:=?_);simp only[lyZ];refine tqZ 4 81 (fun w_ ⟨s0,s1,s2⟩=>And.intro (HQ.out) (HWQ.out)) (h:=?_);simp only[lyZ];refine tkZ 5 82 (h:=?_);simp only[lyZ];refine tqZ 6 83 (fun w_ ⟨s0,s1,s2⟩=>(show w_.cell? ⟨gb,0,none⟩=some (.int .i64 yi:Value)from s0.cell 0)) (h:=?_);simp only[lyZ];refine tqZ 7 84 (fun w_ ⟨s0,s1,s2⟩=>And.intro (HQM.out) (HWM.out)) (h:=?_);simp only[lyZ];refine tkZ 8 85 (h:=?_);simp only[lyZ];refine tqZ 9 86 (fun w_ ⟨s0,s1,s2⟩=>(show w_.cell? ⟨gs,1,none⟩=some (.bool sr:Value)from s1.cell 1)) (h:=?_);simp only[lyZ];refine aoZ 10 (some 87) (fun K hK=>?_);go_simp;obtain⟨s0,s1,s2⟩:=hHeld;refine(HDI.out _).mono ?_;rintro e_ q1 ⟨rfl,hb_⟩;have HO6:=zq (HO6.out.under hb_);go_wp2_with fail;refine hK.out _ _ ?_ (fun hHeld=>?_)
    ·exact⟨s0.u hb_,s1.u hb_,bu s2 hb_⟩
    clear hK K s0 s1 s2
    try simp only[lyZ]
    refine aoZ 11 (some 88) (fun K hK=>?_);go_simp;obtain⟨s0,s1,s2⟩:=hHeld;obtain⟨gl,hgl⟩:=geZ (q1.heap.size);have p0_gl:gb<gl:=by rw[<-hgl];exact s0.lt
    have p1_gl:gs<gl:=by rw[<-hgl];exact s1.lt
    have p2_gl:wa.heap.size<=gl:=by rw[<-hgl];exact s2.size
    rw[hgl];refine hK.out _ _ ?_ (fun hHeld=>?_)
    ·exact⟨s0.beside _,s1.beside _,below_al11 s2 _⟩
    have HNL:=zq (show(Value.slice X n c).ownBlock≠some gl from by rw[<-hgl];exact HO6.out.ne (Nat.le_refl _));have HO6:=zq (HO6.out.under ((Below.refl _ _).alloc (Nat.le_refl _) (.cells #[.int .i64 X2,.int .i64 1,.int .i64 Q,.int .i64 M,.int .i64 DR,.int .i64 2,.int .i64 12] 3)));refine mr3 (fun W_=>(Has W_ (gl) 3 #[.int .i64 X2,.int .i64 1,.int .i64 Q,.int .i64 M,.int .i64 DR,.int .i64 2,.int .i64 12])) ⟨s0.beside _,s1.beside _,below_al11 s2 _,(by rw[<-hgl];exact Has.made _ _ _)⟩ (fun h_=>?_);clear hHeld;have hHeld:=h_;clear h_;clear hK K hgl s0 s1 s2
    try simp only[lyZ]
    refine aoZ 12 (some 89) (fun K hK=>?_);skip;obtain⟨s0,s1,s2,s3⟩:=hHeld;obtain⟨hO,hSL,h1,hBD⟩:=pourR 8 HO6.out (⟨rfl,sl_hasR s3 rfl⟩:SlO inC 1 _ (some ⟨gl,0,none⟩) 7 7 [X2,1,Q,M,DR,2,12]) one_in15 s2.size (by have h1_:=HIN.out;have h2_:=HTN.out.1;have h3_:=HN.out;omega) (by omega);refine step_pour17 (o:=⟨some 89,_,_,_,_,_⟩) (by rfl) (.tmp 77) (.tmp 88) 22 (by rfl) wa.heap.size 3 (.int .i64 0) 1 8 Tryz.underlying22 info_int15 (by rfl) (by decide) X n c _ (by rfl) hO (some ⟨gl,0,none⟩) 7 7 _ (by rfl) hSL h1 hBD ?_;intro X3 x3 u3 ho hg h5;have hs0:=s0.grow hg.out (Ne.symm (HO6.out.apart s0 (by decide)));have hs1:=s1.grow hg.out (Ne.symm (HO6.out.apart s1 (by decide)));have hs2:=below_own s2 s2.size hO.out (Nat.le_refl _) rfl hg.out;have hs3:=s3.grow hg.out (Ne.symm HNL.out);have HO6:=zq (show OwR inC 1 3 wa.heap.size u3 X3 (n+7) x3 (acc++[X2,1,Q,M,DR,2,12])from OwR.poured (l':=[X2,1,Q,M,DR,2,12]) HO6.out.2 rfl ho.out);refine hK.out _ _ ?_ (fun hHeld=>?_)
    ·exact⟨hs0,hs1,hs2,hs3⟩
    clear hK K s0 s1 s2 s3
    try simp only[lyZ]
    refine tkZ 13 11 (h:=?_);simp only[lyZ];refine dnZ ?_;obtain⟨w7,hw7⟩: ∃u,u=u3:=⟨_,rfl⟩
    subst hw7;have HB7:=zq hHeld.2.2.1;clear hHeld;obtain⟨a2,ha2⟩: ∃l,acc++[X2,1,Q,M,DR,2,12]=l:=⟨_,rfl⟩
    rw[ha2]at HO6 HGO;clear ha2;have HN7:=zq (show n+7<=8*i+7 from by have:=HN.out;omega);have hib:i<23:=by have h1_:=HIN.out;have h2_:=HTN.out;omega
    by_cases z:i=0
    ·have q1:((i:Int)==0)=true:=by simp[z]
     have HGO:=zq (show R=lkJ (a2++[(pn:Int)-2]) (linksV t m u N (decide (i+1=0)) (tl.drop (i+1)))from by rw[HGO.out,if_pos (decide_eq_true z),decide_eq_false (show¬i+1=0 by omega)]);have HI0:=zq z;clear z;have m2:w7.cell? ⟨w.heap.size+1,2,none⟩=some (.slice ap pn cp):=(H1.out w7 HB7.out).cell 2;have hpb:pn<=24:=HPL.out.2.1;obtain⟨P2,hP2⟩: ∃q,(pn:Int)-2=q:=⟨_,rfl⟩
     have hw2:IntKind.i64.wrap ((pn:Int)-2)=P2:=by rw[IntKind.wrap_i64];omega
     rw[hP2]at HGO;clear hP2;go_upto_region 17 with fail;obtain⟨hO,hSL,h1,hBD⟩:=pourR 8 (HO6.out.under ((Below.refl _ _).alloc (Nat.le_refl _) (.cells #[.int .i64 P2] 3))) (⟨rfl,sl_hasR (Has.made _ _ _) rfl⟩:SlO inC 1 (w7.alloc (.cells #[.int .i64 P2] 3)) (some ⟨w7.heap.size,0,none⟩) 1 1 [P2]) one_in15 (Nat.le_trans HB7.out.size (by simp)) (by have:=HN7.out;omega) (by omega);go_wp2_with (with_reducible refine wpList_pour (o:=⟨some 98,_,_,_,_,_⟩) rfl (.tmp 92) (.tmp 97) 22 rfl wa.heap.size 3 (.int .i64 0) 1 8 Tryz.underlying22 info_int15 ?hz7 (by decide) X3 (n+7) x3 _ ?hs7 hO (some ⟨w7.heap.size,0,none⟩) 1 1 _ ?hx7 hSL h1 hBD ?next7)
     all_goals try rfl
     intro A8 c8 w8 ho8 hg8;have HO8:=zq (show OwR inC 1 3 wa.heap.size w8 A8 (n+7+1) c8 (a2++[P2])from OwR.poured (l':=[P2]) HO6.out.2 rfl ho8.out);have HB8:=zq (below_own (HB7.out.trans ((bA).mono HB7.out.size)) (Nat.le_trans HB7.out.size (by simp)) hO.out (Nat.le_refl _) rfl hg8.out);clear ho8 hg8 hO hSL h1 hBD HO6 HB7 m2 hw2 q1 hpb;go_wp2;go_roundg (k1-1)
     case measure=>have:=HIN.out;omega
     case rel=>exact⟨i+1,A8,n+7+1,c8,a2++[P2],N,by have:=HIN.out;omega,by have:=HIN.out;omega,by first|go_num|(rw[IntWalk.wrap64_in _ (by have h1_:=HIN.out;have h2_:=HTN.out;omega)];go_num),rfl,rfl,HNB,zq (by have:=HN7.out;omega),HO8,HGO,HB8⟩
    ·have q1:((i:Int)==0)=false:=by simp;omega
     have q2: ¬(i:Int)=0:=by omega
     have HGO:=zq (show R=lkJ a2 (linksV t m u N (decide (i+1=0)) (tl.drop (i+1)))from by rw[HGO.out,if_neg (by rw[decide_eq_false z];decide),decide_eq_false (show¬i+1=0 by omega),List.append_nil]);clear z;go_wp2;go_roundg (k1-1)
     case measure=>have:=HIN.out;omega
     case rel=>exact⟨i+1,X3,n+7,x3,a2,N,by have:=HIN.out;omega,by have:=HIN.out;omega,by first|go_num|(rw[IntWalk.wrap64_in _ (by have h1_:=HIN.out;have h2_:=HTN.out;omega)];go_num),rfl,rfl,HNB,zq (by have:=HN7.out;omega),HO6,HGO,HB7⟩
end
section
open Go.RowKit
inductive Nd where
 |v (n:Nat)
 |g (k:Nat) (body:List Nd)
def openW (k:Nat):ByteArray:=if k=0 then⟨#[123]⟩else if k=1 then⟨#[60]⟩else⟨#[40,49,50]⟩
def closeW (k:Nat):ByteArray:=if k=0 then⟨#[125]⟩else⟨#[62]⟩
def nameV (n:Nat):ByteArray:=(vrows.getD n vnone).name
mutual
def wordsN:Nd->List ByteArray
 | .v n=>[nameV n]
 | .g k b=>openW k::(wordsL b++[closeW k])
def wordsL:List Nd->List ByteArray
 |[]=>[]
 |x::l=>wordsN x++wordsL l
end
def gram0:ByteArray:=⟨#[76,95,80,65,67,75,69,84,32,81,95,83,67,65,76,69,32,78,73,68,95,76,82,66,71,32,68,95,76,82,66,71,32,81,95,68,73,82,76,82,66,71,32,81,95,68,76,82,66,71,32,76,95,68,79,85,66,84,79,86,69,82,32,76,95,68,79,85,66,84,85,78,68,69,82,32,81,95,76,69,78,71,84,72,32,40,49,50,32,76,95,84,82,65,73,78,73,78,84,32,62,32,86,95,84,82,65,73,78,32,81,95,68,73,82,84,82,65,73,78,32,77,95,77,79,68,69,32,77,95,76,69,86,69,76,32,60,32,78,73,68,95,78,84,67,32,62]⟩
def gram1:ByteArray:=⟨#[76,95,80,65,67,75,69,84,32,81,95,83,67,65,76,69,32,78,73,68,95,76,82,66,71,32,78,73,68,95,80,82,86,76,82,66,71,32,68,95,76,82,66,71,32,81,95,68,73,82,76,82,66,71,32,81,95,68,76,82,66,71,32,76,95,68,79,85,66,84,79,86,69,82,32,76,95,68,79,85,66,84,85,78,68,69,82,32,81,95,76,69,78,71,84,72,32,40,49,50,32,76,95,84,82,65,73,78,73,78,84,32,62,32,86,95,84,82,65,73,78,32,81,95,68,73,82,84,82,65,73,78,32,77,95,77,79,68,69,32,77,95,76,69,86,69,76,32,60,32,78,73,68,95,78,84,67,32,62]⟩
def gram3:ByteArray:=⟨#[81,95,68,73,82,32,76,95,80,65,67,75,69,84,32,81,95,83,67,65,76,69,32,68,95,86,65,76,73,68,78,86,32,78,95,73,84,69,82,32,123,32,78,73,68,95,67,32,125,32,86,95,78,86,83,72,85,78,84,32,77,95,78,86,67,79,78,84,65,67,84,32,84,95,78,86,67,79,78,84,65,67,84]⟩
def gram5:ByteArray:=⟨#[81,95,68,73,82,32,76,95,80,65,67,75,69,84,32,81,95,83,67,65,76,69,32,68,95,76,73,78,75,32,81,95,78,69,87,67,79,85,78,84,82,89,32,60,32,78,73,68,95,67,32,62,32,78,73,68,95,66,71,32,81,95,76,73,78,75,79,82,73,69,78,84,65,84,73,79,78,32,81,95,76,73,78,75,82,69,65,67,84,73,79,78,32,81,95,76,79,67,65,67,67,32,78,95,73,84,69,82,32,123,32,68,95,76,73,78,75,32,81,95,78,69,87,67,79,85,78,84,82,89,32,60,32,78,73,68,95,67,32,62,32,78,73,68,95,66,71,32,81,95,76,73,78,75,79,82,73,69,78,84,65,84,73,79,78,32,81,95,76,73,78,75,82,69,65,67,84,73,79,78,32,81,95,76,79,67,65,67,67,32,125]⟩
def gram11:ByteArray:=⟨#[76,95,80,65,67,75,69,84,32,78,73,68,95,79,80,69,82,65,84,73,79,78,65,76,32,78,67,95,84,82,65,73,78,32,76,95,84,82,65,73,78,32,86,95,77,65,88,84,82,65,73,78,32,77,95,76,79,65,68,73,78,71,71,65,85,71,69,32,77,95,65,88,76,69,76,79,65,68,32,77,95,65,73,82,84,73,71,72,84,32,78,95,73,84,69,82,32,123,32,77,95,84,82,65,67,84,73,79,78,32,125,32,78,95,73,84,69,82,32,123,32,78,73,68,95,83,84,77,32,125]⟩
def gram15:ByteArray:=⟨#[81,95,68,73,82,32,76,95,80,65,67,75,69,84,32,81,95,83,67,65,76,69,32,86,95,69,77,65,32,84,95,69,77,65,32,78,95,73,84,69,82,32,123,32,76,95,83,69,67,84,73,79,78,32,81,95,83,69,67,84,73,79,78,84,73,77,69,82,32,60,32,84,95,83,69,67,84,73,79,78,84,73,77,69,82,32,68,95,83,69,67,84,73,79,78,84,73,77,69,82,83,84,79,80,76,79,67,32,62,32,125,32,76,95,69,78,68,83,69,67,84,73,79,78,32,81,95,83,69,67,84,73,79,78,84,73,77,69,82,32,60,32,84,95,83,69,67,84,73,79,78,84,73,77,69,82,32,68,95,83,69,67,84,73,79,78,84,73,77,69,82,83,84,79,80,76,79,67,32,62,32,81,95,69,78,68,84,73,77,69,82,32,60,32,84,95,69,78,68,84,73,77,69,82,32,68,95,69,78,68,84,73,77,69,82,83,84,65,82,84,76,79,67,32,62,32,81,95,68,65,78,71,69,82,80,79,73,78,84,32,60,32,68,95,68,80,32,86,95,82,69,76,69,65,83,69,68,80,32,62,32,81,95,79,86,69,82,76,65,80,32,60,32,68,95,83,84,65,82,84,79,76,32,84,95,79,76,32,68,95,79,76,32,86,95,82,69,76,69,65,83,69,79,76,32,62]⟩
def gram21:ByteArray:=⟨#[81,95,68,73,82,32,76,95,80,65,67,75,69,84,32,81,95,83,67,65,76,69,32,68,95,71,82,65,68,73,69,78,84,32,81,95,71,68,73,82,32,71,95,65,32,78,95,73,84,69,82,32,123,32,68,95,71,82,65,68,73,69,78,84,32,81,95,71,68,73,82,32,71,95,65,32,125]⟩
def gram27:ByteArray:=⟨#[81,95,68,73,82,32,76,95,80,65,67,75,69,84,32,81,95,83,67,65,76,69,32,68,95,83,84,65,84,73,67,32,86,95,83,84,65,84,73,67,32,81,95,70,82,79,78,84,32,78,95,73,84,69,82,32,123,32,78,67,95,68,73,70,70,32,86,95,68,73,70,70,32,125,32,78,95,73,84,69,82,32,123,32,68,95,83,84,65,84,73,67,32,86,95,83,84,65,84,73,67,32,81,95,70,82,79,78,84,32,78,95,73,84,69,82,32,123,32,78,67,95,68,73,70,70,32,86,95,68,73,70,70,32,125,32,125]⟩
def gram42:ByteArray:=⟨#[81,95,68,73,82,32,76,95,80,65,67,75,69,84,32,81,95,82,66,67,32,78,73,68,95,67,32,78,73,68,95,82,66,67,32,78,73,68,95,82,65,68,73,79,32,78,73,68,95,82,65,68,73,79,32,81,95,83,76,69,69,80,83,69,83,83,73,79,78]⟩
def gram57:ByteArray:=⟨#[81,95,68,73,82,32,76,95,80,65,67,75,69,84,32,84,95,77,65,82,32,84,95,84,73,77,69,79,85,84,82,81,83,84,32,84,95,67,89,67,82,81,83,84]⟩
def gram58:ByteArray:=⟨#[81,95,68,73,82,32,76,95,80,65,67,75,69,84,32,81,95,83,67,65,76,69,32,84,95,67,89,67,76,79,67,32,68,95,67,89,67,76,79,67,32,77,95,76,79,67,32,78,95,73,84,69,82,32,123,32,68,95,76,79,67,32,81,95,76,71,84,76,79,67,32,125]⟩
def gram80:ByteArray:=⟨#[81,95,68,73,82,32,76,95,80,65,67,75,69,84,32,81,95,83,67,65,76,69,32,68,95,77,65,77,79,68,69,32,77,95,77,65,77,79,68,69,32,86,95,77,65,77,79,68,69,32,76,95,77,65,77,79,68,69,32,76,95,65,67,75,77,65,77,79,68,69,32,81,95,77,65,77,79,68,69,32,78,95,73,84,69,82,32,123,32,68,95,77,65,77,79,68,69,32,77,95,77,65,77,79,68,69,32,86,95,77,65,77,79,68,69,32,76,95,77,65,77,79,68,69,32,76,95,65,67,75,77,65,77,79,68,69,32,81,95,77,65,77,79,68,69,32,125]⟩
def gramOf (id:Int):ByteArray:=
 if id=0 then gram0 else if id=1 then gram1 else if id=3 then gram3 else if id=5 then gram5 else if id=11 then gram11 else if id=15 then gram15 else if id=21 then gram21 else if id=27 then gram27 else if id=42 then gram42 else if id=57 then gram57 else if id=58 then gram58 else if id=80 then gram80 else⟨#[]⟩
def ast0:List Nd:=[.v 7,.v 8,.v 4,.v 13,.v 14,.v 15,.v 16,.v 17,.v 18,.g 2 [.v 19],.v 20,.v 21,.v 22,.v 23,.g 1 [.v 24]]
def ast1:List Nd:=[.v 7,.v 8,.v 4,.v 74,.v 13,.v 14,.v 15,.v 16,.v 17,.v 18,.g 2 [.v 19],.v 20,.v 21,.v 22,.v 23,.g 1 [.v 24]]
def ast3:List Nd:=[.v 6,.v 7,.v 8,.v 84,.v 27,.g 0 [.v 10],.v 85,.v 87,.v 86]
def ast5:List Nd:=[.v 6,.v 7,.v 8,.v 44,.v 12,.g 1 [.v 10],.v 11,.v 45,.v 46,.v 47,.v 27,.g 0 [.v 44,.v 12,.g 1 [.v 10],.v 11,.v 45,.v 46,.v 47]]
def ast11:List Nd:=[.v 7,.v 75,.v 76,.v 77,.v 78,.v 79,.v 80,.v 81,.v 27,.g 0 [.v 82],.v 27,.g 0 [.v 83]]
def ast15:List Nd:=[.v 6,.v 7,.v 8,.v 25,.v 26,.v 27,.g 0 [.v 28,.v 29,.g 1 [.v 30,.v 31]],.v 32,.v 29,.g 1 [.v 30,.v 31],.v 33,.g 1 [.v 34,.v 35],.v 36,.g 1 [.v 37,.v 38],.v 39,.g 1 [.v 40,.v 41,.v 42,.v 43]]
def ast21:List Nd:=[.v 6,.v 7,.v 8,.v 48,.v 49,.v 50,.v 27,.g 0 [.v 48,.v 49,.v 50]]
def ast27:List Nd:=[.v 6,.v 7,.v 8,.v 51,.v 52,.v 53,.v 27,.g 0 [.v 54,.v 55],.v 27,.g 0 [.v 51,.v 52,.v 53,.v 27,.g 0 [.v 54,.v 55]]]
def ast42:List Nd:=[.v 6,.v 7,.v 62,.v 10,.v 63,.v 64,.v 64,.v 65]
def ast57:List Nd:=[.v 6,.v 7,.v 66,.v 67,.v 68]
def ast58:List Nd:=[.v 6,.v 7,.v 8,.v 69,.v 70,.v 71,.v 27,.g 0 [.v 72,.v 73]]
def ast80:List Nd:=[.v 6,.v 7,.v 8,.v 56,.v 57,.v 58,.v 59,.v 60,.v 61,.v 27,.g 0 [.v 56,.v 57,.v 58,.v 59,.v 60,.v 61]]
def astOf (id:Int):List Nd:=
 if id=0 then ast0 else if id=1 then ast1 else if id=3 then ast3 else if id=5 then ast5 else if id=11 then ast11 else if id=15 then ast15 else if id=21 then ast21 else if id=27 then ast27 else if id=42 then ast42 else if id=57 then ast57 else if id=58 then ast58 else if id=80 then ast80 else[]
def knownB (id:Int):Bool:=decide (id=0)||decide (id=1)||decide (id=3)||decide (id=5)||decide (id=11)||decide (id=15)||decide (id=21)||decide (id=27)||decide (id=42)||decide (id=57)||decide (id=58)||decide (id=80)
def wstep (s:ByteArray):Nat->List ByteArray×Nat
 |0=>([],0)
 |j+1=>if j=s.size\/s.data.getD j 0=32 then(if(wstep s j).2<j then(wstep s j).1++[s.extract (wstep s j).2 j]else(wstep s j).1,j+1)else wstep s j
def wordsOf (s:ByteArray):List ByteArray:=(wstep s (s.size+1)).1
theorem words0:wordsOf gram0=wordsL ast0:=by kernel_rfl
theorem words1:wordsOf gram1=wordsL ast1:=by kernel_rfl
theorem words3:wordsOf gram3=wordsL ast3:=by kernel_rfl
theorem words5:wordsOf gram5=wordsL ast5:=by kernel_rfl
theorem words11:wordsOf gram11=wordsL ast11:=by kernel_rfl
theorem words15:wordsOf gram15=wordsL ast15:=by kernel_rfl
theorem words21:wordsOf gram21=wordsL ast21:=by kernel_rfl
theorem words27:wordsOf gram27=wordsL ast27:=by kernel_rfl
theorem words42:wordsOf gram42=wordsL ast42:=by kernel_rfl
theorem words57:wordsOf gram57=wordsL ast57:=by kernel_rfl
theorem words58:wordsOf gram58=wordsL ast58:=by kernel_rfl
theorem words80:wordsOf gram80=wordsL ast80:=by kernel_rfl
end
section
open Go.RowKit
def strs (l:List ByteArray):List Value:=l.map .string
theorem strs_length (l:List ByteArray):(strs l).length=l.length:=by simp[strs]
abbrev OwS (base:Nat)(w:World)(A:Option Addr)(m c:Nat)(l:List ByteArray):Prop:=w.ownsRow base 9 1 (.slice A m c) m (strs l)
end
section
open Go.RowKit
structure SlW (w:World) (A:Option Addr) (m c:Nat) (l:List ByteArray):Prop where
 len:l.length=m
 sl:Sl w 1 A m c (strs l)
theorem SlW.under {w w':World}{A:Option Addr}{m c:Nat}{l:List ByteArray}(h:SlW w A m c l)(hb:Below w.heap.size w w'):SlW w' A m c l:=⟨h.len,h.sl.under hb⟩
theorem SlW.at_ {w:World}{A:Option Addr}{m c:Nat}{l:List ByteArray}(h:SlW w A m c l){j:Nat}(hj:j<m): ∃b off,A=some ⟨b,off,none⟩/\w.cell? ⟨b,off+j,none⟩=some (.string (l.getD j ⟨#[]⟩)):=by
 have hl:j<l.length:=by have:=h.len;omega
 exact h.sl.at_ (by simp[strs,List.getD_eq_getElem?_getD,List.getElem?_eq_getElem hl])
end
section
open Go.RowKit
open BitsM
structure WS where
 V:List Int
 rd:Bool
 bits:List Bool
 out:List (Int×Int)
 got:List Int
 e:Int
 place:Int
def fetch (v:Int)(s:WS):Int×WS:=
 if s.rd=true then(if s.bits.length<widthOf v then(0, {s with e:=10})else((num (s.bits.take (widthOf v)):Nat), {s with bits:=s.bits.drop (widthOf v)}))
 else if v=7 then(0,s)else if s.V=[]then(0, {s with e:=20})else(s.V.headD 0, {s with V:=s.V.tail})
def keep (v n:Int)(s:WS):WS:=
 if v=7 then {s with place:=s.out.length,out:=s.out++[(n,(widthOf v:Int))]} else if v=5 then {s with out:=s.out++[(n,(widthOf v:Int))]} else {s with got:=s.got++[n],out:=s.out++[(n,(widthOf v:Int))]}
def oneS (v:Int)(s:WS):Int×WS:=
 if s.e≠0 then(0,s)else if(fetch v s).2.e≠0 then(0,(fetch v s).2)else if mayOf v (fetch v s).1=false then(0, {(fetch v s).2 with e:=20})else((fetch v s).1,keep v (fetch v s).1 (fetch v s).2)
def ints (l:List Int):List Value:=l.map (.int .i64)
def pairs (l:List (Int×Int)):List Value:=l.flatMap fun x=>[.int .i64 x.1,.int .i64 x.2]
def low (base:Nat)(A:Option Addr):Prop:= ∀a,A=some a->a.block<base
structure SlI (base:Nat) (w:World) (A:Option Addr) (m c:Nat) (l:List Int):Prop where
 len:l.length=m
 cap:m<=c
 sl:Sl w 1 A m c (ints l)
 low:0<c->low base A
structure SlL (base:Nat) (w:World) (A:Option Addr) (m c:Nat) (l:List Bool):Prop where
 sl:SlB w A m c l
 cap:m<=c
 low:low base A
structure WkR (base:Nat) (w:World) (s:WS) (AV:Option Addr) (nV cV:Nat) (AB:Option Addr) (nB cB:Nat) (AO:Option Addr) (nO cO:Nat) (AG:Option Addr) (nG cG:Nat):Prop where
 v:SlI base w AV nV cV s.V
 b:SlL base w AB nB cB s.bits
 lo:s.out.length=nO
 lg:s.got.length=nG
 o:w.ownsRow base 185 2 (.slice AO nO cO) nO (pairs s.out)
 g:w.ownsRow base 3 1 (.slice AG nG cG) nG (ints s.got)
theorem add_block (a:Addr)(j:Nat):(a.add j).block=a.block:=by unfold Addr.add;split<;>rfl
theorem low_sl {w w':World}{A:Option Addr}{m c size:Nat}{vs:List Value}{base:Nat}(h:Sl w size A m c vs)(hl:low base A)(hb:Below base w w'):Sl w' size A m c vs:=
 ⟨h.1,h.2.1,fun ad ha j u hu=>by have h0:=h.2.2 ad ha j u hu;rw[hb.cell (by rw[add_block];exact hl ad ha)];exact h0⟩
section
variable {base g:Nat} {w w':World} {s:WS} {AV:Option Addr} {nV cV:Nat} {AB:Option Addr} {nB cB:Nat} {AO:Option Addr} {nO cO:Nat} {AG:Option Addr} {nG cG:Nat}
theorem SlI.below {m c:Nat}{A:Option Addr}{l:List Int}(h:SlI base w A m c l)(hb:Below base w w'):SlI base w' A m c l:=by
 refine⟨h.len,h.cap,?_,h.low⟩;by_cases hc:0<c
 ·exact low_sl h.sl (h.low hc) hb
 ·have h0:l=[]:=List.eq_nil_of_length_eq_zero (by have:=h.len;have:=h.cap;omega)
  subst h0;exact⟨h.sl.1,h.sl.2.1,fun ad _ j u hu=>by simp[ints]at hu⟩
theorem SlL.below {m c:Nat}{A:Option Addr}{l:List Bool}(h:SlL base w A m c l)(hb:Below base w w'):SlL base w' A m c l:=⟨⟨h.sl.1,low_sl h.sl.2 h.low hb⟩,h.cap,h.low⟩
theorem WkR.under (h:WkR base w s AV nV cV AB nB cB AO nO cO AG nG cG)(hb:Below w.heap.size w w')(hB:base<=w.heap.size):WkR base w' s AV nV cV AB nB cB AO nO cO AG nG cG:=
 ⟨h.v.below (hb.mono hB),h.b.below (hb.mono hB),h.lo,h.lg,own_under h.o hb (Nat.le_refl _),own_under h.g hb (Nat.le_refl _)⟩
theorem below_store (hg:base<=g)(hB:base<=w.heap.size)(i:Nat)(u:Value):Below base w (w.setCell ⟨g,i,none⟩ u):=
 (Below.refl base w).grown (row:=some g) (only_store (only_refl w (some g)) rfl u) hB (fun k hk=>by injection hk with hk;omega)
theorem WkR.store {cs:Array Value}(h:WkR base w s AV nV cV AB nB cB AO nO cO AG nG cG)(hh:Has w g 188 cs)(hg:base<=g)(hB:base<=w.heap.size)(i:Nat)(u:Value):WkR base (w.setCell ⟨g,i,none⟩ u) s AV nV cV AB nB cB AO nO cO AG nG cG:=by
 have hgr:w.grownBy (w.setCell ⟨g,i,none⟩ u) (some g):=only_store (only_refl w (some g)) rfl u;have hb:Below base w (w.setCell ⟨g,i,none⟩ u):=(Below.refl base w).grown hgr hB (fun k hk=>by injection hk with hk;omega);exact⟨h.v.below hb,h.b.below hb,h.lo,h.lg,own_keep h.o hgr (own_apart h.o hh (by decide)),own_keep h.g hgr (own_apart h.g hh (by decide))⟩
end
theorem width_one (v:Int)(h0:0<=v)(h1:v<96):1<=widthOf v/\widthOf v<=32:=by
 have h:=vall (fun n=>decide (1<=widthOf n) &&decide (widthOf n<=32)) (by kernel_rfl) v h0 h1;rw[Int.toNat_of_nonneg h0]at h
 simpa using h
def KeepStr (w w':World):Prop:= ∀(k:Nat) (cs:Array Value) (fr:Nat×Nat),w.heap[k]?=some (.cells cs 9 fr)->w'.heap[k]?=some (.cells cs 9 fr)
structure Fr (base:Nat) (w w':World):Prop where
 b:Below base w w'
 k:KeepStr w w'
theorem Fr.refl (base:Nat)(w:World):Fr base w w:=⟨Below.refl _ _,fun _ _ _ h=>h⟩
theorem Fr.trans {base:Nat}{a b c:World}(h:Fr base a b)(k:Fr base b c):Fr base a c:=⟨h.b.trans k.b,fun i cs fr x=>k.k i cs fr (h.k i cs fr x)⟩
theorem Fr.size {base:Nat}{a b:World}(h:Fr base a b):a.heap.size<=b.heap.size:=h.b.size
theorem keep_call {w w':World}(hb:Below w.heap.size w w'):KeepStr w w':=fun k cs fr h=>by
 have hk:k<w.heap.size:=(Array.getElem?_eq_some_iff.1 h).1;rw[hb.block k hk];exact h
theorem fr_call {base:Nat}{w w':World}(hb:Below w.heap.size w w')(hB:base<=w.heap.size):Fr base w w':=⟨hb.mono hB,keep_call hb⟩
theorem Fr.alloc {base:Nat}{a w:World}(h:Fr base a w)(hB:base<=w.heap.size)(o:Obj):Fr base a (w.alloc o):=h.trans (fr_call ((Below.refl _ w).alloc (Nat.le_refl _) o) hB)
theorem info_bits:(Tryz.prog.info? 185).map (fun i=>(i.zero,i.size,i.bytes))=some (some (.agg #[.int .i64 0,.int .i64 0]),2,16):=by kernel_rfl
theorem cell_news (w:World)(cs:Array Value)(t:TypeId)(l:List Value)(h:cs=l.toArray):Hid (∀i u,l[i]?=some u->(w.alloc (.cells cs t)).cell? ((⟨w.heap.size,0,none⟩:Addr).add i)=some u):=by
 subst h;intro i u hu;rw[WideShapes.add_plain,(Has.made w t _).cell,Nat.zero_add]
 simpa using hu
section
variable {base g:Nat} {w w':World} {s:WS} {AV:Option Addr} {nV cV:Nat} {AB:Option Addr} {nB cB:Nat} {AO:Option Addr} {nO cO:Nat} {AG:Option Addr} {nG cG:Nat}
theorem WkR.beside (h:WkR base w s AV nV cV AB nB cB AO nO cO AG nG cG)(hB:base<=w.heap.size)(o:Obj):WkR base (w.alloc o) s AV nV cV AB nB cB AO nO cO AG nG cG:=
 h.under ((Below.refl _ w).alloc (Nat.le_refl _) o) hB
end
end
section
open Go.RowKit
structure PkE where
 id:Int
 A:Option Addr
 n:Nat
 c:Nat
 V:List Int
def pkCells (l:List PkE):List Value:=l.flatMap fun p=>[.int .i64 p.id,.slice p.A p.n p.c]
def pkPlain (l:List PkE):List (Int×List Int):=l.map fun p=>(p.id,p.V)
theorem pkCells_at: ∀(l:List PkE) (j:Nat) (h:j<l.length),(pkCells l)[j*2]?=some (.int .i64 l[j].id)/\(pkCells l)[j*2+1]?=some (.slice l[j].A l[j].n l[j].c)
 |p::l,0,_=>⟨rfl,rfl⟩
 |p::l,j+1,h=>by
  have:=pkCells_at l j (by simpa using h);rw[show pkCells (p::l)= .int .i64 p.id:: .slice p.A p.n p.c::pkCells l from rfl,show(j+1)*2=j*2+1+1 by omega];exact this
structure SlK (w:World) (A:Option Addr) (m c:Nat) (l:List PkE):Prop where
 len:l.length=m
 cap:m<=c
 sl:Sl w 2 A m c (pkCells l)
 each: ∀p∈l,SlI w.heap.size w p.A p.n p.c p.V
theorem sliUnder {w w':World}{A:Option Addr}{n c:Nat}{V:List Int}(h:SlI w.heap.size w A n c V)(hb:Below w.heap.size w w'):SlI w'.heap.size w' A n c V:=by
 have h2:=h.below hb;exact⟨h2.len,h2.cap,h2.sl,fun hc a ha=>Nat.lt_of_lt_of_le (h2.low hc a ha) hb.size⟩
theorem SlK.under {w w':World}{A:Option Addr}{m c:Nat}{l:List PkE}(h:SlK w A m c l)(hb:Below w.heap.size w w'):SlK w' A m c l:=
 ⟨h.len,h.cap,h.sl.under hb,fun p hp=>sliUnder (h.each p hp) hb⟩
theorem SlK.at_ {w:World}{A:Option Addr}{m c:Nat}{l:List PkE}(h:SlK w A m c l){j:Nat}(hj:j<l.length):
  ∃b off,A=some ⟨b,off,none⟩/\w.cell? ⟨b,off+j*2,none⟩=some (.int .i64 l[j].id)/\w.cell? ⟨b,off+j*2+1,none⟩=some (.slice l[j].A l[j].n l[j].c):=by
 obtain⟨h1,h2⟩:=pkCells_at l j hj;obtain⟨b,off,hA,hc⟩:=h.sl.at_ h1;obtain⟨b',off',hA',hc'⟩:=h.sl.at_ h2;rw[hA]at hA';simp only[Option.some.injEq,Addr.mk.injEq,and_true]at hA';obtain⟨rfl,rfl⟩:=hA';exact⟨b,off,hA,hc,by rw[<-Nat.add_assoc]at hc';exact hc'⟩
end
section
open Go.RowKit
open Go.Great
theorem flat_ints17 (V:List Int):V.flatMap inC=ints V:=by
 induction V with
 |nil=>rfl
 |cons x r ih=>rw[List.flatMap_cons,ih];rfl
theorem sli_of17 {base:Nat}{w:World}{A:Option Addr}{n c:Nat}{V:List Int}(h:OwR inC 1 3 base w A n c V):SlI w.heap.size w A n c V:=
 ⟨h.2,h.cap,by rw[<-flat_ints17];exact h.sl.2,fun _ a ha=>h.lt ha⟩
def pkC17 (p:PkE):List Value:=[.int .i64 p.id,.slice p.A p.n p.c]
theorem one_pk17 (p:PkE): ∀u∈pkC17 p,u.oneCell'=true:=by
 intro u hu;simp only[pkC17,List.mem_cons,List.not_mem_nil,or_false]at hu
 rcases hu with rfl|rfl<;>rfl
theorem info_pk17:(Tryz.prog.info? 98).map (fun i=>(i.zero,i.size,i.bytes))=some (some (.agg #[.int .i64 0,.slice none 0 0]),2,32):=by kernel_rfl
theorem slk_of17 {base:Nat}{w:World}{A:Option Addr}{n c:Nat}{L:List PkE}(h:OwR pkC17 2 98 base w A n c L)(he: ∀p∈L,SlI w.heap.size w p.A p.n p.c p.V):SlK w A n c L:=⟨h.2,h.cap,h.sl.2,he⟩
theorem slk_nil17 (w:World):SlK w none 0 0 []:=⟨rfl,Nat.le_refl _,sl_nil _ _,fun _ h=>by cases h⟩
theorem end_sum17 {t:Tp3}{m:Ma3}(h:mayM t m=true):0<=endM m+m.gap/\endM m+m.gap<=41000000:=by
 have h1:=mayM_iff.1 h;have h2:=len_ok h1.len;have h3:=(sum_ok (check_routes h1.check).1 h2.2.2.1).2;have h4:0<=endM m:=secs_last h1.secs;have h5:=h1.gap0;have h6:=h1.fits;have h7:=(on_bnd17 t m.path (placeM t m)).1;have h8:behindM t m=(onE t m.path (placeM t m)).1:=rfl;omega
theorem tell_none17 {m:Ma3}{u:Int}(h:fifteenE m u=none):secsT m u=([],7):=by
 unfold fifteenE at h;unfold secsT
 cases hq:secsV u 0 m.sects with
 |none=>rfl
 |some w=>rw[hq]at h;cases h
theorem tell_some17 {m:Ma3}{u:Int}{v:List Int}(h:fifteenE m u=some v):(secsT m u).2=0/\v=[dirB m.rev,u]++(secsT m u).1:=by
 unfold fifteenE at h;unfold secsT
 cases hq:secsV u 0 m.sects with
 |none=>rw[hq]at h;cases h
 |some w=>
  rw[hq]at h;injection h with h
  rw[<-h];exact⟨rfl,rfl⟩
theorem opn_packets (t:Tp3)(a:TpA)(m:Ma3)(b:MaA)(w:World)(ht:TopR w t a)(hl:lightT t=true)(hcj:t.joints.length<=a.cj)(hm:MaR w m b)(hn:m.path.length<=100)(hk:m.sects.length<=100):Calls Tryz.prog 25 #[.agg (tpC t a),.agg (maC m b)] w fun r w'=> ∃(B:Option Addr) (k c:Nat) (L:List PkE),r= .returned (.tuple #[.slice B k c,.int .i64 (packetsE t m).2])/\SlK w' B k c L/\pkPlain L=(packetsE t m).1/\Below w.heap.size w w':=by
 have HMY:=zq (fun W (hW:Below w.heap.size w W)=>opn_may t a m b W (ht.under hW) hl hcj (hm.under hW) hn hk);obtain⟨R,hR⟩:=geZ (packetsE t m);rw[hR];have HR:=zq hR;have HTL:=zq (fun(hmay:mayM t m=true) u W (hW:Below w.heap.size w W)=>optellinks_any t a m b u W (ht.under hW) hl hcj (hm.under hW) hmay);have HTS:=zq (fun u W (hW:Below w.heap.size w W)=>optellsecs_any m b u W (hm.under hW) hk);have HED:=zq (fun W (hW:Below w.heap.size w W) h1=>opend_any m b W (hm.under hW).sects h1 (by omega));obtain⟨my,hmy⟩: ∃x,mayM t m=x:=⟨_,rfl⟩
 rw[hmy]at HMY;have HMB:=zq hmy;clear hmy hR hm hn hk;obtain⟨wa,hwa,hbwa,HWA,HBWA,h0,h1⟩:=bx2Z w 27 (tpC t a) 38 (maC m b);have H0:=zH h0;have H1:=zH h1;have HUP:=zq (fun W (hW:Below wa.heap.size wa W)=>HBWA.out.trans (hW.mono HBWA.out.size));clear hwa hbwa h0 h1 ht hl hcj;go_enter Tryz.func25,Tryz.ntmps25;go_upto_region 1 with fail;rw[HWA.out];clear HWA;go_wp2_with (first|(with_reducible refine ldZ 11 (H0.out wa (Below.refl _ _)) ?_)|(with_reducible refine ldZ 12 (H1.out wa (Below.refl _ _)) ?_));refine(HMY.out wa HBWA.out).mono ?_;rintro e_ w1 ⟨rfl,hb1⟩;have HB1:=zq hb1;clear hb1 HMY
 cases my with
 |false=>
  have HF:=zq (show R=([],1)from by rw[<-HR.out];unfold packetsE;rw[if_pos HMB.out]);go_wp2;go_ret2
  exact⟨none,0,0,[],by rw[HF.out];rfl,slk_nil17 _,by rw[HF.out];rfl,HUP.out _ HB1.out⟩
 |true=>
 have HP:=zq (may_path17 HMB.out);obtain⟨S,hS⟩:=geZ (endM m+m.gap);have HSB:=zq (show 0<=S/\S<=41000000 from by rw[<-hS];exact end_sum17 HMB.out);have HS:=zq hS;have hw1:IntKind.i64.wrap (endM m+m.gap)=S:=by rw[IntKind.wrap_i64];have:=HSB.out;omega
 have HW1:=zq hw1;obtain⟨B,hB⟩:=geZ (bestOf S);have HBE:Hid (∀W,Calls Tryz.prog 29 #[.int .i64 S] W fun e w'=>e= .returned (.int .i64 B)/\Below W.heap.size W w'):=zq (fun W=>(best_any S W).mono (fun e w' h=>⟨by rw[h.1,hB],by rw[<-h.2];exact Below.refl _ _⟩));have HBQ:=zq hB;clear hS hw1 hB;go_upto_region 3 with fail;refine wp_region_held_drew (S:=(fun W_=>(Has W_ (w.heap.size+1) 38 (maC m b))/\(Below wa.heap.size wa W_))) (by kernel_rfl) ?_ (fun hHeld=>?_)
 ·exact⟨(H1.out _ HB1.out).draw,below_dr11 HB1.out⟩
 refine tlZ 0 15 (w.heap.size+1) (maC m b) (fun _ ⟨h_,_⟩=>h_) (h:=?_);simp only[lyZ];refine tkZ 2 17 (h:=?_);simp only[lyZ];refine tqZ 3 18 (fun w_ ⟨s0,s1⟩=>(show w_.cell? ⟨w.heap.size+1,4,none⟩=some (.int .i64 m.gap:Value)from s0.cell 4)) (h:=?_);simp only[lyZ];refine aoZ 1 (some 16) (fun K hK=>?_);go_simp;obtain⟨s0,s1⟩:=hHeld;refine(HED.out _ (HUP.out _ s1) HP.out.2.2.1).mono ?_;rintro e_ q1 ⟨rfl,hb_⟩;go_wp2_with fail;refine hK.out _ _ ?_ (fun hHeld=>?_)
 ·exact⟨s0.u hb_,bu s1 hb_⟩
 clear hK K s0 s1
 try simp only[lyZ]
 refine tqZ 4 19 (fun w_ ⟨s0,s1⟩=>HW1.out) (h:=?_);simp only[lyZ];refine aoZ 5 (some 20) (fun K hK=>?_);go_simp;obtain⟨s0,s1⟩:=hHeld;refine(HBE.out _).mono ?_;rintro e_ q2 ⟨rfl,hb2_⟩;go_wp2_with fail;refine hK.out _ _ ?_ (fun hHeld=>?_)
 ·exact⟨s0.u hb2_,bu s1 hb2_⟩
 clear hK K s0 s1
 try simp only[lyZ]
 refine tkZ 6 6 (h:=?_);simp only[lyZ];refine dnZ ?_;obtain⟨w3,hw3⟩: ∃u,u=q2:=⟨_,rfl⟩
 subst hw3;have HB3:=zq hHeld.2;clear hHeld HBE HED;by_cases z:B<0
 ·have q1:decide (B<0)=true:=decide_eq_true z
  have HZ:=zq z;clear z;have HF:=zq (show R=([],7)from by rw[<-HR.out];unfold packetsE;rw[if_neg (by rw[HMB.out];decide),HS.out,HBQ.out,if_pos HZ.out]);go_wp2;go_ret2
  exact⟨none,0,0,[],by rw[HF.out];rfl,slk_nil17 _,by rw[HF.out];rfl,HUP.out _ HB3.out⟩
 have q1:decide (B<0)=false:=decide_eq_false z;have HR:=zq (show(match fifteenE m B with|none=>(([],7):List (Int×List Int)×Int)|some v=>if m.path.length=1 then([(15,v)],0)else if(linksV t m B (behindM t m) true (m.path.drop 1)).2≠0 then([],(linksV t m B (behindM t m) true (m.path.drop 1)).2)else([(15,v),(5,dirB m.rev::B::(linksV t m B (behindM t m) true (m.path.drop 1)).1)],0))=R from by rw[<-HR.out];unfold packetsE;rw[if_neg (by rw[HMB.out];decide),HS.out,HBQ.out,if_neg z];rfl);have HTSB:=zq (HTS.out B w3 (HUP.out _ HB3.out));obtain⟨ST15,hst⟩: ∃q,secsT m B=q:=⟨_,rfl⟩
 rw[hst]at HTSB;obtain⟨S1,S2⟩:=ST15;dsimp only at HTSB;have HST:=zq hst;clear z hst HTS HBQ;go_upto_region 6 with fail;clear q1;go_wp2_with (with_reducible refine ldZ 24 (H1.out w3 HB3.out) ?_);refine HTSB.out.mono ?_;rintro e_ w4 ⟨A4,n4,c4,rfl,hs4,hn4,hb4⟩;have HB4:=tB HB3 hb4;have HS4:=zq hs4;have HN4:=zq hn4;clear hb4 hs4 hn4 HTSB HB3
 cases hfi:fifteenE m B with
 |none=>
  obtain⟨rfl,rfl⟩:S1=[]/\S2=7:=by have h_:=HST.out;rw[tell_none17 hfi]at h_;injection h_ with h1_ h2_;exact⟨h1_.symm,h2_.symm⟩
  rw[hfi]at HR;clear hfi;have q1:((7:Int) !=0)=true:=rfl;have HF:=zq (HR.out.symm);go_wp2;go_ret2
  exact⟨none,0,0,[],by rw[HF.out];rfl,slk_nil17 _,by rw[HF.out];rfl,HUP.out _ HB4.out⟩
 |some v=>
 obtain⟨h1_,hv⟩:=tell_some17 hfi;rw[HST.out]at h1_ hv;dsimp only at h1_ hv;subst h1_;rw[hfi]at HR;dsimp only at HR;have HV:=zq hv;have q1:((0:Int) !=0)=false:=rfl;clear hfi hv HST;have m1:w4.cell? ⟨w.heap.size+1,1,none⟩=some (.bool m.rev):=(H1.out w4 HB4.out).cell 1;obtain⟨DR,hDR⟩: ∃d,dirB m.rev=d:=⟨_,rfl⟩
 have HDI:=zq (fun W=>opdir_any m.rev W);rw[hDR]at HDI HR HV;clear hDR;go_upto_region 9 with fail;clear q1;go_wp2_with fail;refine(HDI.out w4).mono ?_;rintro e_ w4' ⟨rfl,hq4⟩;subst hq4;obtain⟨hO,hSL,h1,hBD⟩:=pourR 8 (base:=w4'.heap.size) (e:=3) (w:=w4'.alloc (.cells #[.int .i64 DR,.int .i64 B] 3)) (A:=some ⟨w4'.heap.size,0,none⟩) (n:=2) (c:=2) (l:=[DR,B]) (⟨World.ownsRow_lit (base:=w4'.heap.size) (e:=3) (size:=1) w4' #[.int .i64 DR,.int .i64 B] 2 (Nat.le_refl _) (by unfold maxLen;omega) rfl,rfl⟩:OwR inC 1 3 w4'.heap.size (w4'.alloc (.cells #[.int .i64 DR,.int .i64 B] 3)) (some ⟨w4'.heap.size,0,none⟩) 2 2 [DR,B]) (HS4.out.under ((Below.refl _ _).alloc (Nat.le_refl _) (.cells #[.int .i64 DR,.int .i64 B] 3))) one_in15 (by simp) (by have:=HN4.out;omega) (by omega);go_wp2_with (with_reducible refine wpList_pour (o:=⟨some 38,_,_,_,_,_⟩) rfl (.tmp 36) (.tmp 37) 22 rfl w4'.heap.size 3 (.int .i64 0) 1 8 Tryz.underlying22 info_int15 ?hz1 (by decide) (some ⟨w4'.heap.size,0,none⟩) 2 2 _ ?hs1 hO A4 n4 c4 _ ?hx1 hSL h1 hBD ?next1)
 all_goals try rfl
 intro A5 c5 w5 ho5 hg5;have HO5:=zq (show OwR inC 1 3 w4'.heap.size w5 A5 (2+n4) c5 v from by rw[HV.out];exact OwR.poured (l:=[DR,B]) rfl HS4.out.1 ho5.out);have HB5:=zq (below_own (HB4.out.trans ((bA).mono HB4.out.size)) (Nat.le_trans HB4.out.size (by simp)) hO.out HB4.out.size rfl hg5.out);have HSZ:=zq (show wa.heap.size<=w4'.heap.size from HB4.out.size);clear ho5 hg5 hO hSL h1 hBD HB4 m1 HS4;obtain⟨w6,hw6⟩: ∃u,w5.alloc (.cells #[.int .i64 15,.slice A5 (2+n4) c5] 98)=u:=⟨_,rfl⟩
 have hb6:Below w5.heap.size w5 w6:=by rw[<-hw6];exact bA
 have HB6:=tB HB5 hb6;have HO6:=zq (HO5.out.under hb6);have HK6:=zq (show OwR pkC17 2 98 w5.heap.size w6 (some ⟨w5.heap.size,0,none⟩) 1 1 [⟨15,A5,2+n4,c5,v⟩]from by rw[<-hw6];exact⟨World.ownsRow_lit (base:=w5.heap.size) (e:=98) (size:=2) w5 #[.int .i64 15,.slice A5 (2+n4) c5] 1 (Nat.le_refl _) (by unfold maxLen;omega) rfl,rfl⟩);have HW6:=zq hw6;obtain⟨g5,hg5⟩: ∃g,w5.heap.size=g:=⟨_,rfl⟩
 have HG5:=zq hg5;rw[hg5]at HK6;have HS5:=zq (show wa.heap.size<=g5 from by rw[<-hg5];exact HB5.out.size);clear hw6 hb6 hg5 HB5 HO5;go_upto_region 10 with fail;rw[HW6.out];simp only[HG5.out];clear HW6 HG5;obtain⟨pn,hpn⟩: ∃n,m.path.length=n:=⟨_,rfl⟩
 have m2:w6.cell? ⟨w.heap.size+1,2,none⟩=some (.slice b.ap pn b.cp):=by rw[<-hpn];exact(H1.out w6 HB6.out).cell 2
 have HPN:=zq hpn;rw[hpn]at HR HP;clear hpn;by_cases z:pn=1
 ·have q1:((pn:Int)==1)=true:=by simp[z]
  have q2:(pn:Int)=1:=by omega
  have HF:=zq (HR.out.symm.trans (if_pos z));have HZ:=zq z;clear z;go_wp2;go_ret2
  refine⟨some ⟨g5,0,none⟩,1,1,[⟨15,A5,2+n4,c5,v⟩],by rw[HF.out];rfl,slk_of17 HK6.out (fun p_ hp_=>?_),by rw[HF.out];rfl,HUP.out _ HB6.out⟩;rw[List.mem_singleton]at hp_;subst hp_;exact sli_of17 HO6.out
 have q1:((pn:Int)==1)=false:=by simp;omega
 have q2: ¬(pn:Int)=1:=by omega
 have HR:=zq ((if_neg z).symm.trans HR.out);have HTLB:=zq (HTL.out HMB.out B w6 (HUP.out _ HB6.out));obtain⟨LV,hLV⟩: ∃q,(linksV t m B (behindM t m) true (m.path.drop 1))=q:=⟨_,rfl⟩
 rw[hLV]at HTLB HR;obtain⟨L1,L2⟩:=LV;dsimp only at HTLB HR;clear z hLV HTL;go_upto_region 12 with fail;clear q1 q2 m2;go_wp2_with (first|(with_reducible refine ldZ 47 (H0.out w6 HB6.out) ?_)|(with_reducible refine ldZ 48 (H1.out w6 HB6.out) ?_));refine HTLB.out.mono ?_;rintro e_ w8 ⟨A8,n8,c8,rfl,hs8,hn8,hb8⟩;have HB8:=tB HB6 hb8;have HS8:=zq hs8;have HN8:=zq hn8;have HO8:=zq (HO6.out.under hb8);have HK8:=zq (HK6.out.under hb8);clear hb8 hs8 hn8 HTLB HB6 HO6 HK6;by_cases z:L2=0;rotate_left
 ·have q1:(L2 !=0)=true:=by simp[z]
  have HZ:=zq z;clear z;have HF:=zq (HR.out.symm.trans (if_pos HZ.out));go_wp2;go_ret2
  exact⟨none,0,0,[],by rw[HF.out];rfl,slk_nil17 _,by rw[HF.out];rfl,HUP.out _ HB8.out⟩
 subst z;have q1:((0:Int) !=0)=false:=rfl;have HF:=zq (HR.out.symm.trans (if_neg (by simp)));clear HR;have m1:w8.cell? ⟨w.heap.size+1,1,none⟩=some (.bool m.rev):=(H1.out w8 HB8.out).cell 1;go_upto_region 15 with fail;clear q1;go_wp2_with fail;refine(HDI.out w8).mono ?_;rintro e_ w8' ⟨rfl,hq8⟩;subst hq8;obtain⟨hO,hSL,h1,hBD⟩:=pourR 8 (base:=w8'.heap.size) (e:=3) (w:=w8'.alloc (.cells #[.int .i64 DR,.int .i64 B] 3)) (A:=some ⟨w8'.heap.size,0,none⟩) (n:=2) (c:=2) (l:=[DR,B]) (⟨World.ownsRow_lit (base:=w8'.heap.size) (e:=3) (size:=1) w8' #[.int .i64 DR,.int .i64 B] 2 (Nat.le_refl _) (by unfold maxLen;omega) rfl,rfl⟩:OwR inC 1 3 w8'.heap.size (w8'.alloc (.cells #[.int .i64 DR,.int .i64 B] 3)) (some ⟨w8'.heap.size,0,none⟩) 2 2 [DR,B]) (HS8.out.under ((Below.refl _ _).alloc (Nat.le_refl _) (.cells #[.int .i64 DR,.int .i64 B] 3))) one_in15 (by simp) (by have:=HN8.out;omega) (by omega);go_wp2_with (with_reducible refine wpList_pour (o:=⟨some 63,_,_,_,_,_⟩) rfl (.tmp 61) (.tmp 62) 22 rfl w8'.heap.size 3 (.int .i64 0) 1 8 Tryz.underlying22 info_int15 ?hz2 (by decide) (some ⟨w8'.heap.size,0,none⟩) 2 2 _ ?hs2 hO A8 n8 c8 _ ?hx2 hSL h1 hBD ?next2)
 all_goals try rfl
 intro A9 c9 w9 ho9 hg9;have HO9:=zq (show OwR inC 1 3 w8'.heap.size w9 A9 (2+n8) c9 ([DR,B]++L1)from OwR.poured (l:=[DR,B]) rfl HS8.out.1 ho9.out);have hbz:Below w8'.heap.size w8' w9:=below_own (bA) (by simp) hO.out (Nat.le_refl _) rfl hg9.out;have HB9:=tB HB8 hbz;have HX9:=zq (HO8.out.under hbz);have HK9:=zq (HK8.out.under hbz);clear ho9 hg9 hO hSL h1 hBD HB8 m1 HS8 hbz HO8 HK8;have hbq:Below w9.heap.size w9 (w9.alloc (.cells #[.int .i64 5,.slice A9 (2+n8) c9] 98)):=bA;have HBQ:=tB HB9 hbq;have HOQ:=zq (HO9.out.under hbq);have HXQ:=zq (HX9.out.under hbq);obtain⟨hO,hSL,h1,hBD⟩:=pourR 32 (HK9.out.under hbq) (⟨rfl,sl_hasR (Has.made _ _ _) rfl⟩:SlO pkC17 2 (w9.alloc (.cells #[.int .i64 5,.slice A9 (2+n8) c9] 98)) (some ⟨w9.heap.size,0,none⟩) 1 1 [⟨5,A9,2+n8,c9,[DR,B]++L1⟩]) one_pk17 (Nat.le_trans (Nat.le_of_lt (HK9.out.lt rfl)) (by simp)) (by omega) (by omega);go_wp2_with (with_reducible refine wpList_pour (o:=⟨some 66,_,_,_,_,_⟩) rfl (.tmp 56) (.tmp 65) 44 rfl g5 98 (.agg #[.int .i64 0,.slice none 0 0]) 2 32 Tryz.underlying44 info_pk17 ?hz3 (by decide) (some ⟨g5,0,none⟩) 1 1 _ ?hs3 hO (some ⟨w9.heap.size,0,none⟩) 1 1 _ ?hx3 hSL h1 hBD ?next3)
 all_goals try rfl
 intro AZ cz wz hoz hgz;have HOZ:=zq (show OwR pkC17 2 98 g5 wz AZ (1+1) cz (([⟨15,A5,2+n4,c5,v⟩]:List PkE)++([⟨5,A9,2+n8,c9,[DR,B]++L1⟩]:List PkE))from OwR.poured (l:=([⟨15,A5,2+n4,c5,v⟩]:List PkE)) (l':=([⟨5,A9,2+n8,c9,[DR,B]++L1⟩]:List PkE)) rfl rfl hoz.out);have HBZ:=zq (below_own HBQ.out HBQ.out.size hO.out HS5.out rfl hgz.out);have HVZ:=zq (HXQ.out.kept hgz.out (OwR.two HXQ.out (HK9.out.under hbq) (by decide)));have HLZ:=zq (HOQ.out.kept hgz.out (OwR.two HOQ.out (HK9.out.under hbq) (by decide)));clear hoz hgz hO hSL h1 hBD HK9 HX9 HO9 HB9 HXQ HOQ HBQ hbq;go_wp2;go_ret2
 refine⟨AZ,1+1,cz,_,by rw[HF.out];rfl,slk_of17 HOZ.out (fun p_ hp_=>?_),by rw[HF.out];rfl,HUP.out _ HBZ.out⟩
 rcases List.mem_cons.1 hp_ with rfl|hp_
 ·exact sli_of17 HVZ.out
 ·rcases List.mem_cons.1 hp_ with rfl|hp_
  ·exact sli_of17 HLZ.out
  ·cases hp_
end
section
open Go.RowKit
def many (k:Nat)(last:Int):Nat:=if k=0 then last.toNat else if last=1 then 1 else if k=2/\last=2 then 1 else 0
def repS (f:WS->WS):Nat->WS->WS
 |0,s=>s
 |m+1,s=>if s.e≠0 then s else repS f m (f s)
mutual
def runN:Nd->Int->WS->Int×WS
 | .v n,_,s=>oneS n s
 | .g k b,last,s=>(last,repS (fun s=>runL b 0 s) (many k last) s)
def runL:List Nd->Int->WS->WS
 |[],_,s=>s
 |x::l,last,s=>if s.e≠0 then s else runL l (runN x last s).1 (runN x last s).2
end
mutual
def noN:Nd->Bool
 | .v n=>decide (n≠7)
 | .g _ b=>noL b
def noL:List Nd->Bool
 |[]=>true
 |x::l=>noN x &&noL l
end
mutual
def goodN:Nd->Bool
 | .v n=>decide (n<96)
 | .g k b=>decide (k<3) &&(goodL b &&noL b)
def goodL:List Nd->Bool
 |[]=>true
 |x::l=>goodN x &&goodL l
end
def c7:List Nd->Nat
 |[]=>0
 | .v n::l=>(if n=7 then 1 else 0)+c7 l
 | .g _ _::l=>c7 l
structure Inv (s:WS) (slack:Nat):Prop where
 b:s.bits.length<=1000000
 v:s.V.length<=1000000
 g:s.got.length<=s.out.length
 o:s.out.length+(if s.rd=true then s.bits.length else s.V.length)+slack<=1000000
theorem inv_keep (v n:Int)(s:WS)(k:Nat)(h:Inv s (k+1)):Inv (keep v n s) k:=by
 obtain⟨h1,h2,h3,h4⟩:=h;unfold keep;split
 ·exact⟨h1,h2,by simp;omega,by simp only[List.length_append,List.length_singleton];omega⟩
 ·split
  ·exact⟨h1,h2,by simp;omega,by simp only[List.length_append,List.length_singleton];omega⟩
  ·exact⟨h1,h2,by simp;omega,by simp only[List.length_append,List.length_singleton];omega⟩
theorem inv_less {s:WS}{k k':Nat}(h:Inv s k)(hk:k'<=k):Inv s k':=⟨h.b,h.v,h.g,by have:=h.o;omega⟩
theorem inv_err {s:WS}{k:Nat}(h:Inv s k)(e:Int):Inv {s with e:=e} k:=⟨h.b,h.v,h.g,h.o⟩
theorem inv_fetch (v:Int)(hv0:0<=v)(hv1:v<96)(s:WS)(k:Nat)(h:Inv s (k+if v=7 then 1 else 0))(he:(fetch v s).2.e=0):Inv (fetch v s).2 (k+1):=by
 obtain⟨w1,w2⟩:=width_one v hv0 hv1;obtain⟨h1,h2,h3,h4⟩:=h
 revert he
 unfold fetch;by_cases hr:s.rd=true
 ·rw[if_pos hr]
  rw[if_pos hr]at h4;by_cases hs:s.bits.length<widthOf v
  ·rw[if_pos hs]
   intro he;exact absurd he (by show(10:Int)≠0;decide)
  ·rw[if_neg hs]
   have hl:(s.bits.drop (widthOf v)).length+1<=s.bits.length:=by rw[List.length_drop];omega
   exact fun _=>⟨by show(s.bits.drop (widthOf v)).length<=_;omega,h2,h3,by show s.out.length+(if s.rd=true then(s.bits.drop (widthOf v)).length else s.V.length)+(k+1)<=_;rw[if_pos hr];omega⟩
 ·rw[if_neg hr]
  rw[if_neg hr]at h4;by_cases h7:v=7
  ·rw[if_pos h7]
   rw[if_pos h7]at h4;exact fun _=>⟨h1,h2,h3,by show s.out.length+(if s.rd=true then s.bits.length else s.V.length)+(k+1)<=_;rw[if_neg hr];omega⟩
  ·rw[if_neg h7]
   rw[if_neg h7]at h4;by_cases hV:s.V=[]
   ·rw[if_pos hV]
    intro he;exact absurd he (by show(20:Int)≠0;decide)
   ·rw[if_neg hV]
    obtain⟨V0,VT,hVc⟩:=List.exists_cons_of_ne_nil hV;have hl:s.V.tail.length+1=s.V.length:=by rw[hVc];simp
    exact fun _=>⟨h1,by show s.V.tail.length<=_;omega,h3,by show s.out.length+(if s.rd=true then s.bits.length else s.V.tail.length)+(k+1)<=_;rw[if_neg hr];omega⟩
theorem inv_fetch_bad (v:Int)(s:WS)(k:Nat)(h:Inv s k)(he:(fetch v s).2.e≠0)(h0:s.e=0):Inv (fetch v s).2 k:=by
 revert he
 unfold fetch;split
 ·split
  ·exact fun _=>inv_err h _
  ·exact fun he=>absurd h0 he
 ·split
  ·exact fun he=>absurd h0 he
  ·split
   ·exact fun _=>inv_err h _
   ·exact fun he=>absurd h0 he
theorem inv_one (v:Int)(hv0:0<=v)(hv1:v<96)(s:WS)(k:Nat)(h:Inv s (k+if v=7 then 1 else 0)):Inv (oneS v s).2 k:=by
 unfold oneS;by_cases he:s.e≠0
 ·rw[if_pos he]
  exact inv_less h (by omega)
 ·rw[if_neg he]
  by_cases hf:(fetch v s).2.e≠0
  ·rw[if_pos hf]
   exact inv_less (inv_fetch_bad v s _ h hf (by omega)) (by omega)
  ·rw[if_neg hf]
   have hi:=inv_fetch v hv0 hv1 s k h (by omega);split
   ·exact inv_err (inv_less hi (by omega)) _
   ·exact inv_keep v _ _ k hi
theorem inv_rep (f:WS->WS)(k:Nat)(hf: ∀s,Inv s k->Inv (f s) k): ∀(m:Nat) (s:WS),Inv s k->Inv (repS f m s) k
 |0,s,h=>h
 |m+1,s,h=>by
  rw[repS];split
  ·exact h
  ·exact inv_rep f k hf m _ (hf s h)
theorem noL_c7: ∀b:List Nd,noL b=true->c7 b=0
 |[],_=>rfl
 | .v n::l,h=>by
  simp only[noL,noN,Bool.and_eq_true,decide_eq_true_eq]at h;rw[c7,if_neg h.1,noL_c7 l h.2]
 | .g _ _::l,h=>by
  simp only[noL,Bool.and_eq_true]at h;rw[c7,noL_c7 l h.2]
theorem inv_oneN (n:Nat)(hn:n<96)(s:WS)(k:Nat)(h:Inv s (k+if n=7 then 1 else 0)):Inv (oneS n s).2 k:=by
 refine inv_one n (by omega) (by omega) s k ?_;by_cases h7:n=7
 ·subst h7;exact h
 ·rw[if_neg (by omega)];rw[if_neg h7]at h;exact h
mutual
theorem inv_runN: ∀(x:Nd) (l:List Nd) (last:Int) (s:WS) (k:Nat),goodN x=true->Inv s (k+c7 (x::l))->Inv (runN x last s).2 (k+c7 l)
 | .v n,l,last,s,k,hg,h=>by
  simp only[goodN,decide_eq_true_eq]at hg;rw[c7]at h;simp only[runN];exact inv_oneN n hg s _ (inv_less h (by omega))
 | .g kk b,l,last,s,k,hg,h=>by
  simp only[goodN,Bool.and_eq_true,decide_eq_true_eq]at hg;rw[c7]at h;simp only[runN];refine inv_rep _ _ (fun s hs=>?_) _ _ h;exact inv_runL b 0 s _ hg.2.1 (by rw[noL_c7 b hg.2.2];exact hs)
theorem inv_runL: ∀(b:List Nd) (last:Int) (s:WS) (k:Nat),goodL b=true->Inv s (k+c7 b)->Inv (runL b last s) k
 |[],last,s,k,hg,h=>by simp only[runL];exact inv_less h (by omega)
 |x::l,last,s,k,hg,h=>by
  simp only[goodL,Bool.and_eq_true]at hg;simp only[runL];split
  ·exact inv_less h (by omega)
  ·exact inv_runL l _ _ k hg.2 (inv_runN x l last s k hg.1 h)
end
end
section
open Go.RowKit
structure StrSl (w:World) (A:Option Addr) (n c:Nat) (l:List ByteArray):Prop where
 len:l.length=n
 cap:n<=c
 sl:Sl w 1 A n c (strs l)
 row: ∀a,A=some a-> ∃cs fr,w.heap[a.block]?=some (.cells cs 9 fr)
theorem StrSl.keep {w w':World}{A:Option Addr}{n c:Nat}{l:List ByteArray}(h:StrSl w A n c l)(k:KeepStr w w'):StrSl w' A n c l:=by
 refine⟨h.len,h.cap,⟨h.sl.1,h.sl.2.1,fun ad ha j u hu=>?_⟩,fun a ha=>?_⟩
 ·obtain⟨cs,fr,hr⟩:=h.row ad ha
  have h0:=h.sl.2.2 ad ha j u hu;rw[World.cell?_of_block (w:=w) (by rw[add_block,hr];exact k _ _ _ hr)];exact h0
 ·obtain⟨cs,fr,hr⟩:=h.row a ha
  exact⟨cs,fr,k _ _ _ hr⟩
theorem StrSl.of_own {base:Nat}{w:World}{A:Option Addr}{n c:Nat}{l:List ByteArray}(h:OwS base w A n c l):StrSl w A n c l:=by
 have hs:=Sl.of_own h;refine⟨by have:=hs.1;rw[strs_length]at this;omega,?_,hs,fun a ha=>?_⟩
 ·rcases h.2 with⟨e,e2⟩|⟨g,cap,cur,e,_,_,e2,_⟩
  ·omega
  ·injection e with _ _ e3;omega
 ·rcases h.2 with⟨e,_⟩|⟨g,cap,cur,e,_,hh,_⟩
  ·injection e with e;rw[e]at ha;cases ha
  ·injection e with e
   rw[e]at ha;injection ha with ha
   subst ha;exact⟨_,_,hh⟩
theorem StrSl.part {w:World}{A:Option Addr}{n c:Nat}{pre mid post:List ByteArray}(h:StrSl w A n c (pre++mid++post)):StrSl w (if c=pre.length then A else A.map (·.add (pre.length*1))) mid.length (c-pre.length) mid:=by
 have hl:=h.len;have hc:=h.cap;simp only[List.length_append]at hl;have h1:=h.sl.from_ hc (p:=pre.length) (by omega);have e1:(strs (pre++mid++post)).drop pre.length=strs mid++strs post:=by simp[strs]
 rw[e1]at h1;refine⟨rfl,by omega,⟨by rw[strs_length];omega,fun e=>?_,fun ad ha j u hu=>?_⟩,fun a ha=>?_⟩
 ·have:=h1.2.1 e;omega
 ·refine h1.2.2 ad ha j u ?_
  have hj:=(List.getElem?_eq_some_iff.1 hu).1;rw[List.getElem?_append_left hj];exact hu
 ·obtain⟨a0,h2,h3⟩:=from_block a ha
  rw[h3];exact h.row a0 h2
mutual
def szN:Nd->Nat
 | .v _=>1
 | .g _ b=>1+szL b
def szL:List Nd->Nat
 |[]=>0
 |x::l=>szN x+szL l
end
theorem szL_append (a b:List Nd):szL (a++b)=szL a+szL b:=by
 induction a with
 |nil=>simp[szL]
 |cons x l ih=>simp[szL,ih];omega
theorem may_small (v:Nat)(hv:v<96)(n:Int)(h:mayOf v n=true):n<=4294967296:=by
 have h1:=List.all_eq_true.1 (show(List.range 96).all (fun v=>decide (mostOf (v:Int)<=4294967296) &&decide (greatestOf (v:Int)<=4294967296))=true from by kernel_rfl) v (List.mem_range.2 hv);simp only[Bool.and_eq_true,decide_eq_true_eq]at h1;unfold mayOf at h;simp only[Bool.and_eq_true,Bool.or_eq_true,decide_eq_true_eq]at h;omega
end
section
open Go.RowKit
structure SlP (w:World) (A:Option Addr) (m c:Nat) (l:List (Int×Int)):Prop where
 len:l.length=m
 sl:Sl w 2 A m c (pairs l)
theorem SlP.under {w w':World}{A:Option Addr}{m c:Nat}{l:List (Int×Int)}(h:SlP w A m c l)(hb:Below w.heap.size w w'):SlP w' A m c l:=⟨h.len,h.sl.under hb⟩
theorem pairs_at: ∀(l:List (Int×Int)) (j:Nat),j<l.length->(pairs l)[j*2]?=some (.int .i64 (l.getD j (0,0)).1)/\(pairs l)[j*2+1]?=some (.int .i64 (l.getD j (0,0)).2)
 |[],j,h=>absurd h (by simp)
 |x::l,0,_=>⟨rfl,rfl⟩
 |x::l,j+1,h=>by
  have e:pairs (x::l)= .int .i64 x.1:: .int .i64 x.2::pairs l:=rfl;have ih:=pairs_at l j (by simpa using h);rw[e,show(j+1)*2=j*2+1+1 by omega,List.getElem?_cons_succ,List.getElem?_cons_succ,List.getElem?_cons_succ,List.getElem?_cons_succ];exact ih
theorem SlP.at_ {w:World}{A:Option Addr}{m c:Nat}{l:List (Int×Int)}(h:SlP w A m c l){j:Nat}(hj:j<m):
  ∃b off,A=some ⟨b,off,none⟩/\w.cell? ⟨b,off+j*2,none⟩=some (.int .i64 (l.getD j (0,0)).1)/\w.cell? ⟨b,off+j*2+1,none⟩=some (.int .i64 (l.getD j (0,0)).2):=by
 obtain⟨p1,p2⟩:=pairs_at l j (by have:=h.len;omega);obtain⟨b,off,e,h1⟩:=h.sl.at_ p1;obtain⟨b',off',e',h2⟩:=h.sl.at_ p2;subst e;simp only[Option.some.injEq,Addr.mk.injEq,and_true]at e';obtain⟨rfl,rfl⟩:=e';exact⟨b,off,rfl,h1,by rw[Nat.add_assoc];exact h2⟩
def totalOf (l:List (Int×Int)):Int:=l.foldl (fun n x=>n+x.2) 0
theorem total_snoc (l:List (Int×Int))(x:Int×Int):totalOf (l++[x])=totalOf l+x.2:=by simp[totalOf]
end
section
open Go.RowKit
structure SlN (w:World) (A:Option Addr) (m c:Nat) (l:List Int):Prop where
 len:l.length=m
 sl:Sl w 1 A m c (ints l)
theorem SlN.under {w w':World}{A:Option Addr}{m c:Nat}{l:List Int}(h:SlN w A m c l)(hb:Below w.heap.size w w'):SlN w' A m c l:=⟨h.len,h.sl.under hb⟩
theorem ints_at {l:List Int}{j:Nat}(h:j<l.length):(ints l)[j]?=some (.int .i64 (l.getD j 0)):=by
 simp[ints,List.getD_eq_getElem?_getD,List.getElem?_eq_getElem h]
theorem SlN.at_ {w:World}{A:Option Addr}{m c:Nat}{l:List Int}(h:SlN w A m c l){j:Nat}(hj:j<m): ∃b off,A=some ⟨b,off,none⟩/\w.cell? ⟨b,off+j,none⟩=some (.int .i64 (l.getD j 0)):=
 h.sl.at_ (ints_at (by have:=h.len;omega))
end
section
open Go.RowKit
def pkV (id:Int)(A:Option Addr)(n c:Nat):Value:= .agg #[.int .i64 id,.slice A n c]
end
section
open Go.RowKit
open BitsM
def laidOf (l:List (Int×Int)):List Bool:=l.flatMap fun x=>wbits x.1.toNat x.2.toNat x.2.toNat
def FitP (x:Int×Int):Prop:=0<=x.1/\x.1<4294967296/\1<=x.2/\x.2<=32
end
section
open Go.RowKit
open BitsM
def adv (s:WS)(D:List (Int×Int))(R:List Int):WS:= {s with V:=R,out:=s.out++D,got:=s.got++D.map Prod.fst}
def advB (s:WS)(D:List (Int×Int))(R:List Bool):WS:= {s with bits:=R,out:=s.out++D,got:=s.got++D.map Prod.fst}
structure Pk (f:WS->Int×WS) (last:Int) (D:List (Int×Int)):Prop where
 fit: ∀x∈D,FitP x
 items: ∀s R,s.rd=false->s.e=0->s.V=D.map Prod.fst++R->f s=(last,adv s D R)
 get: ∀s R,s.rd=true->s.e=0->s.bits=laidOf D++R->f s=(last,advB s D R)
 cut: ∀s,s.rd=true->s.e=0->s.bits.length<(laidOf D).length->s.bits=(laidOf D).take s.bits.length->(f s).2.e=10
theorem laid_append (a b:List (Int×Int)):laidOf (a++b)=laidOf a++laidOf b:=by simp[laidOf]
theorem laid_one (x:Int×Int):laidOf [x]=wbits x.1.toNat x.2.toNat x.2.toNat:=by simp[laidOf]
theorem may_fit (v:Nat)(hv:v<96)(n:Int)(h:mayOf v n=true):0<=n/\n<2^widthOf v:=by
 have h1:=List.all_eq_true.1 (show(List.range 96).all (fun v=>decide (mostOf (v:Int)<2^widthOf (v:Int)) &&decide (greatestOf (v:Int)<2^widthOf (v:Int)))=true from by kernel_rfl) v (List.mem_range.2 hv);simp only[Bool.and_eq_true,decide_eq_true_eq]at h1;unfold mayOf at h;simp only[Bool.and_eq_true,Bool.or_eq_true,decide_eq_true_eq]at h;omega
theorem fit_may (v:Nat)(hv:v<96)(n:Int)(h:mayOf v n=true):FitP (n,(widthOf v:Int)):=by
 have h1:=may_fit v hv n h;have h2:=width_one v (by omega) (by omega);have h3:(2:Int)^widthOf v<=2^32:=by
  have:(2:Nat)^widthOf v<=2^32:=Nat.pow_le_pow_right (by omega) h2.2
  exact_mod_cast this
 exact⟨h1.1,by omega,by simp only;omega,by simp only;omega⟩
theorem pk_v (v:Nat)(hv:v<96)(h5:v≠5)(h7:v≠7)(n:Int)(h:mayOf v n=true):Pk (fun s=>oneS v s) n [(n,(widthOf v:Int))]:=by
 have hf:=may_fit v hv n h;have hl:laidOf [(n,(widthOf v:Int))]=wbits n.toNat (widthOf v) (widthOf v):=by rw[laid_one];simp
 have hlen:(laidOf [(n,(widthOf v:Int))]).length=widthOf v:=by rw[hl,wbits_length]
 have hnum:(num (wbits n.toNat (widthOf v) (widthOf v)):Int)=n:=by
  rw[num_wbits _ _ (by
   have e:((n.toNat:Nat):Int)<((2^widthOf v:Nat):Int):=by rw[Int.toNat_of_nonneg hf.1];exact_mod_cast hf.2
   exact_mod_cast e)]
  exact Int.toNat_of_nonneg hf.1
 have k5: ¬((v:Int)=5):=by omega
 have k7: ¬((v:Int)=7):=by omega
 have hkeep: ∀s,keep v n s= {s with got:=s.got++[n],out:=s.out++[(n,(widthOf v:Int))]} :=fun s=>by rw[keep,if_neg k7,if_neg k5]
 refine⟨?_,?_,?_,?_⟩
 ·intro x hx
  simp only[List.mem_singleton]at hx;subst hx;exact fit_may v hv n h
 ·intro s R hrd he hV
  have hV':s.V=n::R:=by simpa using hV
  have hfe:fetch v s=(n, {s with V:=R}):=by
   rw[fetch,hrd,if_neg (by decide),if_neg k7,hV',if_neg (by simp)];rfl
  show oneS v s=_
  rw[oneS,if_neg (by omega),hfe,if_neg (by simp only;omega),if_neg (by simp only[h];decide),hkeep]
  rfl
 ·intro s R hrd he hb
  rw[hl]at hb;have hfe:fetch v s=(n, {s with bits:=R}):=by
   have e1:s.bits.take (widthOf v)=wbits n.toNat (widthOf v) (widthOf v):=by rw[hb];exact List.take_left' (wbits_length _ _ _)
   have e2:s.bits.drop (widthOf v)=R:=by rw[hb];exact List.drop_left' (wbits_length _ _ _)
   rw[fetch,hrd,if_pos rfl,if_neg (by rw[hb,List.length_append,wbits_length];omega),e1,e2,hnum]
  show oneS v s=_
  rw[oneS,if_neg (by omega),hfe,if_neg (by simp only;omega),if_neg (by simp only[h];decide),hkeep]
  rfl
 ·intro s hrd he hlt _
  rw[hlen]at hlt;have hfe:fetch v s=(0, {s with e:=10}):=by rw[fetch,hrd,if_pos rfl,if_pos hlt]
  show(oneS v s).2.e=10
  rw[oneS,if_neg (by omega),hfe,if_pos (by simp only;omega)]
theorem pk_nil (last:Int):Pk (fun s=>(last,s)) last []:=by
 refine⟨fun x h=>(by cases h),?_,?_,?_⟩
 ·intro s R _ _ hV
  have e:s.V=R:=by simpa using hV
  rw[adv,<-e];simp
 ·intro s R _ _ hb
  have e:s.bits=R:=by simpa[laidOf]using hb
  rw[advB,<-e];simp
 ·intro s _ _ h _
  simp[laidOf]at h
theorem pk_then {f g:WS->Int×WS}{l1 l2:Int}{D1 D2:List (Int×Int)}(h:WS->Int×WS)(hh: ∀s,s.e=0->(f s).1=l1->h s=g (f s).2)(hc: ∀s,s.e=0->(f s).2.e≠0->(h s).2=(f s).2)(p1:Pk f l1 D1)(p2:Pk g l2 D2):Pk h l2 (D1++D2):=by
 refine⟨?_,?_,?_,?_⟩
 ·intro x hx
  rw[List.mem_append]at hx;exact hx.elim (p1.fit x) (p2.fit x)
 ·intro s R hrd he hV
  rw[List.map_append,List.append_assoc]at hV;have e1:=p1.items s _ hrd he hV;rw[hh s he (by rw[e1]),e1];show g (adv s D1 (D2.map Prod.fst++R))=_
  rw[p2.items (adv s D1 (D2.map Prod.fst++R)) R hrd he rfl];simp[adv,List.append_assoc]
 ·intro s R hrd he hb
  rw[laid_append,List.append_assoc]at hb;have e1:=p1.get s _ hrd he hb;rw[hh s he (by rw[e1]),e1];show g (advB s D1 (laidOf D2++R))=_
  rw[p2.get (advB s D1 (laidOf D2++R)) R hrd he rfl];simp[advB,List.append_assoc]
 ·intro s hrd he hlt hb
  rw[laid_append]at hlt hb;rw[List.length_append]at hlt;by_cases h1:s.bits.length<(laidOf D1).length
  ·have hb1:s.bits=(laidOf D1).take s.bits.length:=by
    rw[List.take_append_of_le_length (by omega)]at hb;exact hb
   have he1:=p1.cut s hrd he h1 hb1;rw[hc s he (by rw[he1];decide)];exact he1
  ·have hb1:s.bits=laidOf D1++(laidOf D2).take (s.bits.length-(laidOf D1).length):=by
    rw[List.take_append,List.take_of_length_le (by omega)]at hb;exact hb
   have hl:((laidOf D2).take (s.bits.length-(laidOf D1).length)).length=s.bits.length-(laidOf D1).length:=by
    rw[List.length_take];omega
   have e1:=p1.get s _ hrd he hb1;rw[hh s he (by rw[e1]),e1];exact p2.cut (advB s D1 _) hrd he (by show((laidOf D2).take _).length<_;rw[hl];omega) (by
    show(laidOf D2).take _=(laidOf D2).take ((laidOf D2).take _).length
    rw[hl])
theorem runL_err (b:List Nd)(last:Int){s:WS}(h:s.e≠0):runL b last s=s:=by
 cases b with
 |nil=>rfl
 |cons x l=>rw[runL,if_pos h]
theorem repS_err (f:WS->WS)(m:Nat){s:WS}(h:s.e≠0):repS f m s=s:=by
 cases m with
 |zero=>rfl
 |succ m=>rw[repS,if_pos h]
mutual
def plainN:Nd->Bool
 | .v n=>decide (n<96) &&decide (n≠5) &&decide (n≠7)
 | .g _ b=>plainL b
def plainL:List Nd->Bool
 |[]=>true
 |x::l=>plainN x &&plainL l
end
def Took (s:WS)(D:List (Int×Int)):Prop:=(s.rd=false-> ∃R,s.V=D.map Prod.fst++R)/\(s.rd=true-> ∃R,s.bits=laidOf D++R)
theorem took_then {f:WS->Int×WS}{l:Int}{s:WS}{D1 D2:List (Int×Int)}(p:Pk f l D1)(he:s.e=0)(h1:Took s D1)(h2:Took (f s).2 D2):Took s (D1++D2):=by
 constructor
 ·intro hrd
  obtain⟨R,hR⟩:=h1.1 hrd;have e:=p.items s R hrd he hR;rw[e]at h2;obtain⟨R2,hR2⟩:=h2.1 hrd;exact⟨R2,by rw[hR,show R=_ from hR2,List.map_append,List.append_assoc]⟩
 ·intro hrd
  obtain⟨R,hR⟩:=h1.2 hrd;have e:=p.get s R hrd he hR;rw[e]at h2;obtain⟨R2,hR2⟩:=h2.2 hrd;exact⟨R2,by rw[hR,show R=_ from hR2,laid_append,List.append_assoc]⟩
theorem took_nil (s:WS):Took s []:=⟨fun _=>⟨s.V,rfl⟩,fun _=>⟨s.bits,rfl⟩⟩
theorem took_e {f:WS->Int×WS}{l:Int}{s:WS}{D:List (Int×Int)}(p:Pk f l D)(he:s.e=0)(h:Took s D):(f s).2.e=0/\(f s).1=l:=by
 cases hrd:s.rd
 ·obtain⟨R,hR⟩:=h.1 hrd
  rw[p.items s R hrd he hR];exact⟨he,rfl⟩
 ·obtain⟨R,hR⟩:=h.2 hrd
  rw[p.get s R hrd he hR];exact⟨he,rfl⟩
theorem one_took (v:Nat)(_hv:v<96)(_h5:v≠5)(h7:v≠7)(s:WS)(he:s.e=0)(h:(oneS v s).2.e=0): ∃n,mayOf v n=true/\(oneS v s).1=n/\Took s [(n,(widthOf v:Int))]:=by
 have k7: ¬((v:Int)=7):=by omega
 rw[oneS,if_neg (by omega)]at h⊢;by_cases hf:(fetch v s).2.e≠0
 ·rw[if_pos hf]at h;exact absurd h hf
 ·rw[if_neg hf]at h⊢
  by_cases hm:mayOf v (fetch v s).1=false
  ·rw[if_pos hm]at h;exact absurd (show(20:Int)=0 from h) (by decide)
  ·rw[if_neg hm]at h⊢
   have hm':mayOf v (fetch v s).1=true:=by simpa using hm
   refine⟨_,hm',rfl,?_,?_⟩
   ·intro hrd
    have e0:fetch v s=if s.V=[]then(0, {s with e:=20})else(s.V.headD 0, {s with V:=s.V.tail}):=by rw[fetch,hrd,if_neg (by decide),if_neg k7]
    rw[e0]at hf⊢;by_cases hV:s.V=[]
    ·rw[if_pos hV]at hf;exact absurd (show(20:Int)≠0 by decide) hf
    ·rw[if_neg hV]
     cases hc:s.V with
     |nil=>exact absurd hc hV
     |cons a r=>exact⟨r,rfl⟩
   ·intro hrd
    have e0:fetch v s=if s.bits.length<widthOf v then(0, {s with e:=10})else(((num (s.bits.take (widthOf v)):Nat):Int), {s with bits:=s.bits.drop (widthOf v)}):=by rw[fetch,hrd,if_pos rfl]
    rw[e0]at hf⊢;by_cases hb:s.bits.length<widthOf v
    ·rw[if_pos hb]at hf;exact absurd (show(10:Int)≠0 by decide) hf
    ·rw[if_neg hb]
     refine⟨s.bits.drop (widthOf v),?_⟩;rw[laid_one];simp only[Int.toNat_natCast];have hlen:(s.bits.take (widthOf v)).length=widthOf v:=by rw[List.length_take];omega
     have hw:wbits (num (s.bits.take (widthOf v))) (widthOf v) (widthOf v)=s.bits.take (widthOf v):=by
      apply List.ext_getElem (by rw[wbits_length,hlen])
      intro i h1 h2;have g1:=wbits_getD (num (s.bits.take (widthOf v))) (widthOf v) (widthOf v) i (by rw[wbits_length]at h1;exact h1);have hi:i<widthOf v:=by rw[wbits_length]at h1;exact h1
      rw[num_testBit,hlen,decide_eq_true (by omega),Bool.true_and,show widthOf v-1-(widthOf v-1-i)=i by omega]at g1
      simpa[List.getD_eq_getElem?_getD,List.getElem?_eq_getElem h1,List.getElem?_eq_getElem h2]using g1
     rw[hw,List.take_append_drop]
theorem rep_took (b:List Nd)(hL: ∀(last:Int) (s:WS),s.e=0->(runL b last s).e=0-> ∃D,Pk (fun s=>(0,runL b last s)) 0 D/\Took s D):
  ∀(m:Nat) (s:WS),s.e=0->(repS (fun s=>runL b 0 s) m s).e=0-> ∃D,Pk (fun s=>(0,repS (fun s=>runL b 0 s) m s)) 0 D/\Took s D
 |0,s,_,_=>⟨[],pk_nil 0,took_nil s⟩
 |m+1,s,he,h=>by
  rw[repS,if_neg (by omega)]at h;have h1:(runL b 0 s).e=0:=by
   by_cases k:(runL b 0 s).e=0
   ·exact k
   ·rw[repS_err _ _ k]at h;exact h
  obtain⟨D1,p1,t1⟩:=hL 0 s he h1;obtain⟨D2,p2,t2⟩:=rep_took b hL m _ h1 h;exact⟨D1++D2,pk_then (f:=fun s=>(0,runL b 0 s)) (g:=fun s=>(0,repS (fun s=>runL b 0 s) m s)) _ (fun s hs _=>by rw[repS,if_neg (by omega)]) (fun s hs h2=>by show repS _ (m+1) s=_;rw[repS,if_neg (by omega)];exact repS_err _ _ h2) p1 p2,took_then p1 he t1 t2⟩
theorem run_took: ∀(N:Nat) (b:List Nd),szL b<N->plainL b=true-> ∀(last:Int) (s:WS),s.e=0->(runL b last s).e=0-> ∃D,Pk (fun s=>(0,runL b last s)) 0 D/\Took s D
 |0,_,h,_,_,_,_,_=>by omega
 |N+1,[],_,_,last,s,_,_=>⟨[],pk_nil 0,took_nil s⟩
 |N+1,x::l,hN,hp,last,s,he,h=>by
  rw[plainL,Bool.and_eq_true]at hp;rw[runL,if_neg (by omega)]at h;have h1:(runN x last s).2.e=0:=by
   by_cases k:(runN x last s).2.e=0
   ·exact k
   ·rw[runL_err _ _ k]at h;exact h
  have hx: ∃l1 D1,Pk (fun s=>runN x last s) l1 D1/\Took s D1:=by
   cases x with
   |v n=>
    have hq:=hp.1;rw[plainN,Bool.and_eq_true,Bool.and_eq_true,decide_eq_true_eq,decide_eq_true_eq,decide_eq_true_eq]at hq;obtain⟨k,hm,_,ht⟩:=one_took n hq.1.1 hq.1.2 hq.2 s he h1;exact⟨k,_,pk_v n hq.1.1 hq.1.2 hq.2 k hm,ht⟩
   |g k b=>
    obtain⟨D,pd,td⟩:=rep_took b (fun last s he h=>run_took N b (by have:szL (Nd.g k b::l)=szL b+1+szL l\/True:= .inr trivial;simp only[szL,szN]at hN;omega) hp.1 last s he h) (many k last) s he h1;refine⟨last,D,⟨pd.fit,?_,?_,?_⟩,td⟩
    ·intro s R a1 a2 a3
     have:=pd.items s R a1 a2 a3;simp only[Prod.mk.injEq]at this;show(last,repS _ _ _)=_
     rw[this.2]
    ·intro s R a1 a2 a3
     have:=pd.get s R a1 a2 a3;simp only[Prod.mk.injEq]at this;show(last,repS _ _ _)=_
     rw[this.2]
    ·intro s a1 a2 a3 a4
     exact pd.cut s a1 a2 a3 a4
  obtain⟨l1,D1,p1,t1⟩:=hx;have hl1:=(took_e p1 he t1).2;rw[hl1]at h;have hz:0<szN x:=by
   cases x<;>simp only[szN]<;>omega
  obtain⟨D2,p2,t2⟩:=run_took N l (by simp only[szL]at hN;omega) hp.2 l1 _ h1 h;refine⟨D1++D2,pk_then (f:=fun s=>runN x last s) (g:=fun s=>(0,runL l l1 s)) _ ?_ ?_ p1 p2,took_then p1 he t1 t2⟩
  ·intro s hs h2
   have h3:(runN x last s).1=l1:=h2;rw[runL,if_neg (by omega),h3]
  ·intro s hs h2
   show runL (x::l) last s=_
   rw[runL,if_neg (by omega)];exact runL_err _ _ h2
end
section
open Go.RowKit
open BitsM
theorem known_cases {id:Int}(h:knownB id=true):id=0\/id=1\/id=3\/id=5\/id=11\/id=15\/id=21\/id=27\/id=42\/id=57\/id=58\/id=80:=by
 unfold knownB at h;simp only[Bool.or_eq_true,decide_eq_true_eq]at h;omega
structure Shape (id:Int) (pre:List Nd) (a:Nat) (post:List Nd):Prop where
 ast:astOf id=pre++ .v 7:: .v a::post
 pre:pre=[]\/pre=[.v 6]
 plain:plainL (.v a::post)=true
 words:wordsOf (gramOf id)=wordsL (astOf id)
 size:(gramOf id).size<=65536
 good:goodL (astOf id)=true
 seven:c7 (astOf id)=1
 may:mayOf 5 id=true
theorem shape_of {id:Int}(h:knownB id=true): ∃pre a post,Shape id pre a post:=by
 rcases known_cases h with rfl|rfl|rfl|rfl|rfl|rfl|rfl|rfl|rfl|rfl|rfl|rfl
 ·exact⟨[],8,[.v 4,.v 13,.v 14,.v 15,.v 16,.v 17,.v 18,.g 2 [.v 19],.v 20,.v 21,.v 22,.v 23,.g 1 [.v 24]],rfl,.inl rfl,by kernel_rfl,words0,Nat.le_of_ble_eq_true (by kernel_rfl),by kernel_rfl,by kernel_rfl,by kernel_rfl⟩
 ·exact⟨[],8,[.v 4,.v 74,.v 13,.v 14,.v 15,.v 16,.v 17,.v 18,.g 2 [.v 19],.v 20,.v 21,.v 22,.v 23,.g 1 [.v 24]],rfl,.inl rfl,by kernel_rfl,words1,Nat.le_of_ble_eq_true (by kernel_rfl),by kernel_rfl,by kernel_rfl,by kernel_rfl⟩
 ·exact⟨[.v 6],8,[.v 84,.v 27,.g 0 [.v 10],.v 85,.v 87,.v 86],rfl,.inr rfl,by kernel_rfl,words3,Nat.le_of_ble_eq_true (by kernel_rfl),by kernel_rfl,by kernel_rfl,by kernel_rfl⟩
 ·exact⟨[.v 6],8,[.v 44,.v 12,.g 1 [.v 10],.v 11,.v 45,.v 46,.v 47,.v 27,.g 0 [.v 44,.v 12,.g 1 [.v 10],.v 11,.v 45,.v 46,.v 47]],rfl,.inr rfl,by kernel_rfl,words5,Nat.le_of_ble_eq_true (by kernel_rfl),by kernel_rfl,by kernel_rfl,by kernel_rfl⟩
 ·exact⟨[],75,[.v 76,.v 77,.v 78,.v 79,.v 80,.v 81,.v 27,.g 0 [.v 82],.v 27,.g 0 [.v 83]],rfl,.inl rfl,by kernel_rfl,words11,Nat.le_of_ble_eq_true (by kernel_rfl),by kernel_rfl,by kernel_rfl,by kernel_rfl⟩
 ·exact⟨[.v 6],8,[.v 25,.v 26,.v 27,.g 0 [.v 28,.v 29,.g 1 [.v 30,.v 31]],.v 32,.v 29,.g 1 [.v 30,.v 31],.v 33,.g 1 [.v 34,.v 35],.v 36,.g 1 [.v 37,.v 38],.v 39,.g 1 [.v 40,.v 41,.v 42,.v 43]],rfl,.inr rfl,by kernel_rfl,words15,Nat.le_of_ble_eq_true (by kernel_rfl),by kernel_rfl,by kernel_rfl,by kernel_rfl⟩
 ·exact⟨[.v 6],8,[.v 48,.v 49,.v 50,.v 27,.g 0 [.v 48,.v 49,.v 50]],rfl,.inr rfl,by kernel_rfl,words21,Nat.le_of_ble_eq_true (by kernel_rfl),by kernel_rfl,by kernel_rfl,by kernel_rfl⟩
 ·exact⟨[.v 6],8,[.v 51,.v 52,.v 53,.v 27,.g 0 [.v 54,.v 55],.v 27,.g 0 [.v 51,.v 52,.v 53,.v 27,.g 0 [.v 54,.v 55]]],rfl,.inr rfl,by kernel_rfl,words27,Nat.le_of_ble_eq_true (by kernel_rfl),by kernel_rfl,by kernel_rfl,by kernel_rfl⟩
 ·exact⟨[.v 6],62,[.v 10,.v 63,.v 64,.v 64,.v 65],rfl,.inr rfl,by kernel_rfl,words42,Nat.le_of_ble_eq_true (by kernel_rfl),by kernel_rfl,by kernel_rfl,by kernel_rfl⟩
 ·exact⟨[.v 6],66,[.v 67,.v 68],rfl,.inr rfl,by kernel_rfl,words57,Nat.le_of_ble_eq_true (by kernel_rfl),by kernel_rfl,by kernel_rfl,by kernel_rfl⟩
 ·exact⟨[.v 6],8,[.v 69,.v 70,.v 71,.v 27,.g 0 [.v 72,.v 73]],rfl,.inr rfl,by kernel_rfl,words58,Nat.le_of_ble_eq_true (by kernel_rfl),by kernel_rfl,by kernel_rfl,by kernel_rfl⟩
 ·exact⟨[.v 6],8,[.v 56,.v 57,.v 58,.v 59,.v 60,.v 61,.v 27,.g 0 [.v 56,.v 57,.v 58,.v 59,.v 60,.v 61]],rfl,.inr rfl,by kernel_rfl,words80,Nat.le_of_ble_eq_true (by kernel_rfl),by kernel_rfl,by kernel_rfl,by kernel_rfl⟩
theorem w7:widthOf 7=13:=by kernel_rfl
theorem w5:widthOf 5=8:=by kernel_rfl
theorem may70:mayOf 7 0=true:=by kernel_rfl
theorem run_last (a:Nat)(l:List Nd)(last:Int)(s:WS):runL (.v a::l) last s=runL (.v a::l) 0 s:=by
 rw[runL,runL,runN,runN]
theorem seven_items {s:WS}(hrd:s.rd=false)(he:s.e=0):oneS 7 s=(0, {s with place:=s.out.length,out:=s.out++[(0,13)]}):=by
 have hf:fetch 7 s=(0,s):=by rw[fetch,hrd,if_neg (by decide),if_pos rfl]
 rw[oneS,if_neg (by omega),hf,if_neg (by simp only;omega),if_neg (by simp only[may70];decide),keep,if_pos rfl,w7];rfl
theorem seven_get {s:WS}{n:Int}{R:List Bool}(hrd:s.rd=true)(he:s.e=0)(hm:mayOf 7 n=true)(hb:s.bits=laidOf [(n,13)]++R):oneS 7 s=(n, {s with bits:=R,place:=s.out.length,out:=s.out++[(n,13)]}):=by
 have hn:=may_fit 7 (by decide) n hm;rw[show widthOf ((7:Nat):Int)=13 from w7]at hn;have hl:laidOf [(n,13)]=wbits n.toNat 13 13:=by rw[laid_one];rfl
 rw[hl]at hb;have hnum:(num (wbits n.toNat 13 13):Int)=n:=by
  rw[num_wbits _ _ (by omega)];exact Int.toNat_of_nonneg hn.1
 have hf:fetch 7 s=(n, {s with bits:=R}):=by
  have e1:s.bits.take 13=wbits n.toNat 13 13:=by rw[hb];exact List.take_left' (wbits_length _ _ _)
  have e2:s.bits.drop 13=R:=by rw[hb];exact List.drop_left' (wbits_length _ _ _)
  rw[fetch,hrd,if_pos rfl,w7,if_neg (by rw[hb,List.length_append,wbits_length];omega),e1,e2,hnum]
 rw[oneS,if_neg (by omega),hf,if_neg (by simp only;omega),if_neg (by simp only[hm];decide),keep,if_pos rfl,w7];rfl
theorem seven_cut {s:WS}(hrd:s.rd=true)(he:s.e=0)(hb:s.bits.length<13):(oneS 7 s).2.e=10:=by
 have hf:fetch 7 s=(0, {s with e:=10}):=by rw[fetch,hrd,if_pos rfl,w7,if_pos hb]
 rw[oneS,if_neg (by omega),hf,if_pos (by simp only;omega)]
theorem seven_took {s:WS}(he:s.e=0)(h:(oneS 7 s).2.e=0)(hrd:s.rd=true): ∃n R,mayOf 7 n=true/\s.bits=laidOf [(n,13)]++R:=by
 rw[oneS,if_neg (by omega)]at h;have e0:fetch 7 s=if s.bits.length<13 then(0, {s with e:=10})else(((num (s.bits.take 13):Nat):Int), {s with bits:=s.bits.drop 13}):=by rw[fetch,hrd,if_pos rfl,w7]
 by_cases hb:s.bits.length<13
 ·rw[e0,if_pos hb,if_pos (by simp only;omega)]at h;exact absurd (show(10:Int)=0 from h) (by decide)
 ·rw[if_neg hb]at e0
  rw[e0,if_neg (by simp only;omega)]at h;by_cases hm:mayOf 7 ((num (s.bits.take 13):Nat):Int)=true
  ·refine⟨_,s.bits.drop 13,hm,?_⟩
   rw[laid_one];simp only[Int.toNat_natCast];have hlen:(s.bits.take 13).length=13:=by rw[List.length_take];omega
   have hw:wbits (num (s.bits.take 13)) 13 13=s.bits.take 13:=by
    apply List.ext_getElem (by rw[wbits_length,hlen])
    intro i h1 h2;have hi:i<13:=by rw[wbits_length]at h1;exact h1
    have g1:=wbits_getD (num (s.bits.take 13)) 13 13 i hi;rw[num_testBit,hlen,decide_eq_true (by omega),Bool.true_and,show 13-1-(13-1-i)=i by omega]at g1
    simpa[List.getD_eq_getElem?_getD,List.getElem?_eq_getElem h1,List.getElem?_eq_getElem h2]using g1
   show s.bits=wbits (num (s.bits.take 13)) 13 13++s.bits.drop 13
   rw[hw,List.take_append_drop]
  ·rw[if_pos (by simpa using hm)]at h;exact absurd (show(20:Int)=0 from h) (by decide)
structure Wh (id:Int) (D1 D2:List (Int×Int)):Prop where
 fit: ∀x∈D1++D2,FitP x
 items: ∀s R,s.rd=false->s.e=0->s.V=(D1++D2).map Prod.fst++R->runL (astOf id) 0 s= {s with V:=R,out:=s.out++D1++(0,13)::D2,got:=s.got++(D1++D2).map Prod.fst,place:=(s.out++D1).length}
 get: ∀s R n,s.rd=true->s.e=0->mayOf 7 n=true->s.bits=laidOf (D1++(n,13)::D2)++R->runL (astOf id) 0 s= {s with bits:=R,out:=s.out++D1++(n,13)::D2,got:=s.got++(D1++D2).map Prod.fst,place:=(s.out++D1).length}
 cut: ∀s n,s.rd=true->s.e=0->mayOf 7 n=true->s.bits.length<(laidOf (D1++(n,13)::D2)).length->s.bits=(laidOf (D1++(n,13)::D2)).take s.bits.length->(runL (astOf id) 0 s).e=10
end
section
open Go.RowKit
open BitsM
theorem run_pre {pre:List Nd}{a:Nat}{post:List Nd}(hp:pre=[]\/pre=[.v 6])(s:WS)(he:s.e=0):
  runL (pre++ .v 7:: .v a::post) 0 s=if(runL pre 0 s).e≠0 then runL pre 0 s else runL (.v a::post) 0 (oneS 7 (runL pre 0 s)).2:=by
 have h7: ∀last t,runL (.v 7:: .v a::post) last t=if t.e≠0 then t else runL (.v a::post) 0 (oneS 7 t).2:=by
  intro last t;rw[runL,runN];split
  ·rfl
  ·exact run_last a post _ _
 rcases hp with rfl|rfl
 ·exact h7 0 s
 ·have e1:runL [.v 6] 0 s=(oneS 6 s).2:=by rw[runL,if_neg (by omega),runN,runL];rfl
  show runL (.v 6::(.v 7:: .v a::post)) 0 s=_
  rw[e1,runL,if_neg (by omega),runN];exact h7 _ _
theorem wh_make {id:Int}{pre:List Nd}{a:Nat}{post:List Nd}{D1 D2:List (Int×Int)}(sh:Shape id pre a post)(p1:Pk (fun s=>(0,runL pre 0 s)) 0 D1)(p2:Pk (fun s=>(0,runL (.v a::post) 0 s)) 0 D2):Wh id D1 D2:=by
 have ei: ∀s R,s.rd=false->s.e=0->s.V=D1.map Prod.fst++R->runL pre 0 s=adv s D1 R:=fun s R h1 h2 h3=>congrArg Prod.snd (p1.items s R h1 h2 h3);have eg: ∀s R,s.rd=true->s.e=0->s.bits=laidOf D1++R->runL pre 0 s=advB s D1 R:=fun s R h1 h2 h3=>congrArg Prod.snd (p1.get s R h1 h2 h3);have fi: ∀s R,s.rd=false->s.e=0->s.V=D2.map Prod.fst++R->runL (.v a::post) 0 s=adv s D2 R:=fun s R h1 h2 h3=>congrArg Prod.snd (p2.items s R h1 h2 h3);have fg: ∀s R,s.rd=true->s.e=0->s.bits=laidOf D2++R->runL (.v a::post) 0 s=advB s D2 R:=fun s R h1 h2 h3=>congrArg Prod.snd (p2.get s R h1 h2 h3);have e3: ∀n,laidOf (D1++(n,13)::D2)=laidOf D1++(laidOf [(n,13)]++laidOf D2):=fun n=>by
  rw[show D1++(n,(13:Int))::D2=D1++([(n,13)]++D2)from rfl,laid_append,laid_append]
 refine⟨?_,?_,?_,?_⟩
 ·intro x hx
  rw[List.mem_append]at hx;exact hx.elim (p1.fit x) (p2.fit x)
 ·intro s R hrd he hV
  rw[List.map_append,List.append_assoc]at hV;rw[sh.ast,run_pre sh.pre s he,ei s _ hrd he hV,if_neg (show¬(adv s D1 (D2.map Prod.fst++R)).e≠0 from fun k=>k he),seven_items (s:=adv s D1 _) hrd he];refine Eq.trans (fi _ R ?_ ?_ ?_) ?_
  ·exact hrd
  ·exact he
  ·rfl
  simp[adv,List.append_assoc]
 ·intro s R n hrd he hm hb
  rw[e3,List.append_assoc,List.append_assoc]at hb;rw[sh.ast,run_pre sh.pre s he,eg s _ hrd he hb,if_neg (show¬(advB s D1 (laidOf [(n,13)]++(laidOf D2++R))).e≠0 from fun k=>k he),seven_get (s:=advB s D1 _) (R:=laidOf D2++R) hrd he hm rfl];refine Eq.trans (fg _ R ?_ ?_ ?_) ?_
  ·exact hrd
  ·exact he
  ·rfl
  simp[advB,List.append_assoc]
 ·intro s n hrd he hm hlt hb
  rw[e3]at hlt hb;rw[List.length_append]at hlt;rw[sh.ast,run_pre sh.pre s he];by_cases h1:s.bits.length<(laidOf D1).length
  ·have hb1:s.bits=(laidOf D1).take s.bits.length:=by
    rw[List.take_append_of_le_length (by omega)]at hb;exact hb
   have he1:(runL pre 0 s).e=10:=p1.cut s hrd he h1 hb1;rw[if_pos (by rw[he1];decide)];exact he1
  ·obtain⟨B,hB⟩:=geZ ((laidOf [(n,13)]++laidOf D2).take (s.bits.length-(laidOf D1).length))
   have hb1:s.bits=laidOf D1++B:=by
    rw[List.take_append,List.take_of_length_le (by omega),hB]at hb;exact hb
   have hBl:B.length=s.bits.length-(laidOf D1).length:=by
    rw[<-hB,List.length_take];omega
   have h13:(laidOf [(n,13)]).length=13:=by rw[laid_one,wbits_length];rfl
   rw[eg s B hrd he hb1,if_neg (show¬(advB s D1 B).e≠0 from fun k=>k he)];rw[List.length_append]at hlt;by_cases h2:B.length<13
   ·have he7:=seven_cut (s:=advB s D1 B) hrd he h2
    rw[runL_err _ _ (by rw[he7];decide)];exact he7
   ·obtain⟨C,hC⟩:=geZ ((laidOf D2).take (B.length-13))
    have hB2:B=laidOf [(n,13)]++C:=by
     rw[<-hB,List.take_append,List.take_of_length_le (by omega),h13,<-hBl,hC]
    have hCl:C.length=B.length-13:=by rw[<-hC,List.length_take];omega
    rw[seven_get (s:=advB s D1 B) (R:=C) hrd he hm hB2];exact p2.cut _ hrd he (by show C.length<_;omega) (by show C=(laidOf D2).take C.length;rw[hCl,hC])
theorem wh_of_run {id:Int}(hk:knownB id=true){s:WS}(he:s.e=0)(h:(runL (astOf id) 0 s).e=0):
  ∃D1 D2,Wh id D1 D2/\(s.rd=false-> ∃R,s.V=(D1++D2).map Prod.fst++R)/\(s.rd=true-> ∃n R,mayOf 7 n=true/\s.bits=laidOf (D1++(n,13)::D2)++R):=by
 obtain⟨pre,a,post,sh⟩:=shape_of hk;rw[sh.ast,run_pre sh.pre s he]at h;have h1:(runL pre 0 s).e=0:=by
  by_cases k:(runL pre 0 s).e=0
  ·exact k
  ·rw[if_pos k]at h;exact absurd h k
 rw[if_neg (by omega)]at h;have hpp:plainL pre=true:=by rcases sh.pre with rfl|rfl<;>rfl
 obtain⟨D1,p1,t1⟩:=run_took _ pre (Nat.lt_succ_self _) hpp 0 s he h1;have h7:(oneS 7 (runL pre 0 s)).2.e=0:=by
  by_cases k:(oneS 7 (runL pre 0 s)).2.e=0
  ·exact k
  ·rw[runL_err _ _ k]at h;exact absurd h k
 obtain⟨D2,p2,t2⟩:=run_took _ (.v a::post) (Nat.lt_succ_self _) sh.plain 0 _ h7 h;refine⟨D1,D2,wh_make sh p1 p2,?_,?_⟩
 ·intro hrd
  obtain⟨R,hR⟩:=t1.1 hrd;have e1:runL pre 0 s=adv s D1 R:=congrArg Prod.snd (p1.items s R hrd he hR);rw[e1,seven_items (s:=adv s D1 R) hrd he]at t2;obtain⟨R2,hR2⟩:=t2.1 hrd;exact⟨R2,by rw[hR,show R=_ from hR2,List.map_append,List.append_assoc]⟩
 ·intro hrd
  obtain⟨R,hR⟩:=t1.2 hrd;have e1:runL pre 0 s=advB s D1 R:=congrArg Prod.snd (p1.get s R hrd he hR);rw[e1]at h7 t2;obtain⟨n,R2,hm,hb2⟩:=seven_took (s:=advB s D1 R) he h7 hrd;rw[seven_get (s:=advB s D1 R) (R:=R2) hrd he hm hb2]at t2;obtain⟨R3,hR3⟩:=t2.2 hrd;refine⟨n,R3,hm,?_⟩;rw[show D1++(n,(13:Int))::D2=D1++([(n,13)]++D2)from rfl,laid_append,laid_append,hR,show R=_ from hb2,show R2=_ from hR3];simp[List.append_assoc]
def startS (id:Int)(V:List Int):WS:=⟨V,false,[],[(id,8)],[],0,0⟩
def itemsF (id:Int)(V:List Int):List (Int×Int)×Int:=
 if knownB id=false then([],50)else
 if(runL (astOf id) 0 (startS id V)).e≠0 then([],(runL (astOf id) 0 (startS id V)).e)else
 if(runL (astOf id) 0 (startS id V)).V≠[]then([],20)else
 if 8184<totalOf (runL (astOf id) 0 (startS id V)).out then([],2)else
 ((runL (astOf id) 0 (startS id V)).out.set (runL (astOf id) 0 (startS id V)).place.toNat (totalOf (runL (astOf id) 0 (startS id V)).out,13),0)
theorem total_append (a b:List (Int×Int)):totalOf (a++b)=totalOf a+totalOf b:=by
 have h: ∀(l:List (Int×Int)) (n:Int),l.foldl (fun n x=>n+x.2) n=n+totalOf l:=by
  intro l
  induction l with
  |nil=>intro n;simp[totalOf]
  |cons x l ih=>
   intro n;have e:totalOf (x::l)=l.foldl (fun n x=>n+x.2) (0+x.2):=rfl;rw[List.foldl_cons,ih,e,ih];omega
 rw[totalOf,List.foldl_append,h,<-totalOf]
theorem total_cons (x:Int×Int)(l:List (Int×Int)):totalOf (x::l)=x.2+totalOf l:=by
 rw[show x::l=[x]++l from rfl,total_append];simp[totalOf]
theorem items_form {id:Int}{V:List Int}(hk:knownB id=true)(h:(runL (astOf id) 0 (startS id V)).e=0):
  ∃D1 D2 R,Wh id D1 D2/\V=(D1++D2).map Prod.fst++R/\runL (astOf id) 0 (startS id V)= {startS id V with V:=R,out:=[(id,8)]++D1++(0,13)::D2,got:=(D1++D2).map Prod.fst,place:=([(id,(8:Int))]++D1).length} :=by
 obtain⟨D1,D2,w,hi,_⟩:=wh_of_run hk (s:=startS id V) rfl h;obtain⟨R,hR⟩:=hi rfl;exact⟨D1,D2,R,w,hR,w.items (startS id V) R rfl rfl hR⟩
theorem set_mid (id:Int)(D1 D2:List (Int×Int))(x y:Int×Int):([(id,(8:Int))]++D1++x::D2).set ([(id,(8:Int))]++D1).length y=[(id,8)]++D1++y::D2:=by
 rw[List.set_append,if_neg (by omega),Nat.sub_self];rfl
theorem total_mid (id n:Int)(D1 D2:List (Int×Int)):totalOf ([(id,(8:Int))]++D1++(n,(13:Int))::D2)=21+totalOf D1+totalOf D2:=by
 rw[total_append,total_append,total_cons,total_cons];simp only[totalOf,List.foldl_nil];omega
end
section
open Go.RowKit
open BitsM
theorem ss0 (id:Int)(V:List Int): ¬(startS id V).e≠0:=fun h=>h rfl
theorem getD_mid2 (id:Int)(D1 D2:List (Int×Int))(x:Int×Int):([(id,(8:Int))]++D1++x::D2).getD ([(id,(8:Int))]++D1).length (0,0)=x:=by
 rw[List.getD_eq_getElem?_getD,List.getElem?_append_right (Nat.le_refl _),Nat.sub_self];rfl
theorem items_of_wh {id:Int}{D1 D2:List (Int×Int)}(hk:knownB id=true)(w:Wh id D1 D2)(n:Int)(hn:n=21+totalOf D1+totalOf D2)(hl:n<=8184):itemsF id ((D1++D2).map Prod.fst)=([(id,8)]++D1++(n,13)::D2,0):=by
 have hr:=w.items (startS id ((D1++D2).map Prod.fst)) [] rfl rfl (by simp[startS]);unfold itemsF;rw[if_neg (by rw[hk];decide),hr];simp only;rw[if_neg (ss0 _ _),if_neg (by simp)];simp only[show(startS id ((D1++D2).map Prod.fst)).out=[(id,8)]from rfl,total_mid];rw[if_neg (by omega)];simp only[Int.toNat_natCast,set_mid,<-hn]
end
section
open Go.RowKit
open BitsM
theorem pk_cons {x:Nd}{l:List Nd}{last l1:Int}{D1 D2:List (Int×Int)}(p1:Pk (fun s=>runN x last s) l1 D1)(p2:Pk (fun s=>(0,runL l l1 s)) 0 D2):Pk (fun s=>(0,runL (x::l) last s)) 0 (D1++D2):=by
 refine pk_then (f:=fun s=>runN x last s) (g:=fun s=>(0,runL l l1 s)) _ ?_ ?_ p1 p2
 ·intro s hs h2
  have h3:(runN x last s).1=l1:=h2;rw[runL,if_neg (by omega),h3]
 ·intro s hs h2
  show runL (x::l) last s=_
  rw[runL,if_neg (by omega)];exact runL_err _ _ h2
theorem pk_end (last:Int):Pk (fun s=>(0,runL [] last s)) 0 []:=pk_nil 0
theorem pk_grp {k:Nat}{b:List Nd}{last:Int}{D:List (Int×Int)}(pd:Pk (fun s=>(0,repS (fun s=>runL b 0 s) (many k last) s)) 0 D):Pk (fun s=>runN (.g k b) last s) last D:=by
 refine⟨pd.fit,?_,?_,?_⟩
 ·intro s R a1 a2 a3
  have:=pd.items s R a1 a2 a3;simp only[Prod.mk.injEq]at this;show(last,repS _ _ _)=_
  rw[this.2]
 ·intro s R a1 a2 a3
  have:=pd.get s R a1 a2 a3;simp only[Prod.mk.injEq]at this;show(last,repS _ _ _)=_
  rw[this.2]
 ·intro s a1 a2 a3 a4
  exact pd.cut s a1 a2 a3 a4
theorem pk_reps {b:List Nd}: ∀Ds:List (List (Int×Int)),(∀D∈Ds,Pk (fun s=>(0,runL b 0 s)) 0 D)->Pk (fun s=>(0,repS (fun s=>runL b 0 s) Ds.length s)) 0 Ds.flatten
 |[],_=>pk_nil 0
 |D::Ds,h=>pk_then (f:=fun s=>(0,runL b 0 s)) (g:=fun s=>(0,repS (fun s=>runL b 0 s) Ds.length s)) _ (fun s hs _=>by show _=((0:Int),repS _ _ _);rw[List.length_cons,repS,if_neg (by omega)]) (fun s hs h2=>by show repS _ (Ds.length+1) s=_;rw[repS,if_neg (by omega)];exact repS_err _ _ h2) (h D (List.mem_cons_self ..)) (pk_reps Ds fun E hE=>h E (List.mem_cons_of_mem _ hE))
theorem pk_none {k:Nat}{b:List Nd}{last:Int}(h:many k last=0):Pk (fun s=>runN (.g k b) last s) last []:=pk_grp (by rw[h];exact pk_reps (b:=b) [] (fun _ h=>by cases h))
theorem pk_once {k:Nat}{b:List Nd}{last:Int}{D:List (Int×Int)}(h:many k last=1)(p:Pk (fun s=>(0,runL b 0 s)) 0 D):Pk (fun s=>runN (.g k b) last s) last D:=pk_grp (by
 rw[h];have:=pk_reps (b:=b) [D] (fun E hE=>by rw[List.mem_singleton]at hE;subst hE;exact p)
 simpa using this)
theorem may_le {v:Nat}{n M:Int}(hv:v<96)(hM:mostOf v=M)(h0:0<=n)(h1:n<=M):mayOf v n=true:=by
 unfold mayOf;rw[hM];simp only[Bool.and_eq_true,Bool.or_eq_true,decide_eq_true_eq];omega
theorem pk_var (v:Nat)(M:Int)(W:Int){last n:Int}(hv:v<96)(h5:v≠5)(h7:v≠7)(hM:mostOf v=M)(hW:(widthOf v:Int)=W)(h0:0<=n)(h1:n<=M):Pk (fun s=>runN (.v v) last s) n [(n,W)]:=by
 have:=pk_v v hv h5 h7 n (may_le hv hM h0 h1);rw[hW]at this;exact this
def secD (r:Int×Int):List (Int×Int):=[(r.1,15)]++([(1,1)]++(([(r.2,10)]++([(0,15)]++[]))++[]))
theorem pk_sec {r:Int×Int}(h:0<=r.1/\r.1<=32767/\0<=r.2/\r.2<=1023):Pk (fun s=>(0,runL [.v 28,.v 29,.g 1 [.v 30,.v 31]] 0 s)) 0 (secD r):=
 pk_cons (pk_var 28 32767 15 (by omega) (by omega) (by omega) (by kernel_rfl) (by kernel_rfl) h.1 h.2.1)
  (pk_cons (pk_var 29 1 1 (by omega) (by omega) (by omega) (by kernel_rfl) (by kernel_rfl) (by omega) (by omega))
   (pk_cons (pk_once (by rfl) (pk_cons (pk_var 30 1023 10 (by omega) (by omega) (by omega) (by kernel_rfl) (by kernel_rfl) h.2.2.1 h.2.2.2) (pk_cons (pk_var 31 32767 15 (by omega) (by omega) (by omega) (by kernel_rfl) (by kernel_rfl) (by omega) (by omega)) (pk_end _)))) (pk_end _)))
def gapD (g:Int):List (Int×Int):=if g=0 then[(0,1)]++([]++([(0,1)]++([]++[])))else[(1,1)]++(([(g,15)]++([(0,7)]++[]))++([(0,1)]++([]++[])))
theorem pk_gap {g:Int}(h:0<=g/\g<=32767)(last:Int):Pk (fun s=>(0,runL [.v 36,.g 1 [.v 37,.v 38],.v 39,.g 1 [.v 40,.v 41,.v 42,.v 43]] last s)) 0 (gapD g):=by
 unfold gapD;split
 ·exact pk_cons (pk_var 36 1 1 (by omega) (by omega) (by omega) (by kernel_rfl) (by kernel_rfl) (by omega) (by omega))
   (pk_cons (pk_none (by rfl)) (pk_cons (pk_var 39 1 1 (by omega) (by omega) (by omega) (by kernel_rfl) (by kernel_rfl) (by omega) (by omega)) (pk_cons (pk_none (by rfl)) (pk_end _))))
 ·exact pk_cons (pk_var 36 1 1 (by omega) (by omega) (by omega) (by kernel_rfl) (by kernel_rfl) (by omega) (by omega))
   (pk_cons (pk_once (by rfl) (pk_cons (pk_var 37 32767 15 (by omega) (by omega) (by omega) (by kernel_rfl) (by kernel_rfl) h.1 h.2) (pk_cons (pk_var 38 120 7 (by omega) (by omega) (by omega) (by kernel_rfl) (by kernel_rfl) (by omega) (by omega)) (pk_end _))))
    (pk_cons (pk_var 39 1 1 (by omega) (by omega) (by omega) (by kernel_rfl) (by kernel_rfl) (by omega) (by omega)) (pk_cons (pk_none (by rfl)) (pk_end _))))
theorem flat_map (l:List (Int×Int)):(l.map secD).flatten.map Prod.fst=l.flatMap fun r=>[r.1,1,r.2,0]:=by
 induction l with
 |nil=>rfl
 |cons x r ih=>
  rw[List.map_cons,List.flatten_cons,List.map_append,ih,List.flatMap_cons]
  rfl
theorem flat_total (l:List (Int×Int)):totalOf (l.map secD).flatten=41*l.length:=by
 induction l with
 |nil=>rfl
 |cons x r ih=>
  rw[List.map_cons,List.flatten_cons,total_append,ih,List.length_cons];have:totalOf (secD x)=41:=rfl;omega
theorem fifteen_ok {d u g:Int}{init:List (Int×Int)}{r:Int×Int}(hd:0<=d/\d<=2)(hu:0<=u/\u<=2)(hg:0<=g/\g<=32767)(hi:init.length<=31)(hr: ∀x∈init++[r],0<=x.1/\x.1<=32767/\0<=x.2/\x.2<=1023):
  (itemsF 15 (d::u::0::0::(init.length:Int)::(((init++[r]).flatMap fun r=>[r.1,1,r.2,0])++gapV g))).2=0:=by
 have hl:=hr r (by simp);have sh:Shape 15 [.v 6] 8 [.v 25,.v 26,.v 27,.g 0 [.v 28,.v 29,.g 1 [.v 30,.v 31]],.v 32,.v 29,.g 1 [.v 30,.v 31],.v 33,.g 1 [.v 34,.v 35],.v 36,.g 1 [.v 37,.v 38],.v 39,.g 1 [.v 40,.v 41,.v 42,.v 43]]:=by
  obtain⟨pre,a,post,sh⟩:=shape_of (id:=15) (by rfl);have h1:=sh.ast
  rcases sh.pre with rfl|rfl
  ·have h2:ast15=[]++ .v 7:: .v a::post:=h1
   unfold ast15 at h2;simp at h2
  ·have h2:ast15=[.v 6]++ .v 7:: .v a::post:=h1
   unfold ast15 at h2;simp only[List.singleton_append,List.cons.injEq,Nd.v.injEq]at h2;obtain⟨_,_,h3,h4⟩:=h2;subst h3 h4;exact sh
 have p1:Pk (fun s=>(0,runL [.v 6] 0 s)) 0 ([(d,2)]++[]):=pk_cons (pk_var 6 2 2 (by omega) (by omega) (by omega) (by kernel_rfl) (by kernel_rfl) hd.1 hd.2) (pk_end _);have hm:many 0 (init.length:Int)=(init.map secD).length:=by
  unfold many;rw[if_pos rfl,Int.toNat_natCast,List.length_map]
 have p2:=pk_cons (last:=0) (pk_var 8 2 2 (by omega) (by omega) (by omega) (by kernel_rfl) (by kernel_rfl) hu.1 hu.2)
  (pk_cons (pk_var 25 120 7 (n:=0) (by omega) (by omega) (by omega) (by kernel_rfl) (by kernel_rfl) (by omega) (by omega))
  (pk_cons (pk_var 26 1023 10 (n:=0) (by omega) (by omega) (by omega) (by kernel_rfl) (by kernel_rfl) (by omega) (by omega))
  (pk_cons (pk_var 27 31 5 (n:=(init.length:Int)) (by omega) (by omega) (by omega) (by kernel_rfl) (by kernel_rfl) (by omega) (by omega))
  (pk_cons (pk_grp (k:=0) (b:=[.v 28,.v 29,.g 1 [.v 30,.v 31]]) (last:=(init.length:Int)) (D:=(init.map secD).flatten) (by
   rw[hm];refine pk_reps _ fun D hD=>?_;obtain⟨x,hx,rfl⟩:=List.mem_map.1 hD;exact pk_sec (hr x (List.mem_append_left _ hx))))
  (pk_cons (pk_var 32 32767 15 (by omega) (by omega) (by omega) (by kernel_rfl) (by kernel_rfl) hl.1 hl.2.1)
  (pk_cons (pk_var 29 1 1 (n:=1) (by omega) (by omega) (by omega) (by kernel_rfl) (by kernel_rfl) (by omega) (by omega))
  (pk_cons (pk_once (k:=1) (by rfl) (pk_cons (pk_var 30 1023 10 (by omega) (by omega) (by omega) (by kernel_rfl) (by kernel_rfl) hl.2.2.1 hl.2.2.2) (pk_cons (pk_var 31 32767 15 (n:=0) (by omega) (by omega) (by omega) (by kernel_rfl) (by kernel_rfl) (by omega) (by omega)) (pk_end _))))
  (pk_cons (pk_var 33 1 1 (n:=0) (by omega) (by omega) (by omega) (by kernel_rfl) (by kernel_rfl) (by omega) (by omega))
  (pk_cons (pk_none (k:=1) (b:=[.v 34,.v 35]) (by rfl))
  (pk_gap hg 0))))))))))
 have w:=wh_make sh p1 p2;have e1:List.map Prod.fst ((([(d,(2:Int))]++[])++([(u,2)]++([(0,7)]++([(0,10)]++([((init.length:Int),5)]++((init.map secD).flatten++([(r.1,15)]++([(1,1)]++(([(r.2,10)]++([(0,15)]++[]))++([(0,1)]++([]++gapD g))))))))))))=d::u::0::0::(init.length:Int)::(((init++[r]).flatMap fun r=>[r.1,1,r.2,0])++gapV g):=by
  have e2:(gapD g).map Prod.fst=(gapV g).tail:=by
   unfold gapD gapV;split<;>rfl
  have e3:gapV g=0::(gapV g).tail:=by
   unfold gapV;split<;>rfl
  rw[e3,List.flatMap_append,<-flat_map];simp only[List.map_append,List.map_cons,e2,List.flatMap_cons,List.flatMap_nil,List.append_assoc,List.cons_append,List.nil_append,List.append_nil]
 have ht:=flat_total init;have hgt:0<=totalOf (gapD g)/\totalOf (gapD g)<=24:=by
  unfold gapD;split
  ·exact⟨(by decide),(by decide)⟩
  ·show 0<=(0:Int)+1+15+7+1/\(0:Int)+1+15+7+1<=24
   decide
 have:=items_of_wh (by rfl) w _ rfl (by
  simp only[total_append];rw[ht];simp only[total_cons,show totalOf []=0 from rfl];omega)
 rw[e1]at this;exact congrArg Prod.snd this
/-! ## Packet 5 -/
def lnV (x:(Int×Int)×(Int×Int)):List Int:=[x.1.1,1,x.1.2,x.2.1,x.2.2,2,12]
def lnD (x:(Int×Int)×(Int×Int))(D:List (Int×Int)):List (Int×Int):=[(x.1.1,15)]++([(1,1)]++(([(x.1.2,10)]++[])++([(x.2.1,14)]++([(x.2.2,1)]++([(2,2)]++([(12,6)]++D))))))
structure LnOk (x:(Int×Int)×(Int×Int)):Prop where
 n0:0<=x.1.1
 n1:x.1.1<=32767
 c0:0<=x.1.2
 c1:x.1.2<=1023
 b0:0<=x.2.1
 b1:x.2.1<=16383
 o0:0<=x.2.2
 o1:x.2.2<=1
theorem pk_ln {x:(Int×Int)×(Int×Int)}{l:List Nd}{last:Int}{D:List (Int×Int)}(h:LnOk x)(p:Pk (fun s=>(0,runL l 12 s)) 0 D):Pk (fun s=>(0,runL (.v 44:: .v 12:: .g 1 [.v 10]:: .v 11:: .v 45:: .v 46:: .v 47::l) last s)) 0 (lnD x D):=
 pk_cons (pk_var 44 32767 15 (by omega) (by omega) (by omega) (by kernel_rfl) (by kernel_rfl) h.n0 h.n1)
 (pk_cons (pk_var 12 1 1 (by omega) (by omega) (by omega) (by kernel_rfl) (by kernel_rfl) (by omega) (by omega))
 (pk_cons (pk_once (by rfl) (pk_cons (pk_var 10 1023 10 (by omega) (by omega) (by omega) (by kernel_rfl) (by kernel_rfl) h.c0 h.c1) (pk_end _)))
 (pk_cons (pk_var 11 16383 14 (by omega) (by omega) (by omega) (by kernel_rfl) (by kernel_rfl) h.b0 h.b1)
 (pk_cons (pk_var 45 1 1 (by omega) (by omega) (by omega) (by kernel_rfl) (by kernel_rfl) h.o0 h.o1)
 (pk_cons (pk_var 46 2 2 (by omega) (by omega) (by omega) (by kernel_rfl) (by kernel_rfl) (by omega) (by omega))
 (pk_cons (pk_var 47 63 6 (by omega) (by omega) (by omega) (by kernel_rfl) (by kernel_rfl) (by omega) (by omega)) p))))))
theorem ln_map (rows:List ((Int×Int)×(Int×Int))):(rows.map fun x=>lnD x []).flatten.map Prod.fst=rows.flatMap lnV:=by
 induction rows with
 |nil=>rfl
 |cons x r ih=>
  rw[List.map_cons,List.flatten_cons,List.map_append,ih,List.flatMap_cons]
  rfl
theorem ln_total (rows:List ((Int×Int)×(Int×Int))):totalOf (rows.map fun x=>lnD x []).flatten=49*rows.length:=by
 induction rows with
 |nil=>rfl
 |cons x r ih=>
  rw[List.map_cons,List.flatten_cons,total_append,ih,List.length_cons];have:totalOf (lnD x [])=49:=rfl;omega
theorem five_items {d u:Int}{x:(Int×Int)×(Int×Int)}{rows:List ((Int×Int)×(Int×Int))}(hd:0<=d/\d<=2)(hu:0<=u/\u<=2)(hx:LnOk x)(hr: ∀y∈rows,LnOk y)(hl:rows.length<=31):
  (itemsF 5 (d::u::(lnV x++((rows.length:Int)::rows.flatMap lnV)))).2=0:=by
 have sh:Shape 5 [.v 6] 8 [.v 44,.v 12,.g 1 [.v 10],.v 11,.v 45,.v 46,.v 47,.v 27,.g 0 [.v 44,.v 12,.g 1 [.v 10],.v 11,.v 45,.v 46,.v 47]]:=by
  obtain⟨pre,a,post,sh⟩:=shape_of (id:=5) (by rfl);have h1:=sh.ast
  rcases sh.pre with rfl|rfl
  ·have h2:ast5=[]++ .v 7:: .v a::post:=h1
   unfold ast5 at h2;simp at h2
  ·have h2:ast5=[.v 6]++ .v 7:: .v a::post:=h1
   unfold ast5 at h2;simp only[List.singleton_append,List.cons.injEq,Nd.v.injEq]at h2;obtain⟨_,_,h3,h4⟩:=h2;subst h3 h4;exact sh
 have p1:Pk (fun s=>(0,runL [.v 6] 0 s)) 0 ([(d,2)]++[]):=pk_cons (pk_var 6 2 2 (by omega) (by omega) (by omega) (by kernel_rfl) (by kernel_rfl) hd.1 hd.2) (pk_end _);have hm:many 0 (rows.length:Int)=(rows.map fun x=>lnD x []).length:=by
  unfold many;rw[if_pos rfl,Int.toNat_natCast,List.length_map]
 have p2:=pk_cons (last:=0) (pk_var 8 2 2 (by omega) (by omega) (by omega) (by kernel_rfl) (by kernel_rfl) hu.1 hu.2)
  (pk_ln (last:=u) hx (pk_cons (pk_var 27 31 5 (n:=(rows.length:Int)) (by omega) (by omega) (by omega) (by kernel_rfl) (by kernel_rfl) (by omega) (by omega))
   (pk_cons (pk_grp (k:=0) (b:=[.v 44,.v 12,.g 1 [.v 10],.v 11,.v 45,.v 46,.v 47]) (last:=(rows.length:Int)) (D:=(rows.map fun x=>lnD x []).flatten) (by
    rw[hm];refine pk_reps _ fun D hD=>?_;obtain⟨y,hy,rfl⟩:=List.mem_map.1 hD;exact pk_ln (hr y hy) (pk_end _))) (pk_end _))))
 have w:=wh_make sh p1 p2;have ht:=ln_total rows;have e1:List.map Prod.fst ((([(d,(2:Int))]++[])++([(u,2)]++lnD x ([((rows.length:Int),5)]++((rows.map fun x=>lnD x []).flatten++[])))))=d::u::(lnV x++((rows.length:Int)::rows.flatMap lnV)):=by
  rw[<-ln_map];generalize (rows.map fun x=>lnD x []).flatten=Q;unfold lnV lnD;simp only[List.map_cons,List.append_nil,List.nil_append,List.cons_append]
 have:=items_of_wh (by rfl) w _ rfl (by
  unfold lnD;simp only[total_append];unfold lnD at ht;rw[ht];simp only[total_cons,show totalOf []=0 from rfl];omega)
 rw[e1]at this;exact congrArg Prod.snd this
/-! ## What is told -/
theorem scT_in {d u U:Int}(hu:unitOf u=U)(hU:U=1\/U=10\/U=100):0<=scT d u/\scT d u<=32766:=by
 unfold scT scaledOf;rw[hu];split
 ·exact⟨Int.le_refl _,by decide⟩
 ·split
  ·exact⟨Int.le_refl _,by decide⟩
  ·split
   ·exact⟨Int.le_refl _,by decide⟩
   ·rename_i h1 h2 h3
    have e1:wholeOf d U false=d/U:=by
     unfold wholeOf;rw[if_neg (by simp)];omega
    dsimp only;rw[e1]at h3⊢
    rcases hU with rfl|rfl|rfl<;>omega
theorem secs_rows {u U:Int}(hu:unitOf u=U)(hU:U=1\/U=10\/U=100){l:List Sc3}{p b:Int}{w:List Int}(hb:0<=b)(hl:secsB p l=true)(h:secsV u b l=some w): ∃rows:List (Int×Int),rows.length=l.length/\(w=rows.flatMap fun r=>[r.1,1,r.2,0])/\ ∀x∈rows,0<=x.1/\x.1<=32767/\0<=x.2/\x.2<=1023:=by
 induction l generalizing p b w with
 |nil=>
  injection h with h
  subst h;exact⟨[],rfl,rfl,fun _ h=>by cases h⟩
 |cons s r ih=>
  have h1:=secs_cons.1 hl;have h2:=scT_in (d:=s.to_) hu hU;rw[secsV]at h;split at h
  ·cases h
  ·rename_i hn
   cases hq:secsV u (scT s.to_ u) r with
   |none=>rw[hq]at h;cases h
   |some w2=>
    rw[hq]at h;injection h with h
    subst h;obtain⟨rows,g1,g2,g3⟩:=ih h2.1 h1.2.2.2.2 hq;refine⟨(scT s.to_ u-b,s.timer)::rows,by rw[List.length_cons,List.length_cons,g1],by rw[List.flatMap_cons,g2];rfl,fun x hx=>?_⟩
    rcases List.mem_cons.1 hx with rfl|hx
    ·exact⟨by show 0<=scT s.to_ u-b;omega,by show scT s.to_ u-b<=32767;omega,by show 0<=s.timer;omega,by show s.timer<=1023;omega⟩
    ·exact g3 x hx
theorem ln_ok {t:Tp3}{u U d:Int}(hu:unitOf u=U)(hU:U=1\/U=10\/U=100)(hc:checkE t=0){e:Int}{b:Bl3}(hg:groupF t e=some b)(r:Bool):LnOk ((scT d u,b.id/16384),(b.id %16384,dirB r)):=by
 have h1:=bal_find hc (group_ok hg).1;have h2:=scT_in (d:=d) hu hU;have h3:0<=dirB r/\dirB r<=1:=by cases r<;>decide
 exact⟨h2.1,by show scT d u<=32767;omega,by show 0<=b.id/16384;omega,by show b.id/16384<=1023;omega,by show 0<=b.id %16384;omega,by show b.id %16384<=16383;omega,h3.1,h3.2⟩
theorem links_rows {t:Tp3}{m:Ma3}{u U:Int}(hu:unitOf u=U)(hU:U=1\/U=10\/U=100)(hc:checkE t=0){r:List St3}{last:Int}{w:List Int}(h:linksV t m u last false r=(w,0)): ∃rows:List ((Int×Int)×(Int×Int)),rows.length=r.length/\w=rows.flatMap lnV/\ ∀x∈rows,LnOk x:=by
 induction r generalizing last w with
 |nil=>
  have h:([]:List Int)=w:=congrArg Prod.fst h;subst h;exact⟨[],rfl,rfl,fun _ h=>by cases h⟩
 |cons s r ih=>
  obtain⟨b,at_,w2,h1,_,h3,rfl⟩:=links_cons h;obtain⟨rows,g1,g2,g3⟩:=ih h3;refine⟨((scT (at_-last) u,b.id/16384),(b.id %16384,dirB s.rev))::rows,by rw[List.length_cons,List.length_cons,g1],by rw[List.flatMap_cons,g2];rfl,fun x hx=>?_⟩
  rcases List.mem_cons.1 hx with rfl|hx
  ·exact ln_ok hu hU hc h1 _
  ·exact g3 x hx
def itemsOk (p:Int×List Int):Bool:=decide ((itemsF p.1 p.2).2=0)
theorem packets_items {t:Tp3}{m:Ma3}(h:(packetsE t m).2=0):(packetsE t m).1.all itemsOk=true:=by
 unfold packetsE at h⊢;split at h
 ·have h:(1:Int)=0:=h
  exact absurd h (by decide)
 ·rename_i h1
  rw[if_neg h1];have hm:=mayM_iff.1 (show mayM t m=true by simpa using h1);split at h
  ·have h:(7:Int)=0:=h
   exact absurd h (by decide)
  ·rename_i h2
   rw[if_neg h2];have hl0:0<=endM m:=secs_last hm.secs;have hg0:=hm.gap0;obtain⟨U,hu,hU,hE⟩:=best_ok (n:=endM m+m.gap) (by omega) (by omega);have hu2:0<=bestOf (endM m+m.gap)/\bestOf (endM m+m.gap)<=2:=by
    refine⟨by omega,?_⟩;unfold bestOf
    (repeat' split)<;>decide
   have hdir:0<=dirB m.rev/\dirB m.rev<=2:=by cases m.rev<;>decide
   generalize hbu:bestOf (endM m+m.gap)=u at*
   cases hw:secsV u 0 m.sects with
   |none=>
    have hv:fifteenE m u=none:=by unfold fifteenE;rw[hw];rfl
    rw[hv]at h;have h:(7:Int)=0:=h;exact absurd h (by decide)
   |some w=>
    have hv:fifteenE m u=some (dirB m.rev::u::0::0::((m.sects.length:Int)-1)::(w++gapV (scT m.gap u))):=by unfold fifteenE;rw[hw];rfl
    rw[hv]at h⊢;dsimp only at h⊢;obtain⟨rows,r1,r2,r3⟩:=secs_rows hu hU (Int.le_refl 0) hm.secs hw;have hne:rows≠[]:=by
     intro e;rw[e]at r1;have:=hm.one;rw[<-r1]at this;exact absurd this (by decide)
    have hs:=List.dropLast_concat_getLast hne;have h15:itemsOk (15,dirB m.rev::u::0::0::((m.sects.length:Int)-1)::(w++gapV (scT m.gap u)))=true:=by
     unfold itemsOk;rw[decide_eq_true_eq];have hl:=List.length_dropLast (xs:=rows);have h8:=hm.eight;have h81:=hm.one;have hg:=scT_in (d:=m.gap) hu hU;have:=fifteen_ok (d:=dirB m.rev) (u:=u) (g:=scT m.gap u) (init:=rows.dropLast) (r:=rows.getLast hne) hdir hu2 ⟨hg.1,by omega⟩ (by omega) (by rw[hs];exact r3);rw[hs,<-r2,show((rows.dropLast.length:Nat):Int)=(m.sects.length:Int)-1 from by omega]at this;exact this
    split at h
    ·rename_i h3
     rw[if_pos h3];rw[List.all_cons,h15]
     rfl
    ·rename_i h3
     rw[if_neg h3];split at h
     ·rename_i h4
      exact absurd h h4
     ·rename_i h4
      rw[if_neg h4];have h4:(linksV t m u (behindM t m) true (m.path.drop 1)).2=0:=by simpa using h4
      generalize hL:linksV t m u (behindM t m) true (m.path.drop 1)=L at*;obtain⟨lw,le⟩:=L;dsimp only at h4;subst h4;dsimp only;have h5:itemsOk (5,dirB m.rev::u::lw)=true:=by
       unfold itemsOk;rw[decide_eq_true_eq];have hlen:=(len_ok hm.len).1;have hfew:=hm.few
       cases hq:m.path with
       |nil=>exact absurd hq hlen
       |cons a r=>
        rw[hq]at hL h3 hfew;rw[List.drop_one,List.tail_cons]at hL
        cases r with
        |nil=>exact absurd rfl h3
        |cons s r=>
         obtain⟨b2,at_,w2,k1,_,k3,rfl⟩:=links_cons hL;obtain⟨rows2,g1,g2,g3⟩:=links_rows hu hU hm.check k3;simp only[List.length_cons]at hfew;have:=five_items (d:=dirB m.rev) (u:=u) (x:=((scT (at_-behindM t m) u,b2.id/16384),(b2.id %16384,dirB s.rev))) (rows:=rows2) hdir hu2 (ln_ok hu hU hm.check k1 _) g3 (by omega);have e3:(m.path.length:Int)-2=rows2.length:=by rw[hq,g1];simp only[List.length_cons];omega
         rw[<-g2,<-e3]at this;exact this
      rw[List.all_cons,List.all_cons,h15,h5]
      rfl
end
end Go.Proofs.YtahadmeilajdgaaGreatDoor
