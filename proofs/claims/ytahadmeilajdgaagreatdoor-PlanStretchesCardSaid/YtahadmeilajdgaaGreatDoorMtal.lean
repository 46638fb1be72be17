/-
  Our own text, joined.
-/
import Derived.Test.YtahadmeilajdgaaGreatDoorMtak
import Derived.BigQuiet
import Derived.IntWalk
import Derived.Test.YtahadmeilajdgaaGreatDoorMtaa
import Derived.Test.YtahadmeilajdgaaGreatDoorMtab
import Derived.Test.YtahadmeilajdgaaGreatDoorMtad
import Derived.Test.YtahadmeilajdgaaGreatDoorMtag
import Derived.Test.YtahadmeilajdgaaGreatDoorRows
import Derived.WalkKit
import Derived.Great.Walk
import Derived.Laws.ResultCell
import Derived.Deep.LoopGhost
import Derived.Maps.AppendAt
import Derived.OwnWalk
import Derived.Deep.DeepCutAuto
import Derived.Deep.CutBlock
import Derived.Deep.QuietTactic
namespace Go.Proofs.YtahadmeilajdgaaGreatDoor
set_option maxRecDepth 100000
set_option maxHeartbeats 80000000
section
open Go.RowKit
open Go.Great
theorem bad_own17 {n G:Int}{raw:List Sc3}{m:Nat}{z:Sc3}(hm:raw.length=m+1)(hz:(lessB G raw)[m]?=some z):
  (m=0->badB n G raw=decide (z.to_<=n))/\ ∀(j:Nat) (y:Sc3),m=j+1->(lessB G raw)[j]?=some y->badB n G raw=(decide (z.to_<=n)||decide (z.to_<=y.to_)):=by
 have hd:raw.dropLast.length=m:=by rw[List.length_dropLast,hm];rfl
 unfold lessB at hz⊢;rw[List.getElem?_append_right (by omega),hd,Nat.sub_self]at hz;injection hz with hz
 subst hz;dsimp only;refine⟨fun h0=>?_,fun j y hj hy=>?_⟩
 ·unfold badB
  have h1:raw.dropLast=[]:=List.eq_nil_of_length_eq_zero (by omega);rw[h1];simp
 ·unfold badB
  rw[List.getElem?_append_left (by omega)]at hy;have h1:raw.dropLast.getLast?=some y:=by rw[List.getLast?_eq_getElem?,hd,hj];exact hy
  rw[h1]
theorem qgi {L:List Sc3}{y:Sc3}(h:L[0]?=some y):qaZ L=if y.to_=0 then L.drop 1 else L:=by
 cases L with
 |nil=>cases h
 |cons x r=>
  injection h with h
  subst h;exact fromOne_cons x r
theorem build_err17 {t:Tp3}{l:List Lc3}{train ref:Int}{rev:Bool}{n:Int}(h:(locE t ref rev n).2≠0):qdQ t l train ref rev n=(noMa,(locE t ref rev n).2):=by
 unfold qdQ;rw[if_pos h]
theorem build_go17 {t:Tp3}{l c:List Lc3}{train ref:Int}{rev:Bool}{n:Int}{x p:Ps3}(hl:locE t ref rev n=(x,0))(hp:qc3 t ⟨ref,rev,[],[],0⟩=p)(hc:qc2 t l train (stepP x)=c):
  qdQ t l train ref rev n=if c.isEmpty=true then(noMa,4)else if(decide (24<(fullB t (goneL t p n) (stepP x) c).length)||qbs (fullB t (goneL t p n) (stepP x) c))=true then(noMa,2)
   else if badB n (gapC t c) (rawB t (intoP t p) (goneL t p n) (stepP x) c)=true then(noMa,141)else(⟨ref,rev,fullB t (goneL t p n) (stepP x) c,qaZ (lessB (gapC t c) (rawB t (intoP t p) (goneL t p n) (stepP x) c)),gapC t c⟩,0):=by
 unfold qdQ;rw[hl];dsimp only;rw[if_neg (by simp),hp,hc]
theorem raw_len17 {t:Tp3}{b0:Int}{g:List St3}{s:St3}(c:List Lc3):(rawB t b0 g s c).length=c.length:=by
 have h: ∀(r:List Lc3) (g:List St3),(qee t b0 g r).length=r.length:=fun r=>by
  induction r with
  |nil=>intro g;rfl
  |cons k r ih=>intro g;rw[qee,List.length_cons,List.length_cons,ih]
 cases c with
 |nil=>rfl
 |cons k r=>rw[rawB,List.length_cons,List.length_cons,h]
theorem opn_build (t:Tp3)(a:TpA)(l:List Lc3)(train ref:Int)(rev:Bool)(n:Int)(A:Option Addr)(nl c:Nat)(w:World)(ht:TopR w t a)(hl:qaH t=true)(hcj:t.joints.length<=a.cj)(hs:SlO lcC 3 w A nl c l)(hc:nl<=c)(hn:nl<=100):Calls Tryz.prog 14 #[.agg (tpC t a),.slice A nl c,.int .i64 train,.int .i64 ref,.bool rev,.int .i64 n] w fun r w'=> ∃b,r= .returned (.tuple #[.agg (maC (qdQ t l train ref rev n).1 b),.int .i64 (qdQ t l train ref rev n).2])/\MaR w' (qdQ t l train ref rev n).1 b/\Below w.heap.size w w':=by
 have HLO:=zq (fun W (hW:Below w.heap.size w W)=>qci t a ref rev n W (ht.under hW) hl hcj);have HCH:=zq (fun W (hW:Below w.heap.size w W) s=>opn_chain t a l train s A nl c W (ht.under hW) hl hcj (hs.under hW) hc hn);have HAU:=zq (fun W (hW:Below w.heap.size w W) c x p A cn cc hs hcp hc0 hc8 hloc hw=>opauth_any t a l c train ref rev n x p A cn cc W (ht.under hW) hl hcj hs hcp hc0 hc8 hloc hw);obtain⟨M,E,hB⟩: ∃M e,qdQ t l train ref rev n=(M,e):=⟨_,_,rfl⟩
 have HBE:=zq hB;rw[hB];dsimp only;obtain⟨x,e,hloc⟩: ∃x e,locE t ref rev n=(x,e):=⟨_,_,rfl⟩
 have HLOC:=zq hloc;rw[hloc]at HLO;obtain⟨xe,xa,xr⟩:=x;unfold psA at HLO;dsimp only at HLO;obtain⟨wa,hwa,hbwa,HWA,HBWA,h0,h1⟩:=bx2Z w 27 (tpC t a) 38 #[.int .i64 0,.bool false,.slice none 0 0,.slice none 0 0,.int .i64 0];have H0:=zH h0;have H1:=zH h1;have HSO:=zq (fun W=>qcC ⟨xe,xa,xr⟩ W);unfold psA stA13 stepP at HSO;dsimp only at HSO;have HLT:=zq hl;clear hwa hbwa h0 h1 ht hl hcj hs hc hn hB hloc;go_enter Tryz.func14,Tryz.ntmps14;go_upto_region 1 with fail;rw[HWA.out];clear HWA;go_wp2_with (with_reducible refine ldZ 20 (H0.out wa (Below.refl _ _)) ?_);refine(HLO.out wa HBWA.out).mono ?_;rintro e_ w1 ⟨rfl,hb1⟩;have HB1:=zq hb1;clear hb1;go_upto_region 2 with fail;obtain⟨w2,hw2⟩:=geZ (w1.alloc (.cells #[.int .i64 xe,.int .i64 xa,.bool xr] 51));rw[hw2];have HB2:=zq (show Below wa.heap.size wa w2 from by rw[<-hw2];exact HB1.out.alloc HB1.out.size _);have hH:Has w2 w1.heap.size 51 #[.int .i64 xe,.int .i64 xa,.bool xr]:=by rw[<-hw2];exact Has.made _ _ _
 obtain⟨gP,hgP⟩: ∃g,w1.heap.size=g:=⟨_,rfl⟩
 rw[hgP]at hH;simp only[hgP];have HHP:=zH hH;have HX2:=zq (fun W (hW:Below w2.heap.size w2 W)=>HB2.out.trans (hW.mono HB2.out.size));clear hw2 hH hgP HB1;by_cases z0:e=0;rotate_left
 ·have q0:(e !=0)=true:=by simp[z0]
  obtain⟨rfl,rfl⟩:M=noMa/\E=e:=by have h_:=HBE.out;rw[build_err17 (by rw[HLOC.out];exact z0),HLOC.out]at h_;injection h_ with h1_ h2_;exact⟨h1_.symm,h2_.symm⟩
  clear z0;have HZ:=zq (H1.out w2 HB2.out);have HR:=zq (qaa HZ.out #[.int .i64 0,.bool false,.slice none 0 0,.slice none 0 0,.int .i64 0]);have HBF:=zq (qab (g:=w.heap.size+1) (HBWA.out.trans (HB2.out.mono HBWA.out.size)) (by omega) #[.int .i64 0,.bool false,.slice none 0 0,.slice none 0 0,.int .i64 0]);go_wp2_with (with_reducible refine stZ #[.int .i64 0,.bool false,.slice none 0 0,.slice none 0 0,.int .i64 0] HZ.out ?_);refine rtZ HR.out ?_;exact⟨⟨none,0,none,0⟩,rfl,⟨SlO.nil _ _ _,SlO.nil _ _ _,Nat.le_refl _,Nat.le_refl _,fun s hs=>by cases hs⟩,HBF.out⟩
 subst z0;have q0:((0:Int) !=0)=false:=rfl;obtain⟨p,hl0,hwk,hpl⟩:=loc_group17 HLOC.out;obtain⟨ch,hch⟩: ∃c,qc2 t l train (stepP ⟨xe,xa,xr⟩)=c:=⟨_,rfl⟩
 have HCP:=zq (show ChainP t l train (stepP ⟨xe,xa,xr⟩) ch/\ch.length<=8 from by rw[<-hch];exact chain_p _ _ _ _);have HBE:=zq ((build_go17 HLOC.out hpl hch).symm.trans HBE.out);have HCS:=zq (fun W (hW:Below w.heap.size w W)=>HCH.out W hW (stepP ⟨xe,xa,xr⟩));rw[hch]at HCS;obtain⟨cn,hcn⟩: ∃m,ch.length=m:=⟨_,rfl⟩
 rw[hcn]at HCS HCP;have HCN:=zq hcn;have HL0:=zq hl0;have HWK:=zq hwk;unfold stA13 stepP at HCS;dsimp only at HCS;clear hl0 hwk hpl hch hcn HCH HLO;go_upto_region 4 with fail;clear q0;refine wp_region_held_drew (S:=(fun W_=>(Has W_ (w.heap.size) 27 (tpC t a))/\(Has W_ (gP) 51 #[.int .i64 xe,.int .i64 xa,.bool xr])/\(Below w2.heap.size w2 W_))) (by kernel_rfl) ?_ (fun hHeld=>?_)
 ·exact⟨(H0.out _ HB2.out).draw,(HHP.out _ (Below.refl _ _)).draw,qaf (Below.refl _ _)⟩
 refine tlZ 0 31 w.heap.size (tpC t a) (fun _ ⟨h_,_,_⟩=>h_) (h:=?_);simp only[lyZ];refine tkZ 1 32 (h:=?_);simp only[lyZ];refine tkZ 2 33 (h:=?_);simp only[lyZ];refine tlZ 3 34 gP #[.int .i64 xe,.int .i64 xa,.bool xr] (fun _ ⟨_,h_,_⟩=>h_) (h:=?_);simp only[lyZ];refine aoZ 4 (some 35) (fun K hK=>?_);go_simp;obtain⟨s0,s1,s2⟩:=hHeld;refine(HSO.out _).mono ?_;rintro e_ q1 ⟨rfl,hb_⟩;go_wp2_with fail;refine hK.out _ _ ?_ (fun hHeld=>?_)
 ·exact⟨s0.u hb_,s1.u hb_,bu s2 hb_⟩
 clear hK K s0 s1 s2
 try simp only[lyZ]
 refine aoZ 5 (some 36) (fun K hK=>?_);go_simp;obtain⟨s0,s1,s2⟩:=hHeld;refine(HCS.out _ (HBWA.out.trans ((HX2.out _ s2).mono HBWA.out.size))).mono ?_;rintro e_ q2 ⟨CX,cx,rfl,hlk_,hb2_⟩;have HLK:=zq hlk_;go_wp2_with fail;refine hK.out _ _ ?_ (fun hHeld=>?_)
 ·exact⟨s0.u hb2_,s1.u hb2_,bu s2 hb2_⟩
 clear hK K s0 s1 s2
 try simp only[lyZ]
 refine tkZ 6 16 (h:=?_);simp only[lyZ];refine dnZ ?_;obtain⟨w3,hw3⟩: ∃u,u=q2:=⟨_,rfl⟩
 subst hw3;have HB3:=zq (HX2.out _ hHeld.2.2);clear hHeld HSO HCS HHP;by_cases z1:cn=0
 ·have q1:((cn:Int)==0)=true:=by simp[z1]
  have q2:(cn:Int)=0:=by omega
  have HCE:=zq (show ch=[]from List.eq_nil_of_length_eq_zero (by rw[HCN.out];exact z1));clear z1;obtain⟨rfl,rfl⟩:M=noMa/\E=4:=by have h_:=HBE.out;rw[if_pos (by rw[HCE.out];rfl)]at h_;injection h_ with h1_ h2_;exact⟨h1_.symm,h2_.symm⟩
  have HZ:=zq (H1.out w3 HB3.out);have HR:=zq (qaa HZ.out #[.int .i64 0,.bool false,.slice none 0 0,.slice none 0 0,.int .i64 0]);have HBF:=zq (qab (g:=w.heap.size+1) (HBWA.out.trans (HB3.out.mono HBWA.out.size)) (by omega) #[.int .i64 0,.bool false,.slice none 0 0,.slice none 0 0,.int .i64 0]);go_wp2_with (with_reducible refine stZ #[.int .i64 0,.bool false,.slice none 0 0,.slice none 0 0,.int .i64 0] HZ.out ?_);refine rtZ HR.out ?_;exact⟨⟨none,0,none,0⟩,rfl,⟨SlO.nil _ _ _,SlO.nil _ _ _,Nat.le_refl _,Nat.le_refl _,fun s hs=>by cases hs⟩,HBF.out⟩
 have q1:((cn:Int)==0)=false:=by simp;omega
 have q2: ¬(cn:Int)=0:=by omega
 have HC0:=zq (show ch≠[]from fun h_=>by have h2_:=HCN.out;rw[h_]at h2_;simp at h2_;omega);have HBE:=zq (by have h_:=HBE.out;rw[if_neg (by cases hq_:ch with|nil=>exact absurd hq_ HC0.out|cons _ _=>simp)]at h_;exact h_);have HRL:=zq ((raw_len17 (t:=t) (b0:=intoP t p) (g:=goneL t p n) (s:=stepP ⟨xe,xa,xr⟩) ch).trans HCN.out);have HC1:=zq (show 1<=cn/\cn<=8 from by have:=HCP.out.2;omega);have HAW:=zq (HAU.out w3 (HBWA.out.trans (HB3.out.mono HBWA.out.size)) ch ⟨xe,xa,xr⟩ p CX cn cx HLK.out.1 HCP.out.1 HC0.out (by rw[HCN.out];exact HC1.out.2) HL0.out HWK.out);have HLL:=zq ((qgm (g:=gapC t ch) (l:=rawB t (intoP t p) (goneL t p n) (stepP ⟨xe,xa,xr⟩) ch) (fun e_=>by have h_:=HRL.out;rw[e_]at h_;simp at h_;have:=HC1.out;omega)).trans HRL.out);obtain⟨raw,hraw⟩: ∃r,rawB t (intoP t p) (goneL t p n) (stepP ⟨xe,xa,xr⟩) ch=r:=⟨_,rfl⟩
 obtain⟨PF,hPF⟩: ∃r,fullB t (goneL t p n) (stepP ⟨xe,xa,xr⟩) ch=r:=⟨_,rfl⟩
 obtain⟨G,hG⟩: ∃r,gapC t ch=r:=⟨_,rfl⟩
 rw[hraw]at HBE HRL HAW HLL;rw[hPF]at HBE HAW;rw[hG]at HBE HAW HLL;obtain⟨LF,hLF⟩: ∃r,lessB G raw=r:=⟨_,rfl⟩
 have HLF:=zq hLF;rw[hLF]at HBE HAW HLL;clear hraw hPF hG hLF z1 HCP HC0 HL0 HWK HAU HLK;go_upto_region 7 with fail;clear q1 q2;go_wp2_with (with_reducible refine ldZ 41 (H0.out w3 HB3.out) ?_);refine HAW.out.mono ?_;rintro e_ w4 ⟨b,rfl,hm4,hb4,hpo,hso⟩;obtain⟨AP,PC,AQ,CS⟩:=b;unfold maC;have hcP:=hm4.capP;have hcS:=hm4.capS;have htop:=hm4.top;dsimp only at hpo hso hcP hcS htop⊢;obtain⟨pn,hpn⟩: ∃m,PF.length=m:=⟨_,rfl⟩
 rw[hpn]at hpo hcP⊢;rw[HLL.out]at hso hcS⊢;have HG1:=zq (show w.heap.size+1<w3.heap.size from(H1.out w3 HB3.out).lt);have HPN:=zq hpn;have HB4:=tB HB3 hb4;clear hm4 hb4 hpn HAW HB3;obtain⟨k,hk⟩: ∃k,cn=k+1:=⟨cn-1,by have:=HC1.out;omega⟩
 subst hk;have HK8:=zq (show k<8 from by have:=HC1.out;omega);have hk8:k<8:=HK8.out;go_upto_region 8 with fail;obtain⟨w5,hw5⟩: ∃u,w4.alloc (.cells #[.int .i64 ref,.bool rev,.slice AP pn PC,.slice AQ (k+1) CS,.int .i64 G] 38)=u:=⟨_,rfl⟩
 rw[hw5];have hH5:Has w5 w4.heap.size 38 #[.int .i64 ref,.bool rev,.slice AP pn PC,.slice AQ (k+1) CS,.int .i64 G]:=by rw[<-hw5];exact Has.made _ _ _
 have hb5:Below w4.heap.size w4 w5:=by rw[<-hw5];exact bA
 obtain⟨gm,hgm⟩: ∃g,w4.heap.size=g:=⟨_,rfl⟩
 have hgm2:wa.heap.size<=gm:=by rw[<-hgm];exact HB4.out.size
 rw[hgm]at hH5;simp only[hgm];have HB5:=tB HB4 hb5;have HM5:=zH hH5;have HP5:=zq (fun W (hW:Below w5.heap.size w5 W)=>(hpo.under hb5).under hW);have HS5:=zq (fun W (hW:Below w5.heap.size w5 W)=>(hso.under hb5).under hW);have HX5:=zq (fun W (hW:Below w5.heap.size w5 W)=>HB5.out.trans (hW.mono HB5.out.size));have HCC:=zq (show pn<=PC/\k+1<=CS from⟨hcP,hcS⟩);have HTOP:=zq htop;clear hw5 hH5 hb5 hpo hso hcP hcS htop HB4 hgm;have m2:w5.cell? ⟨gm,2,none⟩=some (.slice AP pn PC):=(HM5.out w5 (Below.refl _ _)).cell 2;have m3:w5.cell? ⟨gm,3,none⟩=some (.slice AQ (k+1) CS):=(HM5.out w5 (Below.refl _ _)).cell 3;go_upto_region 9 with fail;by_cases z1:24<pn
 ·have z2:(24:Int)<pn:=by omega
  have HZ1:=zq z1;clear z1;obtain⟨rfl,rfl⟩:M=noMa/\E=2:=by have h_:=HBE.out;rw[if_pos (by rw[HPN.out,decide_eq_true HZ1.out];rfl)]at h_;injection h_ with h1_ h2_;exact⟨h1_.symm,h2_.symm⟩
  have HZ:=zq (H1.out w5 HB5.out);have HR:=zq (qaa HZ.out #[.int .i64 0,.bool false,.slice none 0 0,.slice none 0 0,.int .i64 0]);have HBF:=zq (qab (g:=w.heap.size+1) (HBWA.out.trans (HB5.out.mono HBWA.out.size)) (by omega) #[.int .i64 0,.bool false,.slice none 0 0,.slice none 0 0,.int .i64 0]);go_wp2_with (with_reducible refine stZ #[.int .i64 0,.bool false,.slice none 0 0,.slice none 0 0,.int .i64 0] HZ.out ?_);refine rtZ HR.out ?_;exact⟨⟨none,0,none,0⟩,rfl,⟨SlO.nil _ _ _,SlO.nil _ _ _,Nat.le_refl _,Nat.le_refl _,fun s hs=>by cases hs⟩,HBF.out⟩
 have z2: ¬(24:Int)<pn:=by omega
 have HP24:=zq (show pn<=24 from by omega);clear z1;obtain⟨tw,htw⟩: ∃b,qbs PF=b:=⟨_,rfl⟩
 have HRE:=zq (oprep_any PF AP pn PC w5 (HP5.out w5 (Below.refl _ _)).sl (by have:=HP24.out;omega) HCC.out.1);rw[htw]at HRE HBE;rw[HPN.out,decide_eq_false (show¬24<pn from by have:=HP24.out;omega),Bool.false_or]at HBE;clear htw;go_wp2_with fail;refine HRE.out.mono ?_;rintro e_ w6 ⟨rfl,hb6⟩;have HB6:=zq hb6;clear hb6 HRE m2 m3 z2
 cases tw with
 |true=>
  obtain⟨rfl,rfl⟩:M=noMa/\E=2:=by have h_:=HBE.out;rw[if_pos rfl]at h_;injection h_ with h1_ h2_;exact⟨h1_.symm,h2_.symm⟩
  have HZ:=zq (H1.out w6 (HX5.out w6 HB6.out));have HR:=zq (qaa HZ.out #[.int .i64 0,.bool false,.slice none 0 0,.slice none 0 0,.int .i64 0]);have HBF:=zq (qab (g:=w.heap.size+1) (HBWA.out.trans ((HX5.out w6 HB6.out).mono HBWA.out.size)) (by omega) #[.int .i64 0,.bool false,.slice none 0 0,.slice none 0 0,.int .i64 0]);go_wp2_with (with_reducible refine stZ #[.int .i64 0,.bool false,.slice none 0 0,.slice none 0 0,.int .i64 0] HZ.out ?_);refine rtZ HR.out ?_;exact⟨⟨none,0,none,0⟩,rfl,⟨SlO.nil _ _ _,SlO.nil _ _ _,Nat.le_refl _,Nat.le_refl _,fun s hs=>by cases hs⟩,HBF.out⟩
 |false=>
 have HBE:=zq (by have h_:=HBE.out;rw[if_neg (by decide)]at h_;exact h_);obtain⟨z,hz⟩:=glZ LF (k) (by rw[HLL.out];omega);obtain⟨hbad0,hbad1⟩:=bad_own17 (n:=n) (G:=G) HRL.out (by rw[HLF.out];exact hz);rw[HLF.out]at hbad1;have HBD0:=zq hbad0;have HBD1:=zq hbad1;have m3:w6.cell? ⟨gm,3,none⟩=some (.slice AQ (k+1) CS):=(HM5.out w6 HB6.out).cell 3;obtain⟨bs,os,rfl,d0,-⟩:=(HS5.out w6 HB6.out).sl.sect hz;obtain⟨y0_,hy0⟩: ∃z,LF[0]?=some z:=⟨_,List.getElem?_eq_getElem (by rw[HLL.out];omega)⟩
 have HY0:=zq hy0;obtain⟨zt,hzt⟩: ∃q,z.to_=q:=⟨_,rfl⟩
 rw[hzt]at d0 hbad0 hbad1 HBD0 HBD1;have v1:(0:Int)<=(k:Int):=by omega
 have v2:(k:Int)<((k+1:Nat):Int):=by omega
 have v3:(k:Int).toNat=k:=by omega
 clear hz hzt hbad0 hbad1 hy0;go_upto_region 11 with fail;by_cases z3:zt<=n
 ·have HBAD:=zq (show badB n G raw=true from by
   rcases Nat.eq_zero_or_pos k with hk_|hk_
   ·rw[HBD0.out hk_,decide_eq_true z3]
   ·obtain⟨j_,hj_⟩: ∃j,k=j+1:=⟨k-1,by omega⟩
    obtain⟨y_,hy_⟩: ∃z,LF[j_]?=some z:=⟨_,List.getElem?_eq_getElem (by rw[HLL.out];omega)⟩
    rw[HBD1.out j_ y_ hj_ hy_,decide_eq_true z3,Bool.true_or])
  have z4:decide (zt<=n)=true:=decide_eq_true z3;go_quiet (fail);obtain⟨w7,hw7⟩: ∃u,w6.drewN nq=u:=⟨_,rfl⟩
  rw[hw7];have HB7:=zq (show Below w5.heap.size w5 w7 from by rw[<-hw7];exact qac HB6.out _);clear hw7;go_upto_region 12 with fail;obtain⟨rfl,rfl⟩:M=noMa/\E=141:=by have h_:=HBE.out;rw[if_pos HBAD.out]at h_;injection h_ with h1_ h2_;exact⟨h1_.symm,h2_.symm⟩
  have HZ:=zq (H1.out w7 (HX5.out w7 HB7.out));have HR:=zq (qaa HZ.out #[.int .i64 0,.bool false,.slice none 0 0,.slice none 0 0,.int .i64 0]);have HBF:=zq (qab (g:=w.heap.size+1) (HBWA.out.trans ((HX5.out w7 HB7.out).mono HBWA.out.size)) (by omega) #[.int .i64 0,.bool false,.slice none 0 0,.slice none 0 0,.int .i64 0]);go_wp2_with (with_reducible refine stZ #[.int .i64 0,.bool false,.slice none 0 0,.slice none 0 0,.int .i64 0] HZ.out ?_);refine rtZ HR.out ?_;exact⟨⟨none,0,none,0⟩,rfl,⟨SlO.nil _ _ _,SlO.nil _ _ _,Nat.le_refl _,Nat.le_refl _,fun s hs=>by cases hs⟩,HBF.out⟩
 have z4:decide (zt<=n)=false:=decide_eq_false z3
 rcases Nat.eq_zero_or_pos k with hk_|hk_
 ·have HBAD:=zq (show badB n G raw=false from by rw[HBD0.out hk_,z4])
  have z6:decide (0<(k:Int))=false:=decide_eq_false (by omega);have z7:decide ((k:Int)>0)=false:=decide_eq_false (by omega);have z8:decide (0<k)=false:=decide_eq_false (by omega);have HK0:=zq hk_;clear HBD0 HBD1 hk_;go_quiet (fail);obtain⟨w7,hw7⟩: ∃u,w6.drewN nq=u:=⟨_,rfl⟩
  rw[hw7];have HB7:=zq (show Below w5.heap.size w5 w7 from by rw[<-hw7];exact qac HB6.out _);clear hw7;obtain⟨rfl,rfl⟩:M=⟨ref,rev,PF,qaZ LF,G⟩/\E=0:=by have h_:=HBE.out;rw[if_neg (by rw[HBAD.out];decide)]at h_;injection h_ with h1_ h2_;exact⟨h1_.symm,h2_.symm⟩
  obtain⟨y0,hy0⟩: ∃z,LF[0]?=some z:=⟨_,List.getElem?_eq_getElem (by rw[HLL.out];omega)⟩
  have HFO:=zq (qgi hy0);obtain⟨b0_,o0_,e0_,f0,-⟩:=(HS5.out w7 HB7.out).sl.sect hy0;injection e0_ with e0_
  injection e0_ with e1_ e2_ e3_
  subst e1_;obtain rfl:os=o0_:=by omega
  obtain⟨yt,hyt⟩: ∃q,y0.to_=q:=⟨_,rfl⟩
  rw[hyt]at f0 HFO;have f0':w7.cell? ⟨bs,os,none⟩=some (.int .i64 yt):=by rw[show os=os+0*2 by omega];exact f0
  clear hyt hy0 e2_ e3_ HBE;have u1:(0:Int)<((k+1:Nat):Int):=by omega
  go_upto_region 13 with fail;have m3:w7.cell? ⟨gm,3,none⟩=some (.slice (some ⟨bs,os,none⟩) (k+1) CS):=(HM5.out w7 HB7.out).cell 3;by_cases y1:yt=0
  ·have HFO:=zq (HFO.out.trans (if_pos y1))
   have y2:(yt==0)=true:=by simp[y1]
   have y3:decide (yt=0)=true:=decide_eq_true y1;have hcs:1<=k+1:=by omega
   have hcu: ∀W,(Instr.sliceAt 36 (.slice (some ⟨bs,os,none⟩) (k+1) CS) (some (.int .i64 1)) none none).run Tryz.prog W= .ok (.slice (if CS=1 then(some ⟨bs,os,none⟩:Option Addr)else(some ⟨bs,os,none⟩:Option Addr).map (·.add (1*2))) (k+1-1) (CS-1)) W:=fun W=>qbT (P:=Tryz.prog) 2 36 66 Tryz.underlying36 (by kernel_rfl) (some ⟨bs,os,none⟩) (k+1) CS 1 hcs W;have HSQ:=zq (fun W (h_:SlO scC17 2 W (some ⟨bs,os,none⟩) (k+1) CS LF)=>h_.from17 (fun _=>rfl) HCC.out.2 hcs);obtain⟨A2,hA2⟩:=geZ ((if CS=1 then(some ⟨bs,os,none⟩:Option Addr)else(some ⟨bs,os,none⟩:Option Addr).map (·.add (1*2))));obtain⟨c2,hc2⟩: ∃m,CS-1=m:=⟨_,rfl⟩
   rw[hA2,hc2]at hcu HSQ;have HC2:=zq hc2;clear hA2 hc2 y1 hcs;have HM7:=zq (qaa (HM5.out w7 HB7.out) #[.int .i64 ref,.bool rev,.slice AP pn PC,.slice A2 k c2,.int .i64 G]);have HPW:=zq ((HP5.out w7 HB7.out).kept (qal w7 gm #[.int .i64 ref,.bool rev,.slice AP pn PC,.slice A2 k c2,.int .i64 G]) (.inr ((HP5.out w7 HB7.out).apart (HM5.out w7 HB7.out) (by decide))));have HSW:=zq ((HS5.out w7 HB7.out).kept (qal w7 gm #[.int .i64 ref,.bool rev,.slice AP pn PC,.slice A2 k c2,.int .i64 G]) (.inr ((HS5.out w7 HB7.out).apart (HM5.out w7 HB7.out) (by decide))));have HBW:=zq (qab (g:=gm) (HX5.out w7 HB7.out) hgm2 #[.int .i64 ref,.bool rev,.slice AP pn PC,.slice A2 k c2,.int .i64 G]);obtain⟨w8,hw8⟩: ∃u,w7.setRow gm #[.int .i64 ref,.bool rev,.slice AP pn PC,.slice A2 k c2,.int .i64 G]=u:=⟨_,rfl⟩
   rw[hw8]at HM7 HPW HSW HBW;have HW8:=zq hw8;clear hw8;go_upto_region 14 with fail;go_upto_region 15 with(with_reducible refine qap (o:=⟨none,_,_,_,_,_⟩) rfl 36 _ _ rfl (gm) 3 ((.slice A2 k c2)) rfl rfl 38 #[.int .i64 ref,.bool rev,.slice AP pn PC,.slice (some ⟨bs,os,none⟩) (k+1) CS,.int .i64 G] (HM5.out w7 HB7.out) (Nat.le_of_ble_eq_true rfl) (by kernel_rfl) rfl #[.int .i64 ref,.bool rev,.slice AP pn PC,.slice A2 k c2,.int .i64 G] rfl ?_)
   rw[HW8.out];clear HW8;have HZ:=zq (H1.out _ HBW.out);have HR:=zq (qaa HZ.out #[.int .i64 ref,.bool rev,.slice AP pn PC,.slice A2 k c2,.int .i64 G]);have HBF:=zq (qab (g:=w.heap.size+1) (HBWA.out.trans (HBW.out.mono HBWA.out.size)) (by omega) #[.int .i64 ref,.bool rev,.slice AP pn PC,.slice A2 k c2,.int .i64 G]);have HPF:=zq (HPW.out.rowlow17 HG1.out #[.int .i64 ref,.bool rev,.slice AP pn PC,.slice A2 k c2,.int .i64 G]);have HSF:=zq (HSW.out.rowlow17 HG1.out #[.int .i64 ref,.bool rev,.slice AP pn PC,.slice A2 k c2,.int .i64 G]);go_wp2_with (first|(with_reducible refine ldZ 102 HM7.out ?_)|(with_reducible refine stZ #[.int .i64 ref,.bool rev,.slice AP pn PC,.slice A2 k c2,.int .i64 G] HZ.out ?_));refine rtZ HR.out ?_;have hlf_:(qaZ LF).length=k:=by rw[HFO.out];first|exact HLL.out|(rw[List.length_drop,HLL.out];rfl)
   refine⟨⟨AP,PC,A2,c2⟩,by unfold maC;dsimp only;rw[HPN.out,hlf_];rfl,⟨?_,?_,?_,?_,fun s_ hs_=>HTOP.out s_ ?_⟩,HBF.out⟩
   ·show SlO stC 2 _ AP PF.length PC PF;rw[HPN.out];exact HPF.out.sl
   ·show SlO scC17 2 _ (A2) (qaZ LF).length c2 (qaZ LF);rw[hlf_,HFO.out];exact HSQ.out _ HSF.out.sl
   ·show PF.length<=PC;rw[HPN.out];exact HCC.out.1
   ·show(qaZ LF).length<=c2;rw[hlf_];have h_:=HCC.out.2;first|omega|(have h2_:=HC2.out;omega)
   ·have h_:s_∈qaZ LF:=hs_
    rw[HFO.out]at h_
    first|exact h_|exact List.drop_subset _ _ h_
  ·have HFO:=zq (HFO.out.trans (if_neg y1))
   have y2:(yt==0)=false:=by simp[y1]
   have y3:decide (yt=0)=false:=decide_eq_false y1;clear y1;have HPW:=HP5.out w7 HB7.out;have HPW:=zq HPW;have HSW:=HS5.out w7 HB7.out;have HSW:=zq HSW;have HZ:=zq (H1.out _ (HX5.out w7 HB7.out));go_upto_region 15 with fail;have HR:=zq (qaa HZ.out #[.int .i64 ref,.bool rev,.slice AP pn PC,.slice (some ⟨bs,os,none⟩) (k+1) CS,.int .i64 G]);have HBF:=zq (qab (g:=w.heap.size+1) (HBWA.out.trans ((HX5.out w7 HB7.out).mono HBWA.out.size)) (by omega) #[.int .i64 ref,.bool rev,.slice AP pn PC,.slice (some ⟨bs,os,none⟩) (k+1) CS,.int .i64 G]);have HPF:=zq (HPW.out.rowlow17 HG1.out #[.int .i64 ref,.bool rev,.slice AP pn PC,.slice (some ⟨bs,os,none⟩) (k+1) CS,.int .i64 G]);have HSF:=zq (HSW.out.rowlow17 HG1.out #[.int .i64 ref,.bool rev,.slice AP pn PC,.slice (some ⟨bs,os,none⟩) (k+1) CS,.int .i64 G]);go_wp2_with (first|(with_reducible refine ldZ 102 (HM5.out w7 HB7.out) ?_)|(with_reducible refine stZ #[.int .i64 ref,.bool rev,.slice AP pn PC,.slice (some ⟨bs,os,none⟩) (k+1) CS,.int .i64 G] HZ.out ?_));refine rtZ HR.out ?_;have hlf_:(qaZ LF).length=k+1:=by rw[HFO.out];first|exact HLL.out|(rw[List.length_drop,HLL.out];rfl)
   refine⟨⟨AP,PC,some ⟨bs,os,none⟩,CS⟩,by unfold maC;dsimp only;rw[HPN.out,hlf_];rfl,⟨?_,?_,?_,?_,fun s_ hs_=>HTOP.out s_ ?_⟩,HBF.out⟩
   ·show SlO stC 2 _ AP PF.length PC PF;rw[HPN.out];exact HPF.out.sl
   ·show SlO scC17 2 _ (some ⟨bs,os,none⟩) (qaZ LF).length CS (qaZ LF);rw[hlf_,HFO.out];exact HSF.out.sl
   ·show PF.length<=PC;rw[HPN.out];exact HCC.out.1
   ·show(qaZ LF).length<=CS;rw[hlf_];have h_:=HCC.out.2;first|omega|(have h2_:=HC2.out;omega)
   ·have h_:s_∈qaZ LF:=hs_
    rw[HFO.out]at h_
    first|exact h_|exact List.drop_subset _ _ h_
 ·obtain⟨j,hj⟩: ∃j,k=j+1:=⟨k-1,by omega⟩
  subst hj;obtain⟨y,hy⟩: ∃z,LF[j]?=some z:=⟨_,List.getElem?_eq_getElem (by rw[HLL.out];omega)⟩
  have HBD:=zq (HBD1.out j y rfl hy);obtain⟨b1_,o1_,e0_,d1,-⟩:=(HS5.out w6 HB6.out).sl.sect hy;injection e0_ with e0_
  injection e0_ with e1_ e2_ e3_
  subst e1_;obtain rfl:os=o1_:=by omega
  obtain⟨yt,hyt⟩: ∃q,y.to_=q:=⟨_,rfl⟩
  rw[hyt]at d1 HBD;clear hyt hy e2_ e3_ HBD0 HBD1;have u3:(0:Int)<=(j:Int):=by omega
  have u4:(j:Int)<((j+1+1:Nat):Int):=by omega
  by_cases z5:zt<=yt
  ·have HBAD:=zq (show badB n G raw=true from by rw[HBD.out,decide_eq_true z5,Bool.or_true])
   have z6:decide (zt<=yt)=true:=decide_eq_true z5;go_quiet (fail);obtain⟨w7,hw7⟩: ∃u,w6.drewN nq=u:=⟨_,rfl⟩
   rw[hw7];have HB7:=zq (show Below w5.heap.size w5 w7 from by rw[<-hw7];exact qac HB6.out _);clear hw7;go_upto_region 12 with fail;obtain⟨rfl,rfl⟩:M=noMa/\E=141:=by have h_:=HBE.out;rw[if_pos HBAD.out]at h_;injection h_ with h1_ h2_;exact⟨h1_.symm,h2_.symm⟩
   have HZ:=zq (H1.out w7 (HX5.out w7 HB7.out));have HR:=zq (qaa HZ.out #[.int .i64 0,.bool false,.slice none 0 0,.slice none 0 0,.int .i64 0]);have HBF:=zq (qab (g:=w.heap.size+1) (HBWA.out.trans ((HX5.out w7 HB7.out).mono HBWA.out.size)) (by omega) #[.int .i64 0,.bool false,.slice none 0 0,.slice none 0 0,.int .i64 0]);go_wp2_with (with_reducible refine stZ #[.int .i64 0,.bool false,.slice none 0 0,.slice none 0 0,.int .i64 0] HZ.out ?_);refine rtZ HR.out ?_;exact⟨⟨none,0,none,0⟩,rfl,⟨SlO.nil _ _ _,SlO.nil _ _ _,Nat.le_refl _,Nat.le_refl _,fun s hs=>by cases hs⟩,HBF.out⟩
  have HBAD:=zq (show badB n G raw=false from by rw[HBD.out,decide_eq_false z5,z4];rfl);have z6:decide (zt<=yt)=false:=decide_eq_false z5;go_quiet (fail);obtain⟨w7,hw7⟩: ∃u,w6.drewN nq=u:=⟨_,rfl⟩
  rw[hw7];have HB7:=zq (show Below w5.heap.size w5 w7 from by rw[<-hw7];exact qac HB6.out _);clear hw7;obtain⟨rfl,rfl⟩:M=⟨ref,rev,PF,qaZ LF,G⟩/\E=0:=by have h_:=HBE.out;rw[if_neg (by rw[HBAD.out];decide)]at h_;injection h_ with h1_ h2_;exact⟨h1_.symm,h2_.symm⟩
  obtain⟨y0,hy0⟩: ∃z,LF[0]?=some z:=⟨_,List.getElem?_eq_getElem (by rw[HLL.out];omega)⟩
  have HFO:=zq (qgi hy0);obtain⟨b0_,o0_,e0_,f0,-⟩:=(HS5.out w7 HB7.out).sl.sect hy0;injection e0_ with e0_
  injection e0_ with e1_ e2_ e3_
  subst e1_;obtain rfl:os=o0_:=by omega
  obtain⟨yt,hyt⟩: ∃q,y0.to_=q:=⟨_,rfl⟩
  rw[hyt]at f0 HFO;have f0':w7.cell? ⟨bs,os,none⟩=some (.int .i64 yt):=by rw[show os=os+0*2 by omega];exact f0
  clear hyt hy0 e2_ e3_ HBE;have u1:(0:Int)<((j+1+1:Nat):Int):=by omega
  go_upto_region 13 with fail;have m3:w7.cell? ⟨gm,3,none⟩=some (.slice (some ⟨bs,os,none⟩) (j+1+1) CS):=(HM5.out w7 HB7.out).cell 3;by_cases y1:yt=0
  ·have HFO:=zq (HFO.out.trans (if_pos y1))
   have y2:(yt==0)=true:=by simp[y1]
   have y3:decide (yt=0)=true:=decide_eq_true y1;have hcs:1<=j+1+1:=by omega
   have hcu: ∀W,(Instr.sliceAt 36 (.slice (some ⟨bs,os,none⟩) (j+1+1) CS) (some (.int .i64 1)) none none).run Tryz.prog W= .ok (.slice (if CS=1 then(some ⟨bs,os,none⟩:Option Addr)else(some ⟨bs,os,none⟩:Option Addr).map (·.add (1*2))) (j+1+1-1) (CS-1)) W:=fun W=>qbT (P:=Tryz.prog) 2 36 66 Tryz.underlying36 (by kernel_rfl) (some ⟨bs,os,none⟩) (j+1+1) CS 1 hcs W;have HSQ:=zq (fun W (h_:SlO scC17 2 W (some ⟨bs,os,none⟩) (j+1+1) CS LF)=>h_.from17 (fun _=>rfl) HCC.out.2 hcs);obtain⟨A2,hA2⟩:=geZ ((if CS=1 then(some ⟨bs,os,none⟩:Option Addr)else(some ⟨bs,os,none⟩:Option Addr).map (·.add (1*2))));obtain⟨c2,hc2⟩: ∃m,CS-1=m:=⟨_,rfl⟩
   rw[hA2,hc2]at hcu HSQ;have HC2:=zq hc2;clear hA2 hc2 y1 hcs;have HM7:=zq (qaa (HM5.out w7 HB7.out) #[.int .i64 ref,.bool rev,.slice AP pn PC,.slice A2 (j+1) c2,.int .i64 G]);have HPW:=zq ((HP5.out w7 HB7.out).kept (qal w7 gm #[.int .i64 ref,.bool rev,.slice AP pn PC,.slice A2 (j+1) c2,.int .i64 G]) (.inr ((HP5.out w7 HB7.out).apart (HM5.out w7 HB7.out) (by decide))));have HSW:=zq ((HS5.out w7 HB7.out).kept (qal w7 gm #[.int .i64 ref,.bool rev,.slice AP pn PC,.slice A2 (j+1) c2,.int .i64 G]) (.inr ((HS5.out w7 HB7.out).apart (HM5.out w7 HB7.out) (by decide))));have HBW:=zq (qab (g:=gm) (HX5.out w7 HB7.out) hgm2 #[.int .i64 ref,.bool rev,.slice AP pn PC,.slice A2 (j+1) c2,.int .i64 G]);obtain⟨w8,hw8⟩: ∃u,w7.setRow gm #[.int .i64 ref,.bool rev,.slice AP pn PC,.slice A2 (j+1) c2,.int .i64 G]=u:=⟨_,rfl⟩
   rw[hw8]at HM7 HPW HSW HBW;have HW8:=zq hw8;clear hw8;go_upto_region 14 with fail;go_upto_region 15 with(with_reducible refine qap (o:=⟨none,_,_,_,_,_⟩) rfl 36 _ _ rfl (gm) 3 ((.slice A2 (j+1) c2)) rfl rfl 38 #[.int .i64 ref,.bool rev,.slice AP pn PC,.slice (some ⟨bs,os,none⟩) (j+1+1) CS,.int .i64 G] (HM5.out w7 HB7.out) (Nat.le_of_ble_eq_true rfl) (by kernel_rfl) rfl #[.int .i64 ref,.bool rev,.slice AP pn PC,.slice A2 (j+1) c2,.int .i64 G] rfl ?_)
   rw[HW8.out];clear HW8;have HZ:=zq (H1.out _ HBW.out);have HR:=zq (qaa HZ.out #[.int .i64 ref,.bool rev,.slice AP pn PC,.slice A2 (j+1) c2,.int .i64 G]);have HBF:=zq (qab (g:=w.heap.size+1) (HBWA.out.trans (HBW.out.mono HBWA.out.size)) (by omega) #[.int .i64 ref,.bool rev,.slice AP pn PC,.slice A2 (j+1) c2,.int .i64 G]);have HPF:=zq (HPW.out.rowlow17 HG1.out #[.int .i64 ref,.bool rev,.slice AP pn PC,.slice A2 (j+1) c2,.int .i64 G]);have HSF:=zq (HSW.out.rowlow17 HG1.out #[.int .i64 ref,.bool rev,.slice AP pn PC,.slice A2 (j+1) c2,.int .i64 G]);go_wp2_with (first|(with_reducible refine ldZ 102 HM7.out ?_)|(with_reducible refine stZ #[.int .i64 ref,.bool rev,.slice AP pn PC,.slice A2 (j+1) c2,.int .i64 G] HZ.out ?_));refine rtZ HR.out ?_;have hlf_:(qaZ LF).length=(j+1):=by rw[HFO.out];first|exact HLL.out|(rw[List.length_drop,HLL.out];rfl)
   refine⟨⟨AP,PC,A2,c2⟩,by unfold maC;dsimp only;rw[HPN.out,hlf_];rfl,⟨?_,?_,?_,?_,fun s_ hs_=>HTOP.out s_ ?_⟩,HBF.out⟩
   ·show SlO stC 2 _ AP PF.length PC PF;rw[HPN.out];exact HPF.out.sl
   ·show SlO scC17 2 _ (A2) (qaZ LF).length c2 (qaZ LF);rw[hlf_,HFO.out];exact HSQ.out _ HSF.out.sl
   ·show PF.length<=PC;rw[HPN.out];exact HCC.out.1
   ·show(qaZ LF).length<=c2;rw[hlf_];have h_:=HCC.out.2;first|omega|(have h2_:=HC2.out;omega)
   ·have h_:s_∈qaZ LF:=hs_
    rw[HFO.out]at h_
    first|exact h_|exact List.drop_subset _ _ h_
  ·have HFO:=zq (HFO.out.trans (if_neg y1))
   have y2:(yt==0)=false:=by simp[y1]
   have y3:decide (yt=0)=false:=decide_eq_false y1;clear y1;have HPW:=HP5.out w7 HB7.out;have HPW:=zq HPW;have HSW:=HS5.out w7 HB7.out;have HSW:=zq HSW;have HZ:=zq (H1.out _ (HX5.out w7 HB7.out));go_upto_region 15 with fail;have HR:=zq (qaa HZ.out #[.int .i64 ref,.bool rev,.slice AP pn PC,.slice (some ⟨bs,os,none⟩) (j+1+1) CS,.int .i64 G]);have HBF:=zq (qab (g:=w.heap.size+1) (HBWA.out.trans ((HX5.out w7 HB7.out).mono HBWA.out.size)) (by omega) #[.int .i64 ref,.bool rev,.slice AP pn PC,.slice (some ⟨bs,os,none⟩) (j+1+1) CS,.int .i64 G]);have HPF:=zq (HPW.out.rowlow17 HG1.out #[.int .i64 ref,.bool rev,.slice AP pn PC,.slice (some ⟨bs,os,none⟩) (j+1+1) CS,.int .i64 G]);have HSF:=zq (HSW.out.rowlow17 HG1.out #[.int .i64 ref,.bool rev,.slice AP pn PC,.slice (some ⟨bs,os,none⟩) (j+1+1) CS,.int .i64 G]);go_wp2_with (first|(with_reducible refine ldZ 102 (HM5.out w7 HB7.out) ?_)|(with_reducible refine stZ #[.int .i64 ref,.bool rev,.slice AP pn PC,.slice (some ⟨bs,os,none⟩) (j+1+1) CS,.int .i64 G] HZ.out ?_));refine rtZ HR.out ?_;have hlf_:(qaZ LF).length=j+1+1:=by rw[HFO.out];first|exact HLL.out|(rw[List.length_drop,HLL.out];rfl)
   refine⟨⟨AP,PC,some ⟨bs,os,none⟩,CS⟩,by unfold maC;dsimp only;rw[HPN.out,hlf_];rfl,⟨?_,?_,?_,?_,fun s_ hs_=>HTOP.out s_ ?_⟩,HBF.out⟩
   ·show SlO stC 2 _ AP PF.length PC PF;rw[HPN.out];exact HPF.out.sl
   ·show SlO scC17 2 _ (some ⟨bs,os,none⟩) (qaZ LF).length CS (qaZ LF);rw[hlf_,HFO.out];exact HSF.out.sl
   ·show PF.length<=PC;rw[HPN.out];exact HCC.out.1
   ·show(qaZ LF).length<=CS;rw[hlf_];have h_:=HCC.out.2;first|omega|(have h2_:=HC2.out;omega)
   ·have h_:s_∈qaZ LF:=hs_
    rw[HFO.out]at h_
    first|exact h_|exact List.drop_subset _ _ h_
end
section
open Go.RowKit
open Go.Great
def gapT (x:Int):List Int:=if x=0 then[0]else[1,x,0]
theorem gapV_of17 (x:Int):gapV x=[0]++gapT x++[0]:=by
 unfold gapV gapT;split<;>rfl
def secsT (m:Ma3)(u:Int):List Int×Int:=match secsV u 0 m.sects with
 |none=>([],7)
 |some w=>([0,0,(m.sects.length:Int)-1]++w++gapV (scT m.gap u),0)
theorem scT_rng (n u:Int):0<=scT n u/\scT n u<=32766:=by
 unfold scT qaY;have hu:=qcL u;split
 ·exact⟨Int.le_refl _,by decide⟩
 ·split
  ·exact⟨Int.le_refl _,by decide⟩
  ·split
   ·exact⟨Int.le_refl _,by decide⟩
   ·rename_i h0 h1 h2
    refine⟨?_,by omega⟩;unfold wholeOf;rw[if_neg (by simp)];have h3:0<=n:=by omega
    have h4:0<=qaU u:=by omega
    have:=Int.ediv_nonneg h3 h4;omega
theorem secsV_at17 {u b:Int}{l:List Sc3}{i:Nat}{x:Sc3}(h:l[i]?=some x):secsV u b (l.drop i)=if scT x.to_ u-b<=0 then none else(secsV u (scT x.to_ u) (l.drop (i+1))).map fun w=>(scT x.to_ u-b)::1::x.timer::0::w:=by
 rw[qbk h,secsV]
theorem opt_app17 (o:Option (List Int))(a b:List Int):(o.map (b++ ·)).map (a++ ·)=o.map ((a++b)++ ·):=by
 cases o with
 |none=>rfl
 |some x=>simp
theorem optellgap_any (g u:Int)(w:World):Calls Tryz.prog 159 #[.int .i64 g,.int .i64 u] w fun r w'=> ∃A n c,r= .returned (.slice A n c)/\SlO inC 1 w' A n c (gapT (scT g u))/\n<=3/\Below w.heap.size w w':=by
 obtain⟨X,hX⟩:=geZ (scT g u);obtain⟨E,hE⟩:=geZ ((qaY g u false).2);have HC:=zq (qdx g u false w);unfold pair at HC;rw[show(qaY g u false).1=X from hX,hE]at HC;rw[hX];clear hX hE;go_enter Tryz.func159,Tryz.ntmps159;go_wp2_with fail;refine HC.out.mono ?_;rintro e_ w1 ⟨rfl,rfl⟩;by_cases z:X=0
 ·have z1:(X==0)=true:=by simp[z]
  have HG:=zq (show gapT X=[0]from if_pos z);have HS:=zq (⟨rfl,qa7 (Has.made w 3 #[.int .i64 0]) rfl⟩:SlO inC 1 (w.alloc (.cells #[.int .i64 0] 3)) (some ⟨w.heap.size,0,none⟩) 1 1 [0]);clear z;go_wp2;go_ret
  exact⟨_,_,_,rfl,by rw[HG.out];exact HS.out,by omega,bA⟩
 ·have z1:(X==0)=false:=by simp[z]
  have HG:=zq (show gapT X=[1,X,0]from if_neg z);have HS:=zq (⟨rfl,qa7 (Has.made w 3 #[.int .i64 1,.int .i64 X,.int .i64 0]) rfl⟩:SlO inC 1 (w.alloc (.cells #[.int .i64 1,.int .i64 X,.int .i64 0] 3)) (some ⟨w.heap.size,0,none⟩) 3 3 [1,X,0]);clear z;go_wp2;go_ret
  exact⟨_,_,_,rfl,by rw[HG.out];exact HS.out,by omega,bA⟩
theorem qf0 (m:Ma3)(b:MaA)(u:Int)(w:World)(hm:MaR w m b)(hk:m.sects.length<=100):
  Calls Tryz.prog 81 #[.agg (maC m b),.int .i64 u] w fun r w'=> ∃A n c,r= .returned (.tuple #[.slice A n c,.int .i64 (secsT m u).2])/\SlO inC 1 w' A n c (secsT m u).1/\n<=500/\Below w.heap.size w w':=by
 obtain⟨mr,mv,mp,ms,mg⟩:=m;obtain⟨ap,cp,aq,cs⟩:=b;have hs:=hm.sects;clear hm;unfold maC;dsimp only at*;obtain⟨pn,hpn⟩: ∃m,mp.length=m:=⟨_,rfl⟩
 obtain⟨sn,hsn⟩: ∃m,ms.length=m:=⟨_,rfl⟩
 rw[hpn];rw[hsn]at hs hk⊢;obtain⟨R,hR⟩:=geZ (secsT ⟨mr,mv,mp,ms,mg⟩ u);rw[hR];have HR:=zq hR;unfold secsT at HR;dsimp only at HR;rw[hsn]at HR;have HSN:=zq hsn;clear hpn hR hsn;obtain⟨wa,hwa,hbwa,HWA,HBWA,h0⟩:=bx1Z w 38 #[.int .i64 mr,.bool mv,.slice ap pn cp,.slice aq sn cs,.int .i64 mg];have HM:=zH h0;have HS:=zq (fun W (hW:Below wa.heap.size wa W)=>(hs.under hbwa).under hW);have HK:=zq hk;have m3:wa.cell? ⟨w.heap.size,3,none⟩=some (.slice aq sn cs):=h0.cell 3;have hsb:(sn:Int)<=100:=by omega
 obtain⟨K,hK⟩: ∃K:Int,(sn:Int)-1=K:=⟨_,rfl⟩
 have hw1:IntKind.i64.wrap ((sn:Int)-1)=K:=by rw[IntKind.wrap_i64];omega
 rw[hK]at HR;obtain⟨wb,hwb⟩: ∃u,wa.alloc (.cells #[.int .i64 0,.int .i64 0,.int .i64 K] 3)=u:=⟨_,rfl⟩
 have hbb:Below wa.heap.size wa wb:=by rw[<-hwb];exact bA
 have HO0:=zq (show OwR inC 1 3 wa.heap.size wb (some ⟨wa.heap.size,0,none⟩) 3 3 [0,0,K]from by rw[<-hwb];exact⟨World.ownsRow_lit (base:=wa.heap.size) (e:=3) (size:=1) wa #[.int .i64 0,.int .i64 0,.int .i64 K] 3 (Nat.le_refl _) (by unfold maxLen;omega) rfl,rfl⟩);have HB0:=zq hbb;have HWB:=zq hwb;clear hwa hbwa h0 hs hk hwb hbb hK hsb;go_enter Tryz.func81,Tryz.ntmps81;go_upto_region 1 with fail;rw[HWA.out];clear HWA;go_upto_region 2 with fail;rw[HWB.out];clear HWB hw1;have m3:wb.cell? ⟨w.heap.size,3,none⟩=some (.slice aq sn cs):=(HM.out wb HB0.out).cell 3;have hsb:sn<=100:=HK.out;go_wp2;go_loopg [6,7,20] sn (fun kk v6 v7 v20 wl=> ∃(i:Nat) (A:Option Addr) (n c:Nat) (told:Int) (acc:List Int),i<=sn/\sn-i<=kk/\v20= .int .i64 i/\v6= .slice A n c/\v7= .int .i64 told/\Hid (OwR inC 1 3 wa.heap.size wl A n c ([0,0,K]++acc))/\Hid (n<=3+4*i)/\Hid (0<=told/\told<=32766)/\Hid (secsV u 0 ms=(secsV u told (ms.drop i)).map (acc++ ·))/\Hid (Below wa.heap.size wa wl))
 case atStart=>exact⟨0,_,_,_,0,[],by omega,by omega,rfl,rfl,rfl,HO0,zq (by omega),zq (by omega),zq (by rw[List.drop_zero];cases secsV u 0 ms<;>rfl),HB0⟩
 clear m3 HO0 HB0;obtain⟨i,A,n,c,told,acc,hi,hik,rfl,rfl,rfl,HO,HN,HT,HSV,HB⟩:=hrel;obtain⟨k1,hk1⟩: ∃k1,k1=gk:=⟨_,rfl⟩
 subst hk1;obtain⟨wv,hwv⟩: ∃wv,wv=wr:=⟨_,rfl⟩
 subst hwv;by_cases hlt:i<sn;rotate_left
 ·obtain rfl:i=sn:=by omega
  obtain⟨g,hg⟩:=geZ (scT mg u);have HF:=zq (show R=([0,0,K]++acc++[0]++gapT g++[0],0)from by rw[<-HR.out,HSV.out,List.drop_of_length_le (by rw[HSN.out];exact Nat.le_refl _)];show([0,0,K]++(acc++[])++gapV (scT mg u),(0:Int))=_;rw[hg,gapV_of17,List.append_nil];simp only[List.append_assoc]);have HTG:=zq (fun W=>optellgap_any mg u W);rw[hg]at HTG;have hnb:=HN.out;have hkb:=HK.out;have y1: ¬(i:Int)<i:=by omega
  clear hg HSV HT HR;obtain⟨hO,hSL,h1,hBD⟩:=pourR 8 (HO.out.under ((Below.refl _ _).alloc (Nat.le_refl _) (.cells #[.int .i64 0] 3))) (⟨rfl,qa7 (Has.made _ _ _) rfl⟩:SlO inC 1 (wv.alloc (.cells #[.int .i64 0] 3)) (some ⟨wv.heap.size,0,none⟩) 1 1 [0]) qbq (Nat.le_trans HB.out.size (by simp)) (by omega) (by omega);go_wp2_with (with_reducible refine qaG (o:=⟨some 46,_,_,_,_,_⟩) rfl (.tmp 44) (.tmp 45) 22 rfl wa.heap.size 3 (.int .i64 0) 1 8 Tryz.underlying22 qa0 ?hz1 (by decide) A n c _ ?hs1 hO (some ⟨wv.heap.size,0,none⟩) 1 1 _ ?hx1 hSL h1 hBD ?next1)
  all_goals try rfl
  intro A1 c1 w1 ho1 hg1;have HO1:=zq (show OwR inC 1 3 wa.heap.size w1 A1 (n+1) c1 ([0,0,K]++acc++[0])from OwR.poured (l':=[0]) HO.out.2 rfl ho1.out);have HB1:=zq (qai (HB.out.trans ((bA).mono HB.out.size)) (Nat.le_trans HB.out.size (by simp)) hO.out (Nat.le_refl _) rfl hg1.out);have m4:w1.cell? ⟨w.heap.size,4,none⟩=some (.int .i64 mg):=(HM.out w1 HB1.out).cell 4;obtain⟨L1,hL1⟩:=geZ ([0,0,K]++acc++[0]);rw[hL1]at HO1 HF;clear ho1 hg1 hO hSL h1 hBD HO HB hL1;go_wp2_with fail;refine(HTG.out w1).mono ?_;rintro e_ w2 ⟨B,m,d,rfl,hsl2,hm2,hb2⟩;have HO2:=zq (HO1.out.under hb2);have HB2:=tB HB1 hb2;have HSL2:=zq hsl2;have HM2:=zq hm2;clear m4 hb2 hsl2 HO1 HB1 HTG;obtain⟨hO,hSL,h1,hBD⟩:=pourR 8 HO2.out HSL2.out qbq HB2.out.size (by omega) (by omega);go_wp2_with (with_reducible refine qaG (o:=⟨some 52,_,_,_,_,_⟩) rfl (.tmp 47) (.tmp 51) 22 rfl wa.heap.size 3 (.int .i64 0) 1 8 Tryz.underlying22 qa0 ?hz2 (by decide) A1 (n+1) c1 _ ?hs2 hO B m d _ ?hx2 hSL h1 hBD ?next2)
  all_goals try rfl
  intro A3 c3 w3 ho3 hg3;have HO3:=zq (show OwR inC 1 3 wa.heap.size w3 A3 (n+1+m) c3 (L1++gapT g)from OwR.poured (l:=L1) (l':=gapT g) HO2.out.2 HSL2.out.1 ho3.out);have HB3:=zq (qai HB2.out HB2.out.size hO.out (Nat.le_refl _) rfl hg3.out);obtain⟨L3,hL3⟩:=geZ (L1++gapT g);rw[hL3]at HO3 HF;clear ho3 hg3 hO hSL h1 hBD HO2 HB2 HSL2 hL3;obtain⟨hO,hSL,h1,hBD⟩:=pourR 8 (HO3.out.under ((Below.refl _ _).alloc (Nat.le_refl _) (.cells #[.int .i64 0] 3))) (⟨rfl,qa7 (Has.made _ _ _) rfl⟩:SlO inC 1 (w3.alloc (.cells #[.int .i64 0] 3)) (some ⟨w3.heap.size,0,none⟩) 1 1 [0]) qbq (Nat.le_trans HB3.out.size (by simp)) (by omega) (by omega);go_wp2_with (with_reducible refine qaG (o:=⟨some 55,_,_,_,_,_⟩) rfl (.tmp 53) (.tmp 54) 22 rfl wa.heap.size 3 (.int .i64 0) 1 8 Tryz.underlying22 qa0 ?hz3 (by decide) A3 (n+1+m) c3 _ ?hs3 hO (some ⟨w3.heap.size,0,none⟩) 1 1 _ ?hx3 hSL h1 hBD ?next3)
  all_goals try rfl
  intro A4 c4 w4 ho4 hg4;have HO4:=zq (show OwR inC 1 3 wa.heap.size w4 A4 (n+1+m+1) c4 (L3++[0])from OwR.poured (l:=L3) (l':=[0]) HO3.out.2 rfl ho4.out);have HB4:=zq (qai (HB3.out.trans ((bA).mono HB3.out.size)) (Nat.le_trans HB3.out.size (by simp)) hO.out (Nat.le_refl _) rfl hg4.out);have HNM:=zq (show n+1+m+1<=500 from by have:=HM2.out;omega);clear ho4 hg4 hO hSL h1 hBD HO3 HB3;go_wp2;go_ret2
  exact⟨A4,_,c4,by rw[HF.out];rfl,by rw[HF.out];exact HO4.out.sl,HNM.out,HBWA.out.trans (HB4.out.mono HBWA.out.size)⟩
 ·obtain⟨x,hx⟩:=glZ ms (i) (by rw[HSN.out];exact hlt)
  obtain⟨bk,off,rfl,d0,d1⟩:=(HS.out wv HB.out).sect hx;have HXV:=zq (secsV_at17 (u:=u) (b:=told) hx);obtain⟨xt,xm⟩:=x;dsimp only at d0 d1 HXV;obtain⟨X,hX⟩:=geZ (scT xt u);rw[hX]at HXV;have HXR:=zq (show 0<=X/\X<=32766 from by rw[<-hX];exact scT_rng _ _);obtain⟨E,hE⟩:=geZ ((qaY xt u false).2);have HSC:=zq (fun W=>qdx xt u false W);unfold pair at HSC;rw[show(qaY xt u false).1=X from hX,hE]at HSC;have x1:(i:Int)<sn:=by omega
  have x2:(0:Int)<=i:=by omega
  have HIN:=zq (show i<sn/\sn-i<=k1 from⟨hlt,hik⟩);clear hx hX hE hi hik;obtain⟨wc,hwc⟩: ∃u,wv.alloc (.cells #[.int .i64 xt,.int .i64 xm] 66)=u:=⟨_,rfl⟩
  have hbc:Below wv.heap.size wv wc:=by rw[<-hwc];exact bA
  have hHc:Has wc wv.heap.size 66 #[.int .i64 xt,.int .i64 xm]:=by rw[<-hwc];exact Has.made _ _ _
  have HWC:=zq hwc;obtain⟨gs,hgs⟩: ∃g,wv.heap.size=g:=⟨_,rfl⟩
  have HGS:=zq hgs;rw[hgs]at hHc;have HOC:=zq (HO.out.under hbc);have HBC:=tB HB hbc;have HHC:=zq hHc;clear hwc hbc hgs hlt;go_upto_region 6 with fail;rw[HWC.out];simp only[HGS.out];clear HWC HGS d0 d1 HO HB;have c0:wc.cell? ⟨gs,0,none⟩=some (.int .i64 xt):=hHc.cell 0;have c1:wc.cell? ⟨gs,1,none⟩=some (.int .i64 xm):=hHc.cell 1;clear hHc;go_wp2_with fail;refine(HSC.out wc).mono ?_;rintro e_ wc2 ⟨rfl,rfl⟩;by_cases z:X<=told
  ·have HF:=zq (show R=([],7)from by rw[<-HR.out,HSV.out,HXV.out,if_pos (by omega)];rfl)
   have z1:decide (X<=told)=true:=decide_eq_true z;clear z c0 c1;go_wp2;go_ret2
   exact⟨none,0,0,by rw[HF.out];rfl,by rw[HF.out];exact SlO.nil _ _ _,by omega,HBWA.out.trans (HBC.out.mono HBWA.out.size)⟩
  ·have z1:decide (X<=told)=false:=decide_eq_false z
   obtain⟨D,hD⟩:=geZ (X-told);have hw1:IntKind.i64.wrap (X-told)=D:=by rw[IntKind.wrap_i64];have h1_:=HXR.out;have h2_:=HT.out;omega
   rw[hD]at HXV;have HSV2:=zq (show secsV u 0 ms=(secsV u X (ms.drop (i+1))).map ((acc++[D,1,xm,0])++ ·)from by rw[HSV.out,HXV.out,if_neg (by omega),<-opt_app17];rfl);have hnb:=HN.out;have hib:=HIN.out;have hkb:=HK.out;clear hD z;obtain⟨hO,hSL,h1,hBD⟩:=pourR 8 (HOC.out.under ((Below.refl _ _).alloc (Nat.le_refl _) (.cells #[.int .i64 D,.int .i64 1,.int .i64 xm,.int .i64 0] 3))) (⟨rfl,qa7 (Has.made _ _ _) rfl⟩:SlO inC 1 (wc.alloc (.cells #[.int .i64 D,.int .i64 1,.int .i64 xm,.int .i64 0] 3)) (some ⟨wc.heap.size,0,none⟩) 4 4 [D,1,xm,0]) qbq (Nat.le_trans HBC.out.size (by simp)) (by omega) (by omega);go_wp2_with (with_reducible refine qaG (o:=⟨some 41,_,_,_,_,_⟩) rfl (.tmp 34) (.tmp 40) 22 rfl wa.heap.size 3 (.int .i64 0) 1 8 Tryz.underlying22 qa0 ?hz4 (by decide) A n c _ ?hs4 hO (some ⟨wc.heap.size,0,none⟩) 4 4 _ ?hx4 hSL h1 hBD ?next4)
   all_goals try rfl
   intro A1 c1_ w1 ho1 hg1;have HO1:=zq (show OwR inC 1 3 wa.heap.size w1 A1 (n+4) c1_ ([0,0,K]++(acc++[D,1,xm,0]))from by rw[<-List.append_assoc];exact OwR.poured (l':=[D,1,xm,0]) HOC.out.2 rfl ho1.out);have HB1:=zq (qai (HBC.out.trans ((bA).mono HBC.out.size)) (Nat.le_trans HBC.out.size (by simp)) hO.out (Nat.le_refl _) rfl hg1.out);clear ho1 hg1 hO hSL h1 hBD HOC HBC c0 c1 z1 hw1 HSV HXV hnb hib hkb;go_wp2;go_roundg (k1-1)
   case measure=>have:=HIN.out;omega
   case rel=>exact⟨i+1,A1,n+4,c1_,X,acc++[D,1,xm,0],by have:=HIN.out;omega,by have:=HIN.out;omega,by first|go_num|(rw[IntWalk.wrap64_in _ (by have h1_:=HIN.out;have h2_:=HK.out;omega)];go_num),rfl,rfl,HO1,zq (by have:=HN.out;omega),HXR,HSV2,HB1⟩
end
section
open Go.RowKit
open Go.Great
def lkJ (acc:List Int)(p:List Int×Int):List Int×Int:=if p.2≠0 then([],p.2)else(acc++p.1,0)
theorem links_nil17 (t:Tp3)(m:Ma3)(u last:Int)(fst:Bool)(r:List St3)(h:(qa8 t m u last fst r).2≠0):(qa8 t m u last fst r).1=[]:=by
 cases r with
 |nil=>exact absurd rfl h
 |cons s r=>
  rw[qa8]at h⊢
  cases hg:qgj t s.edge with
  |none=>rfl
  |some b=>
   rw[hg]at h;dsimp only at h⊢;split
   ·rfl
   ·split
    ·rfl
    ·rename_i h1 h2
     rw[if_neg h1,if_neg h2]at h;exact absurd rfl h
theorem lkJ_nil17 (t:Tp3)(m:Ma3)(u last:Int)(fst:Bool)(r:List St3):lkJ [] (qa8 t m u last fst r)=qa8 t m u last fst r:=by
 unfold lkJ;split
 ·rename_i h
  exact Prod.ext (links_nil17 _ _ _ _ _ _ h).symm rfl
 ·rename_i h
  exact Prod.ext (by simp) (by simpa using(Classical.not_not.1 h).symm)
theorem links_none17 {t:Tp3}{m:Ma3}{u last:Int}{fst:Bool}{l:List St3}{i:Nat}{s:St3}(acc:List Int)(h:l[i]?=some s)(hg:qgj t s.edge=none):lkJ acc (qa8 t m u last fst (l.drop i))=([],1):=by
 rw[qbk h,qa8,hg]
 rfl
theorem links_bad17 {t:Tp3}{m:Ma3}{u last N X E:Int}{fst:Bool}{l:List St3}{i:Nat}{s:St3}{b:Bl3}(acc:List Int)(h:l[i]?=some s)(hg:qgj t s.edge=some b)(hN:(onE t m.path ⟨b.edge,b.at_,s.rev⟩).1=N)(hS:qaY (N-last) u false=(X,E))(hE:E≠0):lkJ acc (qa8 t m u last fst (l.drop i))=([],E):=by
 rw[qbk h,qa8,hg];dsimp only;rw[hN,hS,if_pos hE];unfold lkJ;rw[if_pos hE]
theorem links_go17 {t:Tp3}{m:Ma3}{u last N X:Int}{fst:Bool}{l:List St3}{i:Nat}{s:St3}{b:Bl3}(acc:List Int)(h:l[i]?=some s)(hg:qgj t s.edge=some b)(hN:(onE t m.path ⟨b.edge,b.at_,s.rev⟩).1=N)(hS:qaY (N-last) u false=(X,0)):
  lkJ acc (qa8 t m u last fst (l.drop i))=lkJ (acc++[X,1,b.id/16384,b.id %16384,dirB s.rev,2,12]++(if fst=true then[(m.path.length:Int)-2]else[])) (qa8 t m u N false (l.drop (i+1))):=by
 rw[qbk h,qa8,hg];dsimp only;unfold scT;rw[hN,hS,if_neg (by simp)];generalize qa8 t m u N false (l.drop (i+1))=q;obtain⟨q1,q2⟩:=q;unfold lkJ;dsimp only;by_cases hq:q2≠0
 ·rw[if_pos hq,if_pos hq,if_pos hq]
 ·rw[if_neg hq,if_neg hq]
  simp
theorem onGo_bnd17 {t:Tp3}{p:Ps3}(ht:qav t=true)(hp:onB t p=true){path:List St3}(hed: ∀s∈path,edgeB t s.edge=true){c n:Int}(h:onGo t p path c=some n):c<=n/\n<=c+sumT t path:=by
 induction path generalizing c with
 |nil=>cases h
 |cons s r ih=>
  have h1:=qaT ht (hed s (List.mem_cons_self ..));have h2:=qck ht (fun x hx=>hed x (List.mem_cons_of_mem s hx));rw[onGo]at h;show c<=n/\n<=c+(lenAt t s+sumT t r)
  split at h
  ·rename_i h3
   injection h with h
   rw[qaX]at h3;subst h3;have h4:=qb3 ht hp;unfold intoP at h4;omega
  ·have h4:=ih (fun x hx=>hed x (List.mem_cons_of_mem s hx)) h
   omega
theorem on_bnd17 (t:Tp3)(path:List St3)(p:Ps3):0<=(onE t path p).1/\(onE t path p).1<=41000000:=by
 unfold onE;split
 ·rename_i h1
  obtain⟨h2,h3⟩:=qaO.1 h1;have ht:=(qaD h2).1;split
  ·rename_i h4
   have h5:=qdV h4;have h6:=qck ht h5.2.2.1
   cases hq:onGo t p path 0 with
   |none=>
    show(0:Int)<=0/\(0:Int)<=41000000
    omega
   |some n=>
    have h7:=onGo_bnd17 ht h3 h5.2.2.1 hq;show 0<=n/\n<=41000000
    omega
  ·show(0:Int)<=0/\(0:Int)<=41000000
   omega
 ·show(0:Int)<=0/\(0:Int)<=41000000
  omega
theorem qgn {t:Tp3}{m:Ma3}(h:mayM t m=true):1<=m.path.length/\m.path.length<=24/\1<=m.sects.length/\m.sects.length<=8:=by
 have h1:=qdW.1 h;have h2:=qdV h1.len;have h3:=List.length_pos_iff.2 h2.1;exact⟨h3,h1.few,h1.one,h1.eight⟩
theorem optl1_any (b:Bl3)(d:Int)(g:Nat)(w:World)(hc:w.cell? ⟨g,0,none⟩=some (.int .i64 d)):
  Calls Tryz.prog 161 #[.agg (blA b),.pointer (some ⟨g,0,none⟩)] w fun e w'=>e= .returned (.bool (b.edge==d))/\Below w.heap.size w w':=by
 obtain⟨wa,hwa,hbwa,HWA,HBWA,h0⟩:=bx1Z w 151 (blA b);have c0:wa.cell? ⟨w.heap.size,1,none⟩=some (.int .i64 b.edge):=h0.cell 1;have e0:wa.cell? ⟨g,0,none⟩=some (.int .i64 d):=(hbwa.cell (qah hc)).trans hc;clear hwa hbwa h0 hc;obtain⟨q,hq⟩:=geZ ((b.edge==d));rw[hq];unfold blA at*;go_enter Tryz.func161,Tryz.ntmps161;go_upto_region 1 with fail;rw[HWA.out];clear HWA;go_wp2;go_ret
 exact⟨by first|rfl|(rw[hq];done)|simp_all,HBWA.out⟩
theorem oix_tl17 (p:Bl3->Bool)(l:List Bl3)(A:Option Addr)(n c:Nat)(g:Nat)(w:World)(hs:SlO blC 3 w A n c l)(hbig:n<=1048576)
  (HE:Hid (∀(x:Bl3) W,Below w.heap.size w W->Calls Tryz.prog 161 #[.agg (blA x),.pointer (some ⟨g,0,none⟩)] W fun e w'=>e= .returned (.bool (p x))/\Below W.heap.size W w')):
  Calls Tryz.prog 160 #[.slice A n c,.func (.func 161) #[] #[.pointer (some ⟨g,0,none⟩)]] w fun e w'=>e= .returned (.int .i64 (idxL p l))/\Below w.heap.size w w':=by
 try unfold blA at HE
 try unfold stA13 at HE
 have HN:Hid (l.length=n):=zq hs.len13;have HW:=zq hs;clear hs;have x0:(0:Int)<=n:=by omega
 obtain⟨R,hR⟩:=geZ (idxL p l);have HR:=zq hR;rw[hR];clear hR;go_enter Tryz.func160,Tryz.ntmps160;go_wp2;go_loopg [8] n (fun kk v wl=> ∃j:Nat,j<=n/\n-j<=kk/\v= .int .i64 j/\Hid (∀i x,i<j->l[i]?=some x->p x=false)/\Hid (Below w.heap.size w wl))
 case atStart=>exact⟨0,by omega,by omega,rfl,zq fun i x h=>absurd h (by omega),zq (Below.refl _ _)⟩
 obtain⟨j,hj,hjk,rfl,HNO,HBL⟩:=hrel;by_cases hlt:j<n
 ·obtain⟨x,hx⟩:=glZ l (j) (by rw[HN.out];omega)
  obtain⟨bk,off,rfl,d0,d1,d2⟩:=(HW.out.under HBL.out).bal hx;have HX:=zq hx;have y0:(0:Int)<=j:=by omega
  have y1:(j:Int)<n:=by omega
  have HC:=zq (HE.out x wr HBL.out);clear hx;generalize hb:p x=b at*;have HBE:=zq hb;clear hb
  cases b with
  |true=>
   have HF:Hid (R=j):=zq (by rw[<-HR.out];exact qbE HX.out HBE.out HNO.out);go_upto_region 4 with fail;go_wp2_with fail;refine HC.out.mono ?_;rintro e w1 ⟨rfl,hb1⟩;have HB1:=tB HBL hb1;clear hb1 d0 d1 d2 HBE HNO;go_wp2;go_ret
   exact⟨by rw[HF.out];rfl,HB1.out⟩
  |false=>
   go_upto_region 4 with fail;go_wp2_with fail;refine HC.out.mono ?_;rintro e w1 ⟨rfl,hb1⟩;have HB1:=tB HBL hb1;have HN2:Hid (∀i y,i<j+1->l[i]?=some y->p y=false):=zq fun i y hi hy=>by
    by_cases h:i=j
    ·subst h;rw[HX.out]at hy;cases hy;exact HBE.out
    ·exact HNO.out i y (by omega) hy
   clear hb1 d0 d1 d2 HBE HNO;go_wp2;go_roundg (gk-1)
   case measure=>omega
   case rel=>exact⟨j+1,by omega,by omega,by go_num,HN2,HB1⟩
 ·have y1: ¬(j:Int)<n:=by omega
  have HF:Hid (R= -1):=zq (by rw[<-HR.out];exact qbc fun i y hi hy=>HNO.out i y (by have:=HN.out;omega) hy);go_wp2;go_ret
  exact⟨by rw[HF.out];rfl,HBL.out⟩
theorem qfZ (t:Tp3)(a:TpA)(m:Ma3)(b:MaA)(u:Int)(w:World)(ht:TopR w t a)(hl:qaH t=true)(hcj:t.joints.length<=a.cj)(hm:MaR w m b)(hmay:mayM t m=true):
  Calls Tryz.prog 83 #[.agg (tpC t a),.agg (maC m b),.int .i64 u] w fun r w'=> ∃A n c,r= .returned (.tuple #[.slice A n c,.int .i64 (qa8 t m u (qbG t m) true (m.path.drop 1)).2])/\SlO inC 1 w' A n c (qa8 t m u (qbG t m) true (m.path.drop 1)).1/\n<=200/\Below w.heap.size w w':=by
 obtain⟨x,hloc,hrx,hbh,hck⟩:=may_loc17 hmay;have hpl:=qgn hmay;rw[hbh];have HL0:=zq (fun W (hW:Below w.heap.size w W)=>qci t a m.ref m.rev 0 W (ht.under hW) hl hcj);rw[hloc]at HL0;have HEO:=zq (fun W (hW:Below w.heap.size w W)=>qdc t a x W (ht.under hW) hl hcj);rw[qc9 hrx]at HEO;have HON:=zq (fun W (hW:Below w.heap.size w W) p (hp:SlO stC 2 W b.ap m.path.length b.cp m.path)=>opl_on t a m.path b.ap m.path.length b.cp p W (ht.under hW) hl hcj hp (by omega) hm.capP);have hpp:=hm.path;have hcP:=hm.capP;clear hm;obtain⟨xe,xa,xr⟩:=x;unfold psA at HL0 HEO;dsimp only at HL0 HEO;obtain⟨R,hR⟩:=geZ (qa8 t m u (intoP t ⟨xe,xa,xr⟩) true (m.path.drop 1));rw[hR];obtain⟨I,hI⟩:=geZ (intoP t ⟨xe,xa,xr⟩);have HIB:=zq (show 0<=I/\I<=41000000 from by rw[<-hI];have h1_:=qb3 (qaD hck).1 (qaO.1 hrx).2;have h2_:=qaT (qaD hck).1 (s:=stepP ⟨xe,xa,xr⟩) (qbh.1 (qaO.1 hrx).2).1;omega);rw[hI]at HEO hR;obtain⟨m0,hm0⟩: ∃q,m=q:=⟨_,rfl⟩
 have HR:=zq hR;have HCK:=zq hck;have HPL:=zq hpl;clear hR hI hloc hrx hbh hmay hck hm0;have hbl:=(qax hl).2.2.1;unfold maC;obtain⟨mr,hmr⟩: ∃q,m.ref=q:=⟨_,rfl⟩
 obtain⟨mv,hmv⟩: ∃q,m.rev=q:=⟨_,rfl⟩
 obtain⟨mg,hmg⟩: ∃q,m.gap=q:=⟨_,rfl⟩
 obtain⟨sn,hsn⟩: ∃q,m.sects.length=q:=⟨_,rfl⟩
 obtain⟨mp,hmp⟩: ∃q,m.path=q:=⟨_,rfl⟩
 obtain⟨ap,cp,aq,cs⟩:=b;dsimp only at*;rw[hmr,hmv]at HL0;rw[hmp]at hpp hpl hcP HR HON HPL;rw[hmr,hmv,hmg,hsn,hmp];obtain⟨pn,hpn⟩: ∃q,mp.length=q:=⟨_,rfl⟩
 rw[hpn]at hpp hpl hcP HON HPL⊢;have HMP:=zq hmp;have HPN:=zq hpn;have HCP:=zq hcP;clear hmr hmv hmg hsn hmp hpn;obtain⟨wa,hwa,hbwa,HWA,HBWA,h0,h1⟩:=bx2Z w 27 (tpC t a) 38 #[.int .i64 mr,.bool mv,.slice ap pn cp,.slice aq sn cs,.int .i64 mg];have H0:=zH h0;have H1:=zH h1;have HPP:=zq (fun W (hW:Below wa.heap.size wa W)=>(hpp.under hbwa).under hW);have HBS:=zq (fun W (hW:Below wa.heap.size wa W)=>((ht.under hbwa).under hW).b);have HBL:=zq hbl;have e0:wa.cell? ⟨w.heap.size+1,0,none⟩=some (.int .i64 mr):=h1.cell 0;have e1:wa.cell? ⟨w.heap.size+1,1,none⟩=some (.bool mv):=h1.cell 1;clear hwa hbwa h0 h1 ht hl hcj hpp hpl hcP hbl;go_enter Tryz.func83,Tryz.ntmps83;go_upto_region 1 with fail;rw[HWA.out];clear HWA;go_wp2_with (with_reducible refine ldZ 21 (H0.out wa (Below.refl _ _)) ?_);refine(HL0.out wa HBWA.out).mono ?_;rintro e_ w1 ⟨rfl,hb1⟩;have HB1:=zq hb1;clear hb1 HL0 e0 e1;go_upto_region 2 with fail;obtain⟨w2,hw2⟩:=geZ (w1.alloc (.cells #[.int .i64 xe,.int .i64 xa,.bool xr] 51));rw[hw2];have HB2:=zq (show Below wa.heap.size wa w2 from by rw[<-hw2];exact HB1.out.alloc HB1.out.size _);have hH:Has w2 w1.heap.size 51 #[.int .i64 xe,.int .i64 xa,.bool xr]:=by rw[<-hw2];exact Has.made _ _ _
 obtain⟨gP,hgP⟩: ∃g,w1.heap.size=g:=⟨_,rfl⟩
 rw[hgP]at hH;simp only[hgP];have HHP:=zq hH;clear hw2 hH hgP HB1;go_wp2_with (first|(with_reducible refine ldZ 29 (H0.out w2 HB2.out) ?_)|(with_reducible refine ldZ 30 HHP.out ?_));refine(HEO.out w2 (HBWA.out.trans (HB2.out.mono HBWA.out.size))).mono ?_;rintro e_ w3 ⟨rfl,hb3⟩;have HB3:=tB HB2 hb3;clear hb3 HB2 HHP HEO;have m2:w3.cell? ⟨w.heap.size+1,2,none⟩=some (.slice ap pn cp):=(H1.out w3 HB3.out).cell 2;have hp1:1<=pn:=HPL.out.1;have hcu: ∀W,(Instr.sliceAt 35 (.slice ap pn cp) (some (.int .i64 1)) none none).run Tryz.prog W= .ok (.slice (if cp=1 then ap else ap.map (·.add (1*2))) (pn-1) (cp-1)) W:=fun W=>qbT (P:=Tryz.prog) 2 35 30 Tryz.underlying35 (by kernel_rfl) ap pn cp 1 hp1 W;have HTS:=zq (fun W (hW:Below wa.heap.size wa W)=>(HPP.out W hW).from17 (fun _=>rfl) HCP.out hp1);obtain⟨A2,hA2⟩: ∃A,(if cp=1 then ap else ap.map (·.add (1*2)))=A:=⟨_,rfl⟩
 obtain⟨c2,hc2⟩: ∃c,cp-1=c:=⟨_,rfl⟩
 obtain⟨tn,htn⟩: ∃n,pn-1=n:=⟨_,rfl⟩
 obtain⟨tl,htl⟩: ∃l,mp.drop 1=l:=⟨_,rfl⟩
 rw[hA2,hc2,htn]at hcu HTS;rw[htl]at HTS HR;have HTN:=zq (show tn<=23/\tl.length=tn/\pn=tn+1 from by have h1_:=HPL.out;have h2_:=HPN.out;refine⟨by omega,?_,by omega⟩;rw[<-htl,List.length_drop];omega);have htb:tn<=23:=HTN.out.1;clear hA2 hc2 htn htl hp1;go_wp2;clear hcu m2;go_loopg [10,11,36] tn (fun kk v10 v11 v36 wl=> ∃(i:Nat) (X:Option Addr) (n c:Nat) (acc:List Int) (last:Int),i<=tn/\tn-i<=kk/\v36= .int .i64 i/\v11= .slice X n c/\v10= .int .i64 last/\Hid (0<=last/\last<=41000000)/\Hid (n<=8*i)/\Hid (OwR inC 1 3 wa.heap.size wl X n c acc)/\Hid (R=lkJ acc (qa8 t m u last (decide (i=0)) (tl.drop i)))/\Hid (Below wa.heap.size wa wl))
 case atStart=>exact⟨0,none,0,0,[],I,by omega,by omega,rfl,rfl,rfl,HIB,zq (by omega),zq (OwR.nil _ _ _ _ _),zq (by rw[lkJ_nil17,List.drop_zero];exact HR.out.symm),HB3⟩
 clear HR HIB HB3;obtain⟨i,X,n,c,acc,last,hi,hik,rfl,rfl,rfl,HLB,HN,HO,HRI,HB⟩:=hrel;obtain⟨k1,hk1⟩: ∃k1,k1=gk:=⟨_,rfl⟩
 subst hk1;obtain⟨wv,hwv⟩: ∃wv,wv=wr:=⟨_,rfl⟩
 subst hwv;by_cases hlt:i<tn;rotate_left
 ·obtain rfl:i=tn:=by omega
  have HF:=zq (show R=(acc,0)from by rw[HRI.out,List.drop_of_length_le (by rw[HTN.out.2.1];exact Nat.le_refl _)];show lkJ acc ([],0)=_;unfold lkJ;simp);have y1: ¬(i:Int)<i:=by omega
  have HNB:=zq (show n<=200 from by have h1_:=HN.out;omega);clear HRI;go_wp2;go_ret2
  exact⟨X,n,c,by rw[HF.out];rfl,by rw[HF.out];exact HO.out.sl,HNB.out,HBWA.out.trans (HB.out.mono HBWA.out.size)⟩
 ·obtain⟨s,hs⟩:=glZ tl (i) (by rw[HTN.out.2.1];exact hlt)
  obtain⟨bk,off,rfl,d0,d1⟩:=(HTS.out wv HB.out).step hs;have HSS:=zq hs;obtain⟨se,sr⟩:=s;dsimp only at d0 d1;have x1:(i:Int)<tn:=by omega
  have x2:(0:Int)<=i:=by omega
  have HIN:=zq (show i<tn/\tn-i<=k1 from⟨hlt,hik⟩);clear hs hi hik;obtain⟨wb,hwb⟩: ∃u,wv.alloc (.cells #[.int .i64 se,.bool sr] 30)=u:=⟨_,rfl⟩
  have hbb:Below wv.heap.size wv wb:=by rw[<-hwb];exact bA
  have hHb:Has wb wv.heap.size 30 #[.int .i64 se,.bool sr]:=by rw[<-hwb];exact Has.made _ _ _
  have HWB:=zq hwb;obtain⟨gs,hgs⟩: ∃g,wv.heap.size=g:=⟨_,rfl⟩
  have HGS:=zq hgs;rw[hgs]at hHb;have HOB:=zq (HO.out.under hbb);have HBB:=tB HB hbb;have HHB:=zH hHb;have HWX:=zq (fun W (hW:Below wb.heap.size wb W)=>HBB.out.trans (hW.mono HBB.out.size));clear hwb hbb hgs hlt hHb;go_upto_region 7 with fail;rw[HWB.out];simp only[HGS.out];clear HWB HGS d0 d1 HO HB;have b2:wb.cell? ⟨w.heap.size,2,none⟩=some (.slice a.ab t.bals.length a.cb):=(H0.out wb HBB.out).cell 2;have HE:Hid (∀(x:Bl3) W,Below wb.heap.size wb W->Calls Tryz.prog 161 #[.agg (blA x),.pointer (some ⟨gs,0,none⟩)] W fun e w'=>e= .returned (.bool (x.edge==se))/\Below W.heap.size W w'):=zq fun x W hW=>optl1_any x se gs W ((HHB.out W hW).cell 0);have HIX:=zq (oix_tl17 (fun x=>x.edge==se) t.bals a.ab t.bals.length a.cb gs wb (HBS.out wb HBB.out) (by have:=HBL.out;omega) HE);clear HE;have hfi:=qeX (fun x:Bl3=>x.edge==se) t.bals;obtain⟨bn,hbn⟩: ∃n,t.bals.length=n:=⟨_,rfl⟩
  rw[hbn]at b2 HIX;have HBN:=zq hbn;clear hbn
  rcases hfi with⟨h1,h2⟩|⟨j,y,h1,h2,h3⟩
  ·rw[h1]at HIX
   have HF:=zq (show R=([],1)from by rw[HRI.out];exact links_none17 acc HSS.out h2);clear h1 h2;go_wp2_with fail;refine HIX.out.mono ?_;rintro e_ w4 ⟨rfl,hb4⟩;have HB4:=zq (HWX.out _ hb4);clear hb4 HIX b2;go_wp2;go_ret2
   exact⟨none,0,0,by rw[HF.out];rfl,by rw[HF.out];exact SlO.nil _ _ _,by omega,HBWA.out.trans (HB4.out.mono HBWA.out.size)⟩
  ·rw[h2]at HIX
   have HGF:=zq (show qgj t se=some y from h3);have HYB:=zq (bal_find HCK.out (List.mem_of_getElem? h1));have hjb:j<bn:=by rw[<-HBN.out];exact(List.getElem?_eq_some_iff.1 h1).1
   have HJ:=zq h1;have hbn8:bn<=100:=by rw[<-HBN.out];exact HBL.out
   clear h1 h2 h3;go_wp2_with fail;refine HIX.out.mono ?_;rintro e_ w4 ⟨rfl,hb4⟩;have HB4:=zq (HWX.out _ hb4);have HO4:=zq (HOB.out.under hb4);have HH4:=zq (HHB.out _ hb4);clear hb4 HIX b2 HOB HBB HHB HWX;obtain⟨yb,yo,hyA,y0,y1,y2⟩:=(HBS.out w4 HB4.out).bal HJ.out;have b2:w4.cell? ⟨w.heap.size,2,none⟩=some (.slice (some ⟨yb,yo,none⟩) bn a.cb):=by rw[<-hyA,<-HBN.out];exact(H0.out w4 HB4.out).cell 2
   clear hyA;obtain⟨yi,ye,ya⟩:=y;dsimp only at y0 y1 y2 HYB;have x3:(0:Int)<=j:=by omega
   have x4:(j:Int)<bn:=by omega
   have q1:decide ((j:Int)<0)=false:=decide_eq_false (by omega);obtain⟨w5,hw5⟩: ∃u,w4.alloc (.cells #[.int .i64 yi,.int .i64 ye,.int .i64 ya] 151)=u:=⟨_,rfl⟩
   have hb5:Below w4.heap.size w4 w5:=by rw[<-hw5];exact bA
   have hH5:Has w5 w4.heap.size 151 #[.int .i64 yi,.int .i64 ye,.int .i64 ya]:=by rw[<-hw5];exact Has.made _ _ _
   have HW5:=zq hw5;obtain⟨gb,hgb⟩: ∃g,w4.heap.size=g:=⟨_,rfl⟩
   have HGB:=zq hgb;rw[hgb]at hH5;have HO5:=zq (HO4.out.under hb5);have HB5:=tB HB4 hb5;have HH5:=uH HH4 hb5;have HY5:=zq hH5;clear hw5 hb5 hgb hH5;go_upto_region 11 with fail;rw[HW5.out];simp only[HGB.out];clear HW5 HGB y0 y1 y2 b2 x3 x4 q1 hjb hbn8 HJ HO4 HB4 HH4;have m2:w5.cell? ⟨w.heap.size+1,2,none⟩=some (.slice ap pn cp):=(H1.out w5 HB5.out).cell 2;have y1:w5.cell? ⟨gb,1,none⟩=some (.int .i64 ye):=HY5.out.cell 1;have y2:w5.cell? ⟨gb,2,none⟩=some (.int .i64 ya):=HY5.out.cell 2;have z1:w5.cell? ⟨gs,1,none⟩=some (.bool sr):=HH5.out.cell 1;obtain⟨N,hN⟩:=geZ ((onE t m.path ⟨ye,ya,sr⟩).1);obtain⟨E0,hE0⟩: ∃N,(onE t m.path ⟨ye,ya,sr⟩).2=N:=⟨_,rfl⟩
   have HNB:=zq (show 0<=N/\N<=41000000 from by rw[<-hN];exact on_bnd17 _ _ _);have HC:=zq (HON.out w5 (HBWA.out.trans (HB5.out.mono HBWA.out.size)) ⟨ye,ya,sr⟩ (HPP.out w5 HB5.out));rw[<-HMP.out,hN,hE0]at HC;unfold psA at HC;dsimp only at HC;have HNE:=zq hN;clear hN hE0;go_wp2_with (with_reducible refine ldZ 53 (H0.out w5 HB5.out) ?_);refine HC.out.mono ?_;rintro e_ w6 ⟨rfl,hb6⟩;have HB6:=tB HB5 hb6;have HO6:=zq (HO5.out.under hb6);have HH6:=uH HH5 hb6;have HY6:=uH HY5 hb6;clear hb6 HC m2 y1 y2 z1 HB5 HO5 HH5 HY5;obtain⟨D,hD⟩:=geZ (N-last);have hw1:IntKind.i64.wrap (N-last)=D:=by rw[IntKind.wrap_i64];have h1_:=HNB.out;have h2_:=HLB.out;omega
   obtain⟨X2,hX2⟩: ∃X,(qaY D u false).1=X:=⟨_,rfl⟩
   obtain⟨E,hE⟩:=geZ ((qaY D u false).2);have HS:=zq (show qaY (N-last) u false=(X2,E)from by rw[hD];exact Prod.ext hX2 hE);have HSC:=zq (fun W=>qdx D u false W);unfold pair at HSC;rw[hX2,hE]at HSC;clear hD hX2 hE;go_wp2_with fail;refine(HSC.out w6).mono ?_;rintro e_ w6' ⟨rfl,rfl⟩;clear hw1 HSC;by_cases z:E=0;rotate_left
   ·have q1:(E !=0)=true:=by simp[z]
    have HF:=zq (show R=([],E)from by rw[HRI.out];exact links_bad17 acc HSS.out HGF.out HNE.out HS.out z);clear z;go_wp2;go_ret2
    exact⟨none,0,0,by rw[HF.out];rfl,by rw[HF.out];exact SlO.nil _ _ _,by omega,HBWA.out.trans (HB6.out.mono HBWA.out.size)⟩
   ·subst z
    have q1:((0:Int) !=0)=false:=rfl;have HGO:=zq (HRI.out.trans (links_go17 acc HSS.out HGF.out HNE.out HS.out));dsimp only at HGO;rw[HMP.out,HPN.out]at HGO;obtain⟨Q,hQ⟩:=geZ (yi/16384);obtain⟨M,hM⟩:=geZ (yi %16384);obtain⟨DR,hDR⟩: ∃d,dirB sr=d:=⟨_,rfl⟩
    have HQ:=zq (show Int.tdiv yi 16384=Q from by rw[Int.tdiv_eq_ediv_of_nonneg HYB.out.1];exact hQ);have HQM:=zq (show Int.tmod yi 16384=M from by rw[Int.tmod_eq_emod_of_nonneg HYB.out.1];exact hM);have HWQ:=zq (show IntKind.i64.wrap Q=Q from by rw[IntKind.wrap_i64];have:=HYB.out;omega);have HWM:=zq (show IntKind.i64.wrap M=M from by rw[IntKind.wrap_i64];have:=HYB.out;omega);rw[hQ,hM,hDR]at HGO;have HDI:Hid (∀W,Calls Tryz.prog 82 #[.bool sr] W fun r w'=>r= .returned (.int .i64 DR)/\Below W.heap.size W w'):=zq (fun W=>(qfw sr W).mono (fun e w' h=>⟨by rw[h.1,hDR],by rw[h.2];exact Below.refl _ _⟩));clear hQ hM hDR HRI HS;go_upto_region 15 with fail;clear q1;refine wp_region_held_drew (S:=(fun W_=>(Has W_ (gb) 151 #[.int .i64 yi,.int .i64 ye,.int .i64 ya])/\(Has W_ (gs) 30 #[.int .i64 se,.bool sr])/\(Below wa.heap.size wa W_))) (by kernel_rfl) ?_ (fun hHeld=>?_)
    ·exact⟨HY6.out.draw,HH6.out.draw,qaf HB6.out⟩
    have HO6:=zq HO6.out.draw1;refine tkZ 0 77 (h:=?_);simp only[lyZ];refine tkZ 1 78 (h:=?_);simp only[lyZ];refine tkZ 2 79 (h:=?_);simp only[lyZ];refine tqZ 3 80 (fun w_ ⟨s0,s1,s2⟩=>(show w_.cell? ⟨gb,0,none⟩=some (.int .i64 yi:Value)from s0.cell 0)) (h:=?_);simp only[lyZ];refine tqZ 4 81 (fun w_ ⟨s0,s1,s2⟩=>And.intro (HQ.out) (HWQ.out)) (h:=?_);simp only[lyZ];refine tkZ 5 82 (h:=?_);simp only[lyZ];refine tqZ 6 83 (fun w_ ⟨s0,s1,s2⟩=>(show w_.cell? ⟨gb,0,none⟩=some (.int .i64 yi:Value)from s0.cell 0)) (h:=?_);simp only[lyZ];refine tqZ 7 84 (fun w_ ⟨s0,s1,s2⟩=>And.intro (HQM.out) (HWM.out)) (h:=?_);simp only[lyZ];refine tkZ 8 85 (h:=?_);simp only[lyZ];refine tqZ 9 86 (fun w_ ⟨s0,s1,s2⟩=>(show w_.cell? ⟨gs,1,none⟩=some (.bool sr:Value)from s1.cell 1)) (h:=?_);simp only[lyZ];refine aoZ 10 (some 87) (fun K hK=>?_);go_simp;obtain⟨s0,s1,s2⟩:=hHeld;refine(HDI.out _).mono ?_;rintro e_ q1 ⟨rfl,hb_⟩;have HO6:=zq (HO6.out.under hb_);go_wp2_with fail;refine hK.out _ _ ?_ (fun hHeld=>?_)
    ·exact⟨s0.u hb_,s1.u hb_,bu s2 hb_⟩
    clear hK K s0 s1 s2
    try simp only[lyZ]
    refine aoZ 11 (some 88) (fun K hK=>?_);go_simp;obtain⟨s0,s1,s2⟩:=hHeld;obtain⟨gl,hgl⟩:=geZ (q1.heap.size);have p0_gl:gb<gl:=by rw[<-hgl];exact s0.lt
    have p1_gl:gs<gl:=by rw[<-hgl];exact s1.lt
    have p2_gl:wa.heap.size<=gl:=by rw[<-hgl];exact s2.size
    rw[hgl];refine hK.out _ _ ?_ (fun hHeld=>?_)
    ·exact⟨s0.beside _,s1.beside _,qan s2 _⟩
    have HNL:=zq (show(Value.slice X n c).ownBlock≠some gl from by rw[<-hgl];exact HO6.out.ne (Nat.le_refl _));have HO6:=zq (HO6.out.under ((Below.refl _ _).alloc (Nat.le_refl _) (.cells #[.int .i64 X2,.int .i64 1,.int .i64 Q,.int .i64 M,.int .i64 DR,.int .i64 2,.int .i64 12] 3)));refine mr3 (fun W_=>(Has W_ (gl) 3 #[.int .i64 X2,.int .i64 1,.int .i64 Q,.int .i64 M,.int .i64 DR,.int .i64 2,.int .i64 12])) ⟨s0.beside _,s1.beside _,qan s2 _,(by rw[<-hgl];exact Has.made _ _ _)⟩ (fun h_=>?_);clear hHeld;have hHeld:=h_;clear h_;clear hK K hgl s0 s1 s2
    try simp only[lyZ]
    refine aoZ 12 (some 89) (fun K hK=>?_);skip;obtain⟨s0,s1,s2,s3⟩:=hHeld;obtain⟨hO,hSL,h1,hBD⟩:=pourR 8 HO6.out (⟨rfl,qa7 s3 rfl⟩:SlO inC 1 _ (some ⟨gl,0,none⟩) 7 7 [X2,1,Q,M,DR,2,12]) qbq s2.size (by have h1_:=HIN.out;have h2_:=HTN.out.1;have h3_:=HN.out;omega) (by omega);refine qcj (o:=⟨some 89,_,_,_,_,_⟩) (by rfl) (.tmp 77) (.tmp 88) 22 (by rfl) wa.heap.size 3 (.int .i64 0) 1 8 Tryz.underlying22 qa0 (by rfl) (by decide) X n c _ (by rfl) hO (some ⟨gl,0,none⟩) 7 7 _ (by rfl) hSL h1 hBD ?_;intro X3 x3 u3 ho hg h5;have hs0:=s0.grow hg.out (Ne.symm (HO6.out.apart s0 (by decide)));have hs1:=s1.grow hg.out (Ne.symm (HO6.out.apart s1 (by decide)));have hs2:=qai s2 s2.size hO.out (Nat.le_refl _) rfl hg.out;have hs3:=s3.grow hg.out (Ne.symm HNL.out);have HO6:=zq (show OwR inC 1 3 wa.heap.size u3 X3 (n+7) x3 (acc++[X2,1,Q,M,DR,2,12])from OwR.poured (l':=[X2,1,Q,M,DR,2,12]) HO6.out.2 rfl ho.out);refine hK.out _ _ ?_ (fun hHeld=>?_)
    ·exact⟨hs0,hs1,hs2,hs3⟩
    clear hK K s0 s1 s2 s3
    try simp only[lyZ]
    refine tkZ 13 11 (h:=?_);simp only[lyZ];refine dnZ ?_;obtain⟨w7,hw7⟩: ∃u,u=u3:=⟨_,rfl⟩
    subst hw7;have HB7:=zq hHeld.2.2.1;clear hHeld;obtain⟨a2,ha2⟩: ∃l,acc++[X2,1,Q,M,DR,2,12]=l:=⟨_,rfl⟩
    rw[ha2]at HO6 HGO;clear ha2;have HN7:=zq (show n+7<=8*i+7 from by have:=HN.out;omega);have hib:i<23:=by have h1_:=HIN.out;have h2_:=HTN.out;omega
    by_cases z:i=0
    ·have q1:((i:Int)==0)=true:=by simp[z]
     have HGO:=zq (show R=lkJ (a2++[(pn:Int)-2]) (qa8 t m u N (decide (i+1=0)) (tl.drop (i+1)))from by rw[HGO.out,if_pos (decide_eq_true z),decide_eq_false (show¬i+1=0 by omega)]);have HI0:=zq z;clear z;have m2:w7.cell? ⟨w.heap.size+1,2,none⟩=some (.slice ap pn cp):=(H1.out w7 HB7.out).cell 2;have hpb:pn<=24:=HPL.out.2.1;obtain⟨P2,hP2⟩: ∃q,(pn:Int)-2=q:=⟨_,rfl⟩
     have hw2:IntKind.i64.wrap ((pn:Int)-2)=P2:=by rw[IntKind.wrap_i64];omega
     rw[hP2]at HGO;clear hP2;go_upto_region 17 with fail;obtain⟨hO,hSL,h1,hBD⟩:=pourR 8 (HO6.out.under ((Below.refl _ _).alloc (Nat.le_refl _) (.cells #[.int .i64 P2] 3))) (⟨rfl,qa7 (Has.made _ _ _) rfl⟩:SlO inC 1 (w7.alloc (.cells #[.int .i64 P2] 3)) (some ⟨w7.heap.size,0,none⟩) 1 1 [P2]) qbq (Nat.le_trans HB7.out.size (by simp)) (by have:=HN7.out;omega) (by omega);go_wp2_with (with_reducible refine qaG (o:=⟨some 98,_,_,_,_,_⟩) rfl (.tmp 92) (.tmp 97) 22 rfl wa.heap.size 3 (.int .i64 0) 1 8 Tryz.underlying22 qa0 ?hz7 (by decide) X3 (n+7) x3 _ ?hs7 hO (some ⟨w7.heap.size,0,none⟩) 1 1 _ ?hx7 hSL h1 hBD ?next7)
     all_goals try rfl
     intro A8 c8 w8 ho8 hg8;have HO8:=zq (show OwR inC 1 3 wa.heap.size w8 A8 (n+7+1) c8 (a2++[P2])from OwR.poured (l':=[P2]) HO6.out.2 rfl ho8.out);have HB8:=zq (qai (HB7.out.trans ((bA).mono HB7.out.size)) (Nat.le_trans HB7.out.size (by simp)) hO.out (Nat.le_refl _) rfl hg8.out);clear ho8 hg8 hO hSL h1 hBD HO6 HB7 m2 hw2 q1 hpb;go_wp2;go_roundg (k1-1)
     case measure=>have:=HIN.out;omega
     case rel=>exact⟨i+1,A8,n+7+1,c8,a2++[P2],N,by have:=HIN.out;omega,by have:=HIN.out;omega,by first|go_num|(rw[IntWalk.wrap64_in _ (by have h1_:=HIN.out;have h2_:=HTN.out;omega)];go_num),rfl,rfl,HNB,zq (by have:=HN7.out;omega),HO8,HGO,HB8⟩
    ·have q1:((i:Int)==0)=false:=by simp;omega
     have q2: ¬(i:Int)=0:=by omega
     have HGO:=zq (show R=lkJ a2 (qa8 t m u N (decide (i+1=0)) (tl.drop (i+1)))from by rw[HGO.out,if_neg (by rw[decide_eq_false z];decide),decide_eq_false (show¬i+1=0 by omega),List.append_nil]);clear z;go_wp2;go_roundg (k1-1)
     case measure=>have:=HIN.out;omega
     case rel=>exact⟨i+1,X3,n+7,x3,a2,N,by have:=HIN.out;omega,by have:=HIN.out;omega,by first|go_num|(rw[IntWalk.wrap64_in _ (by have h1_:=HIN.out;have h2_:=HTN.out;omega)];go_num),rfl,rfl,HNB,zq (by have:=HN7.out;omega),HO6,HGO,HB7⟩
end
section
open Go.RowKit
inductive Nd where
 |v (n:Nat)
 |g (k:Nat) (body:List Nd)
def openW (k:Nat):ByteArray:=if k=0 then⟨#[123]⟩else if k=1 then⟨#[60]⟩else⟨#[40,49,50]⟩
def closeW (k:Nat):ByteArray:=if k=0 then⟨#[125]⟩else⟨#[62]⟩
def nameV (n:Nat):ByteArray:=(vrows.getD n vnone).name
mutual
def wordsN:Nd->List ByteArray
 | .v n=>[nameV n]
 | .g k b=>openW k::(qcl b++[closeW k])
def qcl:List Nd->List ByteArray
 |[]=>[]
 |x::l=>wordsN x++qcl l
end
def gram0:ByteArray:=⟨#[76,95,80,65,67,75,69,84,32,81,95,83,67,65,76,69,32,78,73,68,95,76,82,66,71,32,68,95,76,82,66,71,32,81,95,68,73,82,76,82,66,71,32,81,95,68,76,82,66,71,32,76,95,68,79,85,66,84,79,86,69,82,32,76,95,68,79,85,66,84,85,78,68,69,82,32,81,95,76,69,78,71,84,72,32,40,49,50,32,76,95,84,82,65,73,78,73,78,84,32,62,32,86,95,84,82,65,73,78,32,81,95,68,73,82,84,82,65,73,78,32,77,95,77,79,68,69,32,77,95,76,69,86,69,76,32,60,32,78,73,68,95,78,84,67,32,62]⟩
def gram1:ByteArray:=⟨#[76,95,80,65,67,75,69,84,32,81,95,83,67,65,76,69,32,78,73,68,95,76,82,66,71,32,78,73,68,95,80,82,86,76,82,66,71,32,68,95,76,82,66,71,32,81,95,68,73,82,76,82,66,71,32,81,95,68,76,82,66,71,32,76,95,68,79,85,66,84,79,86,69,82,32,76,95,68,79,85,66,84,85,78,68,69,82,32,81,95,76,69,78,71,84,72,32,40,49,50,32,76,95,84,82,65,73,78,73,78,84,32,62,32,86,95,84,82,65,73,78,32,81,95,68,73,82,84,82,65,73,78,32,77,95,77,79,68,69,32,77,95,76,69,86,69,76,32,60,32,78,73,68,95,78,84,67,32,62]⟩
def gram3:ByteArray:=⟨#[81,95,68,73,82,32,76,95,80,65,67,75,69,84,32,81,95,83,67,65,76,69,32,68,95,86,65,76,73,68,78,86,32,78,95,73,84,69,82,32,123,32,78,73,68,95,67,32,125,32,86,95,78,86,83,72,85,78,84,32,77,95,78,86,67,79,78,84,65,67,84,32,84,95,78,86,67,79,78,84,65,67,84]⟩
def gram5:ByteArray:=⟨#[81,95,68,73,82,32,76,95,80,65,67,75,69,84,32,81,95,83,67,65,76,69,32,68,95,76,73,78,75,32,81,95,78,69,87,67,79,85,78,84,82,89,32,60,32,78,73,68,95,67,32,62,32,78,73,68,95,66,71,32,81,95,76,73,78,75,79,82,73,69,78,84,65,84,73,79,78,32,81,95,76,73,78,75,82,69,65,67,84,73,79,78,32,81,95,76,79,67,65,67,67,32,78,95,73,84,69,82,32,123,32,68,95,76,73,78,75,32,81,95,78,69,87,67,79,85,78,84,82,89,32,60,32,78,73,68,95,67,32,62,32,78,73,68,95,66,71,32,81,95,76,73,78,75,79,82,73,69,78,84,65,84,73,79,78,32,81,95,76,73,78,75,82,69,65,67,84,73,79,78,32,81,95,76,79,67,65,67,67,32,125]⟩
def gram11:ByteArray:=⟨#[76,95,80,65,67,75,69,84,32,78,73,68,95,79,80,69,82,65,84,73,79,78,65,76,32,78,67,95,84,82,65,73,78,32,76,95,84,82,65,73,78,32,86,95,77,65,88,84,82,65,73,78,32,77,95,76,79,65,68,73,78,71,71,65,85,71,69,32,77,95,65,88,76,69,76,79,65,68,32,77,95,65,73,82,84,73,71,72,84,32,78,95,73,84,69,82,32,123,32,77,95,84,82,65,67,84,73,79,78,32,125,32,78,95,73,84,69,82,32,123,32,78,73,68,95,83,84,77,32,125]⟩
def gram15:ByteArray:=⟨#[81,95,68,73,82,32,76,95,80,65,67,75,69,84,32,81,95,83,67,65,76,69,32,86,95,69,77,65,32,84,95,69,77,65,32,78,95,73,84,69,82,32,123,32,76,95,83,69,67,84,73,79,78,32,81,95,83,69,67,84,73,79,78,84,73,77,69,82,32,60,32,84,95,83,69,67,84,73,79,78,84,73,77,69,82,32,68,95,83,69,67,84,73,79,78,84,73,77,69,82,83,84,79,80,76,79,67,32,62,32,125,32,76,95,69,78,68,83,69,67,84,73,79,78,32,81,95,83,69,67,84,73,79,78,84,73,77,69,82,32,60,32,84,95,83,69,67,84,73,79,78,84,73,77,69,82,32,68,95,83,69,67,84,73,79,78,84,73,77,69,82,83,84,79,80,76,79,67,32,62,32,81,95,69,78,68,84,73,77,69,82,32,60,32,84,95,69,78,68,84,73,77,69,82,32,68,95,69,78,68,84,73,77,69,82,83,84,65,82,84,76,79,67,32,62,32,81,95,68,65,78,71,69,82,80,79,73,78,84,32,60,32,68,95,68,80,32,86,95,82,69,76,69,65,83,69,68,80,32,62,32,81,95,79,86,69,82,76,65,80,32,60,32,68,95,83,84,65,82,84,79,76,32,84,95,79,76,32,68,95,79,76,32,86,95,82,69,76,69,65,83,69,79,76,32,62]⟩
def gram21:ByteArray:=⟨#[81,95,68,73,82,32,76,95,80,65,67,75,69,84,32,81,95,83,67,65,76,69,32,68,95,71,82,65,68,73,69,78,84,32,81,95,71,68,73,82,32,71,95,65,32,78,95,73,84,69,82,32,123,32,68,95,71,82,65,68,73,69,78,84,32,81,95,71,68,73,82,32,71,95,65,32,125]⟩
def gram27:ByteArray:=⟨#[81,95,68,73,82,32,76,95,80,65,67,75,69,84,32,81,95,83,67,65,76,69,32,68,95,83,84,65,84,73,67,32,86,95,83,84,65,84,73,67,32,81,95,70,82,79,78,84,32,78,95,73,84,69,82,32,123,32,78,67,95,68,73,70,70,32,86,95,68,73,70,70,32,125,32,78,95,73,84,69,82,32,123,32,68,95,83,84,65,84,73,67,32,86,95,83,84,65,84,73,67,32,81,95,70,82,79,78,84,32,78,95,73,84,69,82,32,123,32,78,67,95,68,73,70,70,32,86,95,68,73,70,70,32,125,32,125]⟩
def gram42:ByteArray:=⟨#[81,95,68,73,82,32,76,95,80,65,67,75,69,84,32,81,95,82,66,67,32,78,73,68,95,67,32,78,73,68,95,82,66,67,32,78,73,68,95,82,65,68,73,79,32,78,73,68,95,82,65,68,73,79,32,81,95,83,76,69,69,80,83,69,83,83,73,79,78]⟩
def gram57:ByteArray:=⟨#[81,95,68,73,82,32,76,95,80,65,67,75,69,84,32,84,95,77,65,82,32,84,95,84,73,77,69,79,85,84,82,81,83,84,32,84,95,67,89,67,82,81,83,84]⟩
def gram58:ByteArray:=⟨#[81,95,68,73,82,32,76,95,80,65,67,75,69,84,32,81,95,83,67,65,76,69,32,84,95,67,89,67,76,79,67,32,68,95,67,89,67,76,79,67,32,77,95,76,79,67,32,78,95,73,84,69,82,32,123,32,68,95,76,79,67,32,81,95,76,71,84,76,79,67,32,125]⟩
def gram80:ByteArray:=⟨#[81,95,68,73,82,32,76,95,80,65,67,75,69,84,32,81,95,83,67,65,76,69,32,68,95,77,65,77,79,68,69,32,77,95,77,65,77,79,68,69,32,86,95,77,65,77,79,68,69,32,76,95,77,65,77,79,68,69,32,76,95,65,67,75,77,65,77,79,68,69,32,81,95,77,65,77,79,68,69,32,78,95,73,84,69,82,32,123,32,68,95,77,65,77,79,68,69,32,77,95,77,65,77,79,68,69,32,86,95,77,65,77,79,68,69,32,76,95,77,65,77,79,68,69,32,76,95,65,67,75,77,65,77,79,68,69,32,81,95,77,65,77,79,68,69,32,125]⟩
def gramOf (id:Int):ByteArray:=
 if id=0 then gram0 else if id=1 then gram1 else if id=3 then gram3 else if id=5 then gram5 else if id=11 then gram11 else if id=15 then gram15 else if id=21 then gram21 else if id=27 then gram27 else if id=42 then gram42 else if id=57 then gram57 else if id=58 then gram58 else if id=80 then gram80 else⟨#[]⟩
def ast0:List Nd:=[.v 7,.v 8,.v 4,.v 13,.v 14,.v 15,.v 16,.v 17,.v 18,.g 2 [.v 19],.v 20,.v 21,.v 22,.v 23,.g 1 [.v 24]]
def ast1:List Nd:=[.v 7,.v 8,.v 4,.v 74,.v 13,.v 14,.v 15,.v 16,.v 17,.v 18,.g 2 [.v 19],.v 20,.v 21,.v 22,.v 23,.g 1 [.v 24]]
def ast3:List Nd:=[.v 6,.v 7,.v 8,.v 84,.v 27,.g 0 [.v 10],.v 85,.v 87,.v 86]
def ast5:List Nd:=[.v 6,.v 7,.v 8,.v 44,.v 12,.g 1 [.v 10],.v 11,.v 45,.v 46,.v 47,.v 27,.g 0 [.v 44,.v 12,.g 1 [.v 10],.v 11,.v 45,.v 46,.v 47]]
def ast11:List Nd:=[.v 7,.v 75,.v 76,.v 77,.v 78,.v 79,.v 80,.v 81,.v 27,.g 0 [.v 82],.v 27,.g 0 [.v 83]]
def ast15:List Nd:=[.v 6,.v 7,.v 8,.v 25,.v 26,.v 27,.g 0 [.v 28,.v 29,.g 1 [.v 30,.v 31]],.v 32,.v 29,.g 1 [.v 30,.v 31],.v 33,.g 1 [.v 34,.v 35],.v 36,.g 1 [.v 37,.v 38],.v 39,.g 1 [.v 40,.v 41,.v 42,.v 43]]
def ast21:List Nd:=[.v 6,.v 7,.v 8,.v 48,.v 49,.v 50,.v 27,.g 0 [.v 48,.v 49,.v 50]]
def ast27:List Nd:=[.v 6,.v 7,.v 8,.v 51,.v 52,.v 53,.v 27,.g 0 [.v 54,.v 55],.v 27,.g 0 [.v 51,.v 52,.v 53,.v 27,.g 0 [.v 54,.v 55]]]
def ast42:List Nd:=[.v 6,.v 7,.v 62,.v 10,.v 63,.v 64,.v 64,.v 65]
def ast57:List Nd:=[.v 6,.v 7,.v 66,.v 67,.v 68]
def ast58:List Nd:=[.v 6,.v 7,.v 8,.v 69,.v 70,.v 71,.v 27,.g 0 [.v 72,.v 73]]
def ast80:List Nd:=[.v 6,.v 7,.v 8,.v 56,.v 57,.v 58,.v 59,.v 60,.v 61,.v 27,.g 0 [.v 56,.v 57,.v 58,.v 59,.v 60,.v 61]]
def astOf (id:Int):List Nd:=
 if id=0 then ast0 else if id=1 then ast1 else if id=3 then ast3 else if id=5 then ast5 else if id=11 then ast11 else if id=15 then ast15 else if id=21 then ast21 else if id=27 then ast27 else if id=42 then ast42 else if id=57 then ast57 else if id=58 then ast58 else if id=80 then ast80 else[]
def qcg (id:Int):Bool:=decide (id=0)||decide (id=1)||decide (id=3)||decide (id=5)||decide (id=11)||decide (id=15)||decide (id=21)||decide (id=27)||decide (id=42)||decide (id=57)||decide (id=58)||decide (id=80)
def wstep (s:ByteArray):Nat->List ByteArray×Nat
 |0=>([],0)
 |j+1=>if j=s.size\/s.data.getD j 0=32 then(if(wstep s j).2<j then(wstep s j).1++[s.extract (wstep s j).2 j]else(wstep s j).1,j+1)else wstep s j
def qbZ (s:ByteArray):List ByteArray:=(wstep s (s.size+1)).1
theorem words0:qbZ gram0=qcl ast0:=by kernel_rfl
theorem words1:qbZ gram1=qcl ast1:=by kernel_rfl
theorem words3:qbZ gram3=qcl ast3:=by kernel_rfl
theorem words5:qbZ gram5=qcl ast5:=by kernel_rfl
theorem words11:qbZ gram11=qcl ast11:=by kernel_rfl
theorem words15:qbZ gram15=qcl ast15:=by kernel_rfl
theorem words21:qbZ gram21=qcl ast21:=by kernel_rfl
theorem words27:qbZ gram27=qcl ast27:=by kernel_rfl
theorem words42:qbZ gram42=qcl ast42:=by kernel_rfl
theorem words57:qbZ gram57=qcl ast57:=by kernel_rfl
theorem words58:qbZ gram58=qcl ast58:=by kernel_rfl
theorem words80:qbZ gram80=qcl ast80:=by kernel_rfl
end
section
open Go.RowKit
def strs (l:List ByteArray):List Value:=l.map .string
theorem qfQ (l:List ByteArray):(strs l).length=l.length:=by simp[strs]
abbrev OwS (base:Nat)(w:World)(A:Option Addr)(m c:Nat)(l:List ByteArray):Prop:=w.ownsRow base 9 1 (.slice A m c) m (strs l)
end
section
open Go.RowKit
structure SlW (w:World) (A:Option Addr) (m c:Nat) (l:List ByteArray):Prop where
 len:l.length=m
 sl:Sl w 1 A m c (strs l)
theorem SlW.under {w w':World}{A:Option Addr}{m c:Nat}{l:List ByteArray}(h:SlW w A m c l)(hb:Below w.heap.size w w'):SlW w' A m c l:=⟨h.len,h.sl.under hb⟩
theorem SlW.at_ {w:World}{A:Option Addr}{m c:Nat}{l:List ByteArray}(h:SlW w A m c l){j:Nat}(hj:j<m): ∃b off,A=some ⟨b,off,none⟩/\w.cell? ⟨b,off+j,none⟩=some (.string (l.getD j ⟨#[]⟩)):=by
 have hl:j<l.length:=by have:=h.len;omega
 exact h.sl.at_ (by simp[strs,List.getD_eq_getElem?_getD,List.getElem?_eq_getElem hl])
end
section
open Go.RowKit
open BitsM
structure WS where
 V:List Int
 rd:Bool
 bits:List Bool
 out:List (Int×Int)
 got:List Int
 e:Int
 place:Int
def fetch (v:Int)(s:WS):Int×WS:=
 if s.rd=true then(if s.bits.length<qak v then(0, {s with e:=10})else((num (s.bits.take (qak v)):Nat), {s with bits:=s.bits.drop (qak v)}))
 else if v=7 then(0,s)else if s.V=[]then(0, {s with e:=20})else(s.V.headD 0, {s with V:=s.V.tail})
def keep (v n:Int)(s:WS):WS:=
 if v=7 then {s with place:=s.out.length,out:=s.out++[(n,(qak v:Int))]} else if v=5 then {s with out:=s.out++[(n,(qak v:Int))]} else {s with got:=s.got++[n],out:=s.out++[(n,(qak v:Int))]}
def oneS (v:Int)(s:WS):Int×WS:=
 if s.e≠0 then(0,s)else if(fetch v s).2.e≠0 then(0,(fetch v s).2)else if mayOf v (fetch v s).1=false then(0, {(fetch v s).2 with e:=20})else((fetch v s).1,keep v (fetch v s).1 (fetch v s).2)
def ints (l:List Int):List Value:=l.map (.int .i64)
def pairs (l:List (Int×Int)):List Value:=l.flatMap fun x=>[.int .i64 x.1,.int .i64 x.2]
def low (base:Nat)(A:Option Addr):Prop:= ∀a,A=some a->a.block<base
structure SlI (base:Nat) (w:World) (A:Option Addr) (m c:Nat) (l:List Int):Prop where
 len:l.length=m
 cap:m<=c
 sl:Sl w 1 A m c (ints l)
 low:0<c->low base A
structure SlL (base:Nat) (w:World) (A:Option Addr) (m c:Nat) (l:List Bool):Prop where
 sl:SlB w A m c l
 cap:m<=c
 low:low base A
structure WkR (base:Nat) (w:World) (s:WS) (AV:Option Addr) (nV cV:Nat) (AB:Option Addr) (nB cB:Nat) (AO:Option Addr) (nO cO:Nat) (AG:Option Addr) (nG cG:Nat):Prop where
 v:SlI base w AV nV cV s.V
 b:SlL base w AB nB cB s.bits
 lo:s.out.length=nO
 lg:s.got.length=nG
 o:w.ownsRow base 185 2 (.slice AO nO cO) nO (pairs s.out)
 g:w.ownsRow base 3 1 (.slice AG nG cG) nG (ints s.got)
theorem add_block (a:Addr)(j:Nat):(a.add j).block=a.block:=by unfold Addr.add;split<;>rfl
theorem low_sl {w w':World}{A:Option Addr}{m c size:Nat}{vs:List Value}{base:Nat}(h:Sl w size A m c vs)(hl:low base A)(hb:Below base w w'):Sl w' size A m c vs:=
 ⟨h.1,h.2.1,fun ad ha j u hu=>by have h0:=h.2.2 ad ha j u hu;rw[hb.cell (by rw[add_block];exact hl ad ha)];exact h0⟩
section
variable {base g:Nat} {w w':World} {s:WS} {AV:Option Addr} {nV cV:Nat} {AB:Option Addr} {nB cB:Nat} {AO:Option Addr} {nO cO:Nat} {AG:Option Addr} {nG cG:Nat}
theorem SlI.below {m c:Nat}{A:Option Addr}{l:List Int}(h:SlI base w A m c l)(hb:Below base w w'):SlI base w' A m c l:=by
 refine⟨h.len,h.cap,?_,h.low⟩;by_cases hc:0<c
 ·exact low_sl h.sl (h.low hc) hb
 ·have h0:l=[]:=List.eq_nil_of_length_eq_zero (by have:=h.len;have:=h.cap;omega)
  subst h0;exact⟨h.sl.1,h.sl.2.1,fun ad _ j u hu=>by simp[ints]at hu⟩
theorem SlL.below {m c:Nat}{A:Option Addr}{l:List Bool}(h:SlL base w A m c l)(hb:Below base w w'):SlL base w' A m c l:=⟨⟨h.sl.1,low_sl h.sl.2 h.low hb⟩,h.cap,h.low⟩
theorem WkR.under (h:WkR base w s AV nV cV AB nB cB AO nO cO AG nG cG)(hb:Below w.heap.size w w')(hB:base<=w.heap.size):WkR base w' s AV nV cV AB nB cB AO nO cO AG nG cG:=
 ⟨h.v.below (hb.mono hB),h.b.below (hb.mono hB),h.lo,h.lg,qdh h.o hb (Nat.le_refl _),qdh h.g hb (Nat.le_refl _)⟩
theorem qbH (hg:base<=g)(hB:base<=w.heap.size)(i:Nat)(u:Value):Below base w (w.setCell ⟨g,i,none⟩ u):=
 (Below.refl base w).grown (row:=some g) (qbW (qa3 w (some g)) rfl u) hB (fun k hk=>by injection hk with hk;omega)
theorem WkR.store {cs:Array Value}(h:WkR base w s AV nV cV AB nB cB AO nO cO AG nG cG)(hh:Has w g 188 cs)(hg:base<=g)(hB:base<=w.heap.size)(i:Nat)(u:Value):WkR base (w.setCell ⟨g,i,none⟩ u) s AV nV cV AB nB cB AO nO cO AG nG cG:=by
 have hgr:w.grownBy (w.setCell ⟨g,i,none⟩ u) (some g):=qbW (qa3 w (some g)) rfl u;have hb:Below base w (w.setCell ⟨g,i,none⟩ u):=(Below.refl base w).grown hgr hB (fun k hk=>by injection hk with hk;omega);exact⟨h.v.below hb,h.b.below hb,h.lo,h.lg,qd1 h.o hgr (qbm h.o hh (by decide)),qd1 h.g hgr (qbm h.g hh (by decide))⟩
end
theorem width_one (v:Int)(h0:0<=v)(h1:v<96):1<=qak v/\qak v<=32:=by
 have h:=vall (fun n=>decide (1<=qak n) &&decide (qak n<=32)) (by kernel_rfl) v h0 h1;rw[Int.toNat_of_nonneg h0]at h
 simpa using h
def KeepStr (w w':World):Prop:= ∀(k:Nat) (cs:Array Value) (fr:Nat×Nat),w.heap[k]?=some (.cells cs 9 fr)->w'.heap[k]?=some (.cells cs 9 fr)
structure Fr (base:Nat) (w w':World):Prop where
 b:Below base w w'
 k:KeepStr w w'
theorem Fr.refl (base:Nat)(w:World):Fr base w w:=⟨Below.refl _ _,fun _ _ _ h=>h⟩
theorem Fr.trans {base:Nat}{a b c:World}(h:Fr base a b)(k:Fr base b c):Fr base a c:=⟨h.b.trans k.b,fun i cs fr x=>k.k i cs fr (h.k i cs fr x)⟩
theorem Fr.size {base:Nat}{a b:World}(h:Fr base a b):a.heap.size<=b.heap.size:=h.b.size
theorem keep_call {w w':World}(hb:Below w.heap.size w w'):KeepStr w w':=fun k cs fr h=>by
 have hk:k<w.heap.size:=(Array.getElem?_eq_some_iff.1 h).1;rw[hb.block k hk];exact h
theorem fr_call {base:Nat}{w w':World}(hb:Below w.heap.size w w')(hB:base<=w.heap.size):Fr base w w':=⟨hb.mono hB,keep_call hb⟩
theorem Fr.alloc {base:Nat}{a w:World}(h:Fr base a w)(hB:base<=w.heap.size)(o:Obj):Fr base a (w.alloc o):=h.trans (fr_call ((Below.refl _ w).alloc (Nat.le_refl _) o) hB)
theorem qfl:(Tryz.prog.info? 185).map (fun i=>(i.zero,i.size,i.bytes))=some (some (.agg #[.int .i64 0,.int .i64 0]),2,16):=by kernel_rfl
theorem qfa (w:World)(cs:Array Value)(t:TypeId)(l:List Value)(h:cs=l.toArray):Hid (∀i u,l[i]?=some u->(w.alloc (.cells cs t)).cell? ((⟨w.heap.size,0,none⟩:Addr).add i)=some u):=by
 subst h;intro i u hu;rw[WideShapes.add_plain,(Has.made w t _).cell,Nat.zero_add]
 simpa using hu
section
variable {base g:Nat} {w w':World} {s:WS} {AV:Option Addr} {nV cV:Nat} {AB:Option Addr} {nB cB:Nat} {AO:Option Addr} {nO cO:Nat} {AG:Option Addr} {nG cG:Nat}
theorem WkR.beside (h:WkR base w s AV nV cV AB nB cB AO nO cO AG nG cG)(hB:base<=w.heap.size)(o:Obj):WkR base (w.alloc o) s AV nV cV AB nB cB AO nO cO AG nG cG:=
 h.under ((Below.refl _ w).alloc (Nat.le_refl _) o) hB
end
end
section
open Go.RowKit
structure PkE where
 id:Int
 A:Option Addr
 n:Nat
 c:Nat
 V:List Int
def qfE (l:List PkE):List Value:=l.flatMap fun p=>[.int .i64 p.id,.slice p.A p.n p.c]
def qba (l:List PkE):List (Int×List Int):=l.map fun p=>(p.id,p.V)
theorem qgw: ∀(l:List PkE) (j:Nat) (h:j<l.length),(qfE l)[j*2]?=some (.int .i64 l[j].id)/\(qfE l)[j*2+1]?=some (.slice l[j].A l[j].n l[j].c)
 |p::l,0,_=>⟨rfl,rfl⟩
 |p::l,j+1,h=>by
  have:=qgw l j (by simpa using h);rw[show qfE (p::l)= .int .i64 p.id:: .slice p.A p.n p.c::qfE l from rfl,show(j+1)*2=j*2+1+1 by omega];exact this
structure SlK (w:World) (A:Option Addr) (m c:Nat) (l:List PkE):Prop where
 len:l.length=m
 cap:m<=c
 sl:Sl w 2 A m c (qfE l)
 each: ∀p∈l,SlI w.heap.size w p.A p.n p.c p.V
theorem sliUnder {w w':World}{A:Option Addr}{n c:Nat}{V:List Int}(h:SlI w.heap.size w A n c V)(hb:Below w.heap.size w w'):SlI w'.heap.size w' A n c V:=by
 have h2:=h.below hb;exact⟨h2.len,h2.cap,h2.sl,fun hc a ha=>Nat.lt_of_lt_of_le (h2.low hc a ha) hb.size⟩
theorem SlK.under {w w':World}{A:Option Addr}{m c:Nat}{l:List PkE}(h:SlK w A m c l)(hb:Below w.heap.size w w'):SlK w' A m c l:=
 ⟨h.len,h.cap,h.sl.under hb,fun p hp=>sliUnder (h.each p hp) hb⟩
theorem SlK.at_ {w:World}{A:Option Addr}{m c:Nat}{l:List PkE}(h:SlK w A m c l){j:Nat}(hj:j<l.length):
  ∃b off,A=some ⟨b,off,none⟩/\w.cell? ⟨b,off+j*2,none⟩=some (.int .i64 l[j].id)/\w.cell? ⟨b,off+j*2+1,none⟩=some (.slice l[j].A l[j].n l[j].c):=by
 obtain⟨h1,h2⟩:=qgw l j hj;obtain⟨b,off,hA,hc⟩:=h.sl.at_ h1;obtain⟨b',off',hA',hc'⟩:=h.sl.at_ h2;rw[hA]at hA';simp only[Option.some.injEq,Addr.mk.injEq,and_true]at hA';obtain⟨rfl,rfl⟩:=hA';exact⟨b,off,hA,hc,by rw[<-Nat.add_assoc]at hc';exact hc'⟩
end
section
open Go.RowKit
open Go.Great
theorem qdE (V:List Int):V.flatMap inC=ints V:=by
 induction V with
 |nil=>rfl
 |cons x r ih=>rw[List.flatMap_cons,ih];rfl
theorem sli_of17 {base:Nat}{w:World}{A:Option Addr}{n c:Nat}{V:List Int}(h:OwR inC 1 3 base w A n c V):SlI w.heap.size w A n c V:=
 ⟨h.2,h.cap,by rw[<-qdE];exact h.sl.2,fun _ a ha=>h.lt ha⟩
def pkC17 (p:PkE):List Value:=[.int .i64 p.id,.slice p.A p.n p.c]
theorem one_pk17 (p:PkE): ∀u∈pkC17 p,u.oneCell'=true:=by
 intro u hu;simp only[pkC17,List.mem_cons,List.not_mem_nil,or_false]at hu
 rcases hu with rfl|rfl<;>rfl
theorem info_pk17:(Tryz.prog.info? 98).map (fun i=>(i.zero,i.size,i.bytes))=some (some (.agg #[.int .i64 0,.slice none 0 0]),2,32):=by kernel_rfl
theorem slk_of17 {base:Nat}{w:World}{A:Option Addr}{n c:Nat}{L:List PkE}(h:OwR pkC17 2 98 base w A n c L)(he: ∀p∈L,SlI w.heap.size w p.A p.n p.c p.V):SlK w A n c L:=⟨h.2,h.cap,h.sl.2,he⟩
theorem qd8 (w:World):SlK w none 0 0 []:=⟨rfl,Nat.le_refl _,qfO _ _,fun _ h=>by cases h⟩
theorem end_sum17 {t:Tp3}{m:Ma3}(h:mayM t m=true):0<=endM m+m.gap/\endM m+m.gap<=41000000:=by
 have h1:=qdW.1 h;have h2:=qdV h1.len;have h3:=(qck (qaD h1.check).1 h2.2.2.1).2;have h4:0<=endM m:=secs_last h1.secs;have h5:=h1.gap0;have h6:=h1.fits;have h7:=(on_bnd17 t m.path (qc3 t m)).1;have h8:qbG t m=(onE t m.path (qc3 t m)).1:=rfl;omega
theorem tell_none17 {m:Ma3}{u:Int}(h:qcU m u=none):secsT m u=([],7):=by
 unfold qcU at h;unfold secsT
 cases hq:secsV u 0 m.sects with
 |none=>rfl
 |some w=>rw[hq]at h;cases h
theorem tell_some17 {m:Ma3}{u:Int}{v:List Int}(h:qcU m u=some v):(secsT m u).2=0/\v=[dirB m.rev,u]++(secsT m u).1:=by
 unfold qcU at h;unfold secsT
 cases hq:secsV u 0 m.sects with
 |none=>rw[hq]at h;cases h
 |some w=>
  rw[hq]at h;injection h with h
  rw[<-h];exact⟨rfl,rfl⟩
theorem opn_packets (t:Tp3)(a:TpA)(m:Ma3)(b:MaA)(w:World)(ht:TopR w t a)(hl:qaH t=true)(hcj:t.joints.length<=a.cj)(hm:MaR w m b)(hn:m.path.length<=100)(hk:m.sects.length<=100):Calls Tryz.prog 25 #[.agg (tpC t a),.agg (maC m b)] w fun r w'=> ∃(B:Option Addr) (k c:Nat) (L:List PkE),r= .returned (.tuple #[.slice B k c,.int .i64 (qb0 t m).2])/\SlK w' B k c L/\qba L=(qb0 t m).1/\Below w.heap.size w w':=by
 have HMY:=zq (fun W (hW:Below w.heap.size w W)=>opn_may t a m b W (ht.under hW) hl hcj (hm.under hW) hn hk);obtain⟨R,hR⟩:=geZ (qb0 t m);rw[hR];have HR:=zq hR;have HTL:=zq (fun(hmay:mayM t m=true) u W (hW:Below w.heap.size w W)=>qfZ t a m b u W (ht.under hW) hl hcj (hm.under hW) hmay);have HTS:=zq (fun u W (hW:Below w.heap.size w W)=>qf0 m b u W (hm.under hW) hk);have HED:=zq (fun W (hW:Below w.heap.size w W) h1=>opend_any m b W (hm.under hW).sects h1 (by omega));obtain⟨my,hmy⟩: ∃x,mayM t m=x:=⟨_,rfl⟩
 rw[hmy]at HMY;have HMB:=zq hmy;clear hmy hR hm hn hk;obtain⟨wa,hwa,hbwa,HWA,HBWA,h0,h1⟩:=bx2Z w 27 (tpC t a) 38 (maC m b);have H0:=zH h0;have H1:=zH h1;have HUP:=zq (fun W (hW:Below wa.heap.size wa W)=>HBWA.out.trans (hW.mono HBWA.out.size));clear hwa hbwa h0 h1 ht hl hcj;go_enter Tryz.func25,Tryz.ntmps25;go_upto_region 1 with fail;rw[HWA.out];clear HWA;go_wp2_with (first|(with_reducible refine ldZ 11 (H0.out wa (Below.refl _ _)) ?_)|(with_reducible refine ldZ 12 (H1.out wa (Below.refl _ _)) ?_));refine(HMY.out wa HBWA.out).mono ?_;rintro e_ w1 ⟨rfl,hb1⟩;have HB1:=zq hb1;clear hb1 HMY
 cases my with
 |false=>
  have HF:=zq (show R=([],1)from by rw[<-HR.out];unfold qb0;rw[if_pos HMB.out]);go_wp2;go_ret2
  exact⟨none,0,0,[],by rw[HF.out];rfl,qd8 _,by rw[HF.out];rfl,HUP.out _ HB1.out⟩
 |true=>
 have HP:=zq (qgn HMB.out);obtain⟨S,hS⟩:=geZ (endM m+m.gap);have HSB:=zq (show 0<=S/\S<=41000000 from by rw[<-hS];exact end_sum17 HMB.out);have HS:=zq hS;have hw1:IntKind.i64.wrap (endM m+m.gap)=S:=by rw[IntKind.wrap_i64];have:=HSB.out;omega
 have HW1:=zq hw1;obtain⟨B,hB⟩:=geZ (qdP S);have HBE:Hid (∀W,Calls Tryz.prog 29 #[.int .i64 S] W fun e w'=>e= .returned (.int .i64 B)/\Below W.heap.size W w'):=zq (fun W=>(best_any S W).mono (fun e w' h=>⟨by rw[h.1,hB],by rw[<-h.2];exact Below.refl _ _⟩));have HBQ:=zq hB;clear hS hw1 hB;go_upto_region 3 with fail;refine wp_region_held_drew (S:=(fun W_=>(Has W_ (w.heap.size+1) 38 (maC m b))/\(Below wa.heap.size wa W_))) (by kernel_rfl) ?_ (fun hHeld=>?_)
 ·exact⟨(H1.out _ HB1.out).draw,qaf HB1.out⟩
 refine tlZ 0 15 (w.heap.size+1) (maC m b) (fun _ ⟨h_,_⟩=>h_) (h:=?_);simp only[lyZ];refine tkZ 2 17 (h:=?_);simp only[lyZ];refine tqZ 3 18 (fun w_ ⟨s0,s1⟩=>(show w_.cell? ⟨w.heap.size+1,4,none⟩=some (.int .i64 m.gap:Value)from s0.cell 4)) (h:=?_);simp only[lyZ];refine aoZ 1 (some 16) (fun K hK=>?_);go_simp;obtain⟨s0,s1⟩:=hHeld;refine(HED.out _ (HUP.out _ s1) HP.out.2.2.1).mono ?_;rintro e_ q1 ⟨rfl,hb_⟩;go_wp2_with fail;refine hK.out _ _ ?_ (fun hHeld=>?_)
 ·exact⟨s0.u hb_,bu s1 hb_⟩
 clear hK K s0 s1
 try simp only[lyZ]
 refine tqZ 4 19 (fun w_ ⟨s0,s1⟩=>HW1.out) (h:=?_);simp only[lyZ];refine aoZ 5 (some 20) (fun K hK=>?_);go_simp;obtain⟨s0,s1⟩:=hHeld;refine(HBE.out _).mono ?_;rintro e_ q2 ⟨rfl,hb2_⟩;go_wp2_with fail;refine hK.out _ _ ?_ (fun hHeld=>?_)
 ·exact⟨s0.u hb2_,bu s1 hb2_⟩
 clear hK K s0 s1
 try simp only[lyZ]
 refine tkZ 6 6 (h:=?_);simp only[lyZ];refine dnZ ?_;obtain⟨w3,hw3⟩: ∃u,u=q2:=⟨_,rfl⟩
 subst hw3;have HB3:=zq hHeld.2;clear hHeld HBE HED;by_cases z:B<0
 ·have q1:decide (B<0)=true:=decide_eq_true z
  have HZ:=zq z;clear z;have HF:=zq (show R=([],7)from by rw[<-HR.out];unfold qb0;rw[if_neg (by rw[HMB.out];decide),HS.out,HBQ.out,if_pos HZ.out]);go_wp2;go_ret2
  exact⟨none,0,0,[],by rw[HF.out];rfl,qd8 _,by rw[HF.out];rfl,HUP.out _ HB3.out⟩
 have q1:decide (B<0)=false:=decide_eq_false z;have HR:=zq (show(match qcU m B with|none=>(([],7):List (Int×List Int)×Int)|some v=>if m.path.length=1 then([(15,v)],0)else if(qa8 t m B (qbG t m) true (m.path.drop 1)).2≠0 then([],(qa8 t m B (qbG t m) true (m.path.drop 1)).2)else([(15,v),(5,dirB m.rev::B::(qa8 t m B (qbG t m) true (m.path.drop 1)).1)],0))=R from by rw[<-HR.out];unfold qb0;rw[if_neg (by rw[HMB.out];decide),HS.out,HBQ.out,if_neg z];rfl);have HTSB:=zq (HTS.out B w3 (HUP.out _ HB3.out));obtain⟨ST15,hst⟩: ∃q,secsT m B=q:=⟨_,rfl⟩
 rw[hst]at HTSB;obtain⟨S1,S2⟩:=ST15;dsimp only at HTSB;have HST:=zq hst;clear z hst HTS HBQ;go_upto_region 6 with fail;clear q1;go_wp2_with (with_reducible refine ldZ 24 (H1.out w3 HB3.out) ?_);refine HTSB.out.mono ?_;rintro e_ w4 ⟨A4,n4,c4,rfl,hs4,hn4,hb4⟩;have HB4:=tB HB3 hb4;have HS4:=zq hs4;have HN4:=zq hn4;clear hb4 hs4 hn4 HTSB HB3
 cases hfi:qcU m B with
 |none=>
  obtain⟨rfl,rfl⟩:S1=[]/\S2=7:=by have h_:=HST.out;rw[tell_none17 hfi]at h_;injection h_ with h1_ h2_;exact⟨h1_.symm,h2_.symm⟩
  rw[hfi]at HR;clear hfi;have q1:((7:Int) !=0)=true:=rfl;have HF:=zq (HR.out.symm);go_wp2;go_ret2
  exact⟨none,0,0,[],by rw[HF.out];rfl,qd8 _,by rw[HF.out];rfl,HUP.out _ HB4.out⟩
 |some v=>
 obtain⟨h1_,hv⟩:=tell_some17 hfi;rw[HST.out]at h1_ hv;dsimp only at h1_ hv;subst h1_;rw[hfi]at HR;dsimp only at HR;have HV:=zq hv;have q1:((0:Int) !=0)=false:=rfl;clear hfi hv HST;have m1:w4.cell? ⟨w.heap.size+1,1,none⟩=some (.bool m.rev):=(H1.out w4 HB4.out).cell 1;obtain⟨DR,hDR⟩: ∃d,dirB m.rev=d:=⟨_,rfl⟩
 have HDI:=zq (fun W=>qfw m.rev W);rw[hDR]at HDI HR HV;clear hDR;go_upto_region 9 with fail;clear q1;go_wp2_with fail;refine(HDI.out w4).mono ?_;rintro e_ w4' ⟨rfl,hq4⟩;subst hq4;obtain⟨hO,hSL,h1,hBD⟩:=pourR 8 (base:=w4'.heap.size) (e:=3) (w:=w4'.alloc (.cells #[.int .i64 DR,.int .i64 B] 3)) (A:=some ⟨w4'.heap.size,0,none⟩) (n:=2) (c:=2) (l:=[DR,B]) (⟨World.ownsRow_lit (base:=w4'.heap.size) (e:=3) (size:=1) w4' #[.int .i64 DR,.int .i64 B] 2 (Nat.le_refl _) (by unfold maxLen;omega) rfl,rfl⟩:OwR inC 1 3 w4'.heap.size (w4'.alloc (.cells #[.int .i64 DR,.int .i64 B] 3)) (some ⟨w4'.heap.size,0,none⟩) 2 2 [DR,B]) (HS4.out.under ((Below.refl _ _).alloc (Nat.le_refl _) (.cells #[.int .i64 DR,.int .i64 B] 3))) qbq (by simp) (by have:=HN4.out;omega) (by omega);go_wp2_with (with_reducible refine qaG (o:=⟨some 38,_,_,_,_,_⟩) rfl (.tmp 36) (.tmp 37) 22 rfl w4'.heap.size 3 (.int .i64 0) 1 8 Tryz.underlying22 qa0 ?hz1 (by decide) (some ⟨w4'.heap.size,0,none⟩) 2 2 _ ?hs1 hO A4 n4 c4 _ ?hx1 hSL h1 hBD ?next1)
 all_goals try rfl
 intro A5 c5 w5 ho5 hg5;have HO5:=zq (show OwR inC 1 3 w4'.heap.size w5 A5 (2+n4) c5 v from by rw[HV.out];exact OwR.poured (l:=[DR,B]) rfl HS4.out.1 ho5.out);have HB5:=zq (qai (HB4.out.trans ((bA).mono HB4.out.size)) (Nat.le_trans HB4.out.size (by simp)) hO.out HB4.out.size rfl hg5.out);have HSZ:=zq (show wa.heap.size<=w4'.heap.size from HB4.out.size);clear ho5 hg5 hO hSL h1 hBD HB4 m1 HS4;obtain⟨w6,hw6⟩: ∃u,w5.alloc (.cells #[.int .i64 15,.slice A5 (2+n4) c5] 98)=u:=⟨_,rfl⟩
 have hb6:Below w5.heap.size w5 w6:=by rw[<-hw6];exact bA
 have HB6:=tB HB5 hb6;have HO6:=zq (HO5.out.under hb6);have HK6:=zq (show OwR pkC17 2 98 w5.heap.size w6 (some ⟨w5.heap.size,0,none⟩) 1 1 [⟨15,A5,2+n4,c5,v⟩]from by rw[<-hw6];exact⟨World.ownsRow_lit (base:=w5.heap.size) (e:=98) (size:=2) w5 #[.int .i64 15,.slice A5 (2+n4) c5] 1 (Nat.le_refl _) (by unfold maxLen;omega) rfl,rfl⟩);have HW6:=zq hw6;obtain⟨g5,hg5⟩: ∃g,w5.heap.size=g:=⟨_,rfl⟩
 have HG5:=zq hg5;rw[hg5]at HK6;have HS5:=zq (show wa.heap.size<=g5 from by rw[<-hg5];exact HB5.out.size);clear hw6 hb6 hg5 HB5 HO5;go_upto_region 10 with fail;rw[HW6.out];simp only[HG5.out];clear HW6 HG5;obtain⟨pn,hpn⟩: ∃n,m.path.length=n:=⟨_,rfl⟩
 have m2:w6.cell? ⟨w.heap.size+1,2,none⟩=some (.slice b.ap pn b.cp):=by rw[<-hpn];exact(H1.out w6 HB6.out).cell 2
 have HPN:=zq hpn;rw[hpn]at HR HP;clear hpn;by_cases z:pn=1
 ·have q1:((pn:Int)==1)=true:=by simp[z]
  have q2:(pn:Int)=1:=by omega
  have HF:=zq (HR.out.symm.trans (if_pos z));have HZ:=zq z;clear z;go_wp2;go_ret2
  refine⟨some ⟨g5,0,none⟩,1,1,[⟨15,A5,2+n4,c5,v⟩],by rw[HF.out];rfl,slk_of17 HK6.out (fun p_ hp_=>?_),by rw[HF.out];rfl,HUP.out _ HB6.out⟩;rw[List.mem_singleton]at hp_;subst hp_;exact sli_of17 HO6.out
 have q1:((pn:Int)==1)=false:=by simp;omega
 have q2: ¬(pn:Int)=1:=by omega
 have HR:=zq ((if_neg z).symm.trans HR.out);have HTLB:=zq (HTL.out HMB.out B w6 (HUP.out _ HB6.out));obtain⟨LV,hLV⟩: ∃q,(qa8 t m B (qbG t m) true (m.path.drop 1))=q:=⟨_,rfl⟩
 rw[hLV]at HTLB HR;obtain⟨L1,L2⟩:=LV;dsimp only at HTLB HR;clear z hLV HTL;go_upto_region 12 with fail;clear q1 q2 m2;go_wp2_with (first|(with_reducible refine ldZ 47 (H0.out w6 HB6.out) ?_)|(with_reducible refine ldZ 48 (H1.out w6 HB6.out) ?_));refine HTLB.out.mono ?_;rintro e_ w8 ⟨A8,n8,c8,rfl,hs8,hn8,hb8⟩;have HB8:=tB HB6 hb8;have HS8:=zq hs8;have HN8:=zq hn8;have HO8:=zq (HO6.out.under hb8);have HK8:=zq (HK6.out.under hb8);clear hb8 hs8 hn8 HTLB HB6 HO6 HK6;by_cases z:L2=0;rotate_left
 ·have q1:(L2 !=0)=true:=by simp[z]
  have HZ:=zq z;clear z;have HF:=zq (HR.out.symm.trans (if_pos HZ.out));go_wp2;go_ret2
  exact⟨none,0,0,[],by rw[HF.out];rfl,qd8 _,by rw[HF.out];rfl,HUP.out _ HB8.out⟩
 subst z;have q1:((0:Int) !=0)=false:=rfl;have HF:=zq (HR.out.symm.trans (if_neg (by simp)));clear HR;have m1:w8.cell? ⟨w.heap.size+1,1,none⟩=some (.bool m.rev):=(H1.out w8 HB8.out).cell 1;go_upto_region 15 with fail;clear q1;go_wp2_with fail;refine(HDI.out w8).mono ?_;rintro e_ w8' ⟨rfl,hq8⟩;subst hq8;obtain⟨hO,hSL,h1,hBD⟩:=pourR 8 (base:=w8'.heap.size) (e:=3) (w:=w8'.alloc (.cells #[.int .i64 DR,.int .i64 B] 3)) (A:=some ⟨w8'.heap.size,0,none⟩) (n:=2) (c:=2) (l:=[DR,B]) (⟨World.ownsRow_lit (base:=w8'.heap.size) (e:=3) (size:=1) w8' #[.int .i64 DR,.int .i64 B] 2 (Nat.le_refl _) (by unfold maxLen;omega) rfl,rfl⟩:OwR inC 1 3 w8'.heap.size (w8'.alloc (.cells #[.int .i64 DR,.int .i64 B] 3)) (some ⟨w8'.heap.size,0,none⟩) 2 2 [DR,B]) (HS8.out.under ((Below.refl _ _).alloc (Nat.le_refl _) (.cells #[.int .i64 DR,.int .i64 B] 3))) qbq (by simp) (by have:=HN8.out;omega) (by omega);go_wp2_with (with_reducible refine qaG (o:=⟨some 63,_,_,_,_,_⟩) rfl (.tmp 61) (.tmp 62) 22 rfl w8'.heap.size 3 (.int .i64 0) 1 8 Tryz.underlying22 qa0 ?hz2 (by decide) (some ⟨w8'.heap.size,0,none⟩) 2 2 _ ?hs2 hO A8 n8 c8 _ ?hx2 hSL h1 hBD ?next2)
 all_goals try rfl
 intro A9 c9 w9 ho9 hg9;have HO9:=zq (show OwR inC 1 3 w8'.heap.size w9 A9 (2+n8) c9 ([DR,B]++L1)from OwR.poured (l:=[DR,B]) rfl HS8.out.1 ho9.out);have hbz:Below w8'.heap.size w8' w9:=qai (bA) (by simp) hO.out (Nat.le_refl _) rfl hg9.out;have HB9:=tB HB8 hbz;have HX9:=zq (HO8.out.under hbz);have HK9:=zq (HK8.out.under hbz);clear ho9 hg9 hO hSL h1 hBD HB8 m1 HS8 hbz HO8 HK8;have hbq:Below w9.heap.size w9 (w9.alloc (.cells #[.int .i64 5,.slice A9 (2+n8) c9] 98)):=bA;have HBQ:=tB HB9 hbq;have HOQ:=zq (HO9.out.under hbq);have HXQ:=zq (HX9.out.under hbq);obtain⟨hO,hSL,h1,hBD⟩:=pourR 32 (HK9.out.under hbq) (⟨rfl,qa7 (Has.made _ _ _) rfl⟩:SlO pkC17 2 (w9.alloc (.cells #[.int .i64 5,.slice A9 (2+n8) c9] 98)) (some ⟨w9.heap.size,0,none⟩) 1 1 [⟨5,A9,2+n8,c9,[DR,B]++L1⟩]) one_pk17 (Nat.le_trans (Nat.le_of_lt (HK9.out.lt rfl)) (by simp)) (by omega) (by omega);go_wp2_with (with_reducible refine qaG (o:=⟨some 66,_,_,_,_,_⟩) rfl (.tmp 56) (.tmp 65) 44 rfl g5 98 (.agg #[.int .i64 0,.slice none 0 0]) 2 32 Tryz.underlying44 info_pk17 ?hz3 (by decide) (some ⟨g5,0,none⟩) 1 1 _ ?hs3 hO (some ⟨w9.heap.size,0,none⟩) 1 1 _ ?hx3 hSL h1 hBD ?next3)
 all_goals try rfl
 intro AZ cz wz hoz hgz;have HOZ:=zq (show OwR pkC17 2 98 g5 wz AZ (1+1) cz (([⟨15,A5,2+n4,c5,v⟩]:List PkE)++([⟨5,A9,2+n8,c9,[DR,B]++L1⟩]:List PkE))from OwR.poured (l:=([⟨15,A5,2+n4,c5,v⟩]:List PkE)) (l':=([⟨5,A9,2+n8,c9,[DR,B]++L1⟩]:List PkE)) rfl rfl hoz.out);have HBZ:=zq (qai HBQ.out HBQ.out.size hO.out HS5.out rfl hgz.out);have HVZ:=zq (HXQ.out.kept hgz.out (OwR.two HXQ.out (HK9.out.under hbq) (by decide)));have HLZ:=zq (HOQ.out.kept hgz.out (OwR.two HOQ.out (HK9.out.under hbq) (by decide)));clear hoz hgz hO hSL h1 hBD HK9 HX9 HO9 HB9 HXQ HOQ HBQ hbq;go_wp2;go_ret2
 refine⟨AZ,1+1,cz,_,by rw[HF.out];rfl,slk_of17 HOZ.out (fun p_ hp_=>?_),by rw[HF.out];rfl,HUP.out _ HBZ.out⟩
 rcases List.mem_cons.1 hp_ with rfl|hp_
 ·exact sli_of17 HVZ.out
 ·rcases List.mem_cons.1 hp_ with rfl|hp_
  ·exact sli_of17 HLZ.out
  ·cases hp_
end
section
open Go.RowKit
def many (k:Nat)(last:Int):Nat:=if k=0 then last.toNat else if last=1 then 1 else if k=2/\last=2 then 1 else 0
def repS (f:WS->WS):Nat->WS->WS
 |0,s=>s
 |m+1,s=>if s.e≠0 then s else repS f m (f s)
mutual
def runN:Nd->Int->WS->Int×WS
 | .v n,_,s=>oneS n s
 | .g k b,last,s=>(last,repS (fun s=>runL b 0 s) (many k last) s)
def runL:List Nd->Int->WS->WS
 |[],_,s=>s
 |x::l,last,s=>if s.e≠0 then s else runL l (runN x last s).1 (runN x last s).2
end
mutual
def noN:Nd->Bool
 | .v n=>decide (n≠7)
 | .g _ b=>noL b
def noL:List Nd->Bool
 |[]=>true
 |x::l=>noN x &&noL l
end
mutual
def goodN:Nd->Bool
 | .v n=>decide (n<96)
 | .g k b=>decide (k<3) &&(goodL b &&noL b)
def goodL:List Nd->Bool
 |[]=>true
 |x::l=>goodN x &&goodL l
end
def c7:List Nd->Nat
 |[]=>0
 | .v n::l=>(if n=7 then 1 else 0)+c7 l
 | .g _ _::l=>c7 l
structure Inv (s:WS) (slack:Nat):Prop where
 b:s.bits.length<=1000000
 v:s.V.length<=1000000
 g:s.got.length<=s.out.length
 o:s.out.length+(if s.rd=true then s.bits.length else s.V.length)+slack<=1000000
theorem inv_keep (v n:Int)(s:WS)(k:Nat)(h:Inv s (k+1)):Inv (keep v n s) k:=by
 obtain⟨h1,h2,h3,h4⟩:=h;unfold keep;split
 ·exact⟨h1,h2,by simp;omega,by simp only[List.length_append,List.length_singleton];omega⟩
 ·split
  ·exact⟨h1,h2,by simp;omega,by simp only[List.length_append,List.length_singleton];omega⟩
  ·exact⟨h1,h2,by simp;omega,by simp only[List.length_append,List.length_singleton];omega⟩
theorem qcV {s:WS}{k k':Nat}(h:Inv s k)(hk:k'<=k):Inv s k':=⟨h.b,h.v,h.g,by have:=h.o;omega⟩
theorem inv_err {s:WS}{k:Nat}(h:Inv s k)(e:Int):Inv {s with e:=e} k:=⟨h.b,h.v,h.g,h.o⟩
theorem inv_fetch (v:Int)(hv0:0<=v)(hv1:v<96)(s:WS)(k:Nat)(h:Inv s (k+if v=7 then 1 else 0))(he:(fetch v s).2.e=0):Inv (fetch v s).2 (k+1):=by
 obtain⟨w1,w2⟩:=width_one v hv0 hv1;obtain⟨h1,h2,h3,h4⟩:=h
 revert he
 unfold fetch;by_cases hr:s.rd=true
 ·rw[if_pos hr]
  rw[if_pos hr]at h4;by_cases hs:s.bits.length<qak v
  ·rw[if_pos hs]
   intro he;exact absurd he (by show(10:Int)≠0;decide)
  ·rw[if_neg hs]
   have hl:(s.bits.drop (qak v)).length+1<=s.bits.length:=by rw[List.length_drop];omega
   exact fun _=>⟨by show(s.bits.drop (qak v)).length<=_;omega,h2,h3,by show s.out.length+(if s.rd=true then(s.bits.drop (qak v)).length else s.V.length)+(k+1)<=_;rw[if_pos hr];omega⟩
 ·rw[if_neg hr]
  rw[if_neg hr]at h4;by_cases h7:v=7
  ·rw[if_pos h7]
   rw[if_pos h7]at h4;exact fun _=>⟨h1,h2,h3,by show s.out.length+(if s.rd=true then s.bits.length else s.V.length)+(k+1)<=_;rw[if_neg hr];omega⟩
  ·rw[if_neg h7]
   rw[if_neg h7]at h4;by_cases hV:s.V=[]
   ·rw[if_pos hV]
    intro he;exact absurd he (by show(20:Int)≠0;decide)
   ·rw[if_neg hV]
    obtain⟨V0,VT,hVc⟩:=List.exists_cons_of_ne_nil hV;have hl:s.V.tail.length+1=s.V.length:=by rw[hVc];simp
    exact fun _=>⟨h1,by show s.V.tail.length<=_;omega,h3,by show s.out.length+(if s.rd=true then s.bits.length else s.V.tail.length)+(k+1)<=_;rw[if_neg hr];omega⟩
theorem inv_fetch_bad (v:Int)(s:WS)(k:Nat)(h:Inv s k)(he:(fetch v s).2.e≠0)(h0:s.e=0):Inv (fetch v s).2 k:=by
 revert he
 unfold fetch;split
 ·split
  ·exact fun _=>inv_err h _
  ·exact fun he=>absurd h0 he
 ·split
  ·exact fun he=>absurd h0 he
  ·split
   ·exact fun _=>inv_err h _
   ·exact fun he=>absurd h0 he
theorem inv_one (v:Int)(hv0:0<=v)(hv1:v<96)(s:WS)(k:Nat)(h:Inv s (k+if v=7 then 1 else 0)):Inv (oneS v s).2 k:=by
 unfold oneS;by_cases he:s.e≠0
 ·rw[if_pos he]
  exact qcV h (by omega)
 ·rw[if_neg he]
  by_cases hf:(fetch v s).2.e≠0
  ·rw[if_pos hf]
   exact qcV (inv_fetch_bad v s _ h hf (by omega)) (by omega)
  ·rw[if_neg hf]
   have hi:=inv_fetch v hv0 hv1 s k h (by omega);split
   ·exact inv_err (qcV hi (by omega)) _
   ·exact inv_keep v _ _ k hi
theorem inv_rep (f:WS->WS)(k:Nat)(hf: ∀s,Inv s k->Inv (f s) k): ∀(m:Nat) (s:WS),Inv s k->Inv (repS f m s) k
 |0,s,h=>h
 |m+1,s,h=>by
  rw[repS];split
  ·exact h
  ·exact inv_rep f k hf m _ (hf s h)
theorem noL_c7: ∀b:List Nd,noL b=true->c7 b=0
 |[],_=>rfl
 | .v n::l,h=>by
  simp only[noL,noN,Bool.and_eq_true,decide_eq_true_eq]at h;rw[c7,if_neg h.1,noL_c7 l h.2]
 | .g _ _::l,h=>by
  simp only[noL,Bool.and_eq_true]at h;rw[c7,noL_c7 l h.2]
theorem inv_oneN (n:Nat)(hn:n<96)(s:WS)(k:Nat)(h:Inv s (k+if n=7 then 1 else 0)):Inv (oneS n s).2 k:=by
 refine inv_one n (by omega) (by omega) s k ?_;by_cases h7:n=7
 ·subst h7;exact h
 ·rw[if_neg (by omega)];rw[if_neg h7]at h;exact h
mutual
theorem inv_runN: ∀(x:Nd) (l:List Nd) (last:Int) (s:WS) (k:Nat),goodN x=true->Inv s (k+c7 (x::l))->Inv (runN x last s).2 (k+c7 l)
 | .v n,l,last,s,k,hg,h=>by
  simp only[goodN,decide_eq_true_eq]at hg;rw[c7]at h;simp only[runN];exact inv_oneN n hg s _ (qcV h (by omega))
 | .g kk b,l,last,s,k,hg,h=>by
  simp only[goodN,Bool.and_eq_true,decide_eq_true_eq]at hg;rw[c7]at h;simp only[runN];refine inv_rep _ _ (fun s hs=>?_) _ _ h;exact qeY b 0 s _ hg.2.1 (by rw[noL_c7 b hg.2.2];exact hs)
theorem qeY: ∀(b:List Nd) (last:Int) (s:WS) (k:Nat),goodL b=true->Inv s (k+c7 b)->Inv (runL b last s) k
 |[],last,s,k,hg,h=>by simp only[runL];exact qcV h (by omega)
 |x::l,last,s,k,hg,h=>by
  simp only[goodL,Bool.and_eq_true]at hg;simp only[runL];split
  ·exact qcV h (by omega)
  ·exact qeY l _ _ k hg.2 (inv_runN x l last s k hg.1 h)
end
end
section
open Go.RowKit
structure StrSl (w:World) (A:Option Addr) (n c:Nat) (l:List ByteArray):Prop where
 len:l.length=n
 cap:n<=c
 sl:Sl w 1 A n c (strs l)
 row: ∀a,A=some a-> ∃cs fr,w.heap[a.block]?=some (.cells cs 9 fr)
theorem StrSl.keep {w w':World}{A:Option Addr}{n c:Nat}{l:List ByteArray}(h:StrSl w A n c l)(k:KeepStr w w'):StrSl w' A n c l:=by
 refine⟨h.len,h.cap,⟨h.sl.1,h.sl.2.1,fun ad ha j u hu=>?_⟩,fun a ha=>?_⟩
 ·obtain⟨cs,fr,hr⟩:=h.row ad ha
  have h0:=h.sl.2.2 ad ha j u hu;rw[World.cell?_of_block (w:=w) (by rw[add_block,hr];exact k _ _ _ hr)];exact h0
 ·obtain⟨cs,fr,hr⟩:=h.row a ha
  exact⟨cs,fr,k _ _ _ hr⟩
theorem StrSl.of_own {base:Nat}{w:World}{A:Option Addr}{n c:Nat}{l:List ByteArray}(h:OwS base w A n c l):StrSl w A n c l:=by
 have hs:=Sl.of_own h;refine⟨by have:=hs.1;rw[qfQ]at this;omega,?_,hs,fun a ha=>?_⟩
 ·rcases h.2 with⟨e,e2⟩|⟨g,cap,cur,e,_,_,e2,_⟩
  ·omega
  ·injection e with _ _ e3;omega
 ·rcases h.2 with⟨e,_⟩|⟨g,cap,cur,e,_,hh,_⟩
  ·injection e with e;rw[e]at ha;cases ha
  ·injection e with e
   rw[e]at ha;injection ha with ha
   subst ha;exact⟨_,_,hh⟩
theorem StrSl.part {w:World}{A:Option Addr}{n c:Nat}{pre mid post:List ByteArray}(h:StrSl w A n c (pre++mid++post)):StrSl w (if c=pre.length then A else A.map (·.add (pre.length*1))) mid.length (c-pre.length) mid:=by
 have hl:=h.len;have hc:=h.cap;simp only[List.length_append]at hl;have h1:=h.sl.from_ hc (p:=pre.length) (by omega);have e1:(strs (pre++mid++post)).drop pre.length=strs mid++strs post:=by simp[strs]
 rw[e1]at h1;refine⟨rfl,by omega,⟨by rw[qfQ];omega,fun e=>?_,fun ad ha j u hu=>?_⟩,fun a ha=>?_⟩
 ·have:=h1.2.1 e;omega
 ·refine h1.2.2 ad ha j u ?_
  have hj:=(List.getElem?_eq_some_iff.1 hu).1;rw[List.getElem?_append_left hj];exact hu
 ·obtain⟨a0,h2,h3⟩:=qgh a ha
  rw[h3];exact h.row a0 h2
mutual
def szN:Nd->Nat
 | .v _=>1
 | .g _ b=>1+szL b
def szL:List Nd->Nat
 |[]=>0
 |x::l=>szN x+szL l
end
theorem szL_append (a b:List Nd):szL (a++b)=szL a+szL b:=by
 induction a with
 |nil=>simp[szL]
 |cons x l ih=>simp[szL,ih];omega
theorem may_small (v:Nat)(hv:v<96)(n:Int)(h:mayOf v n=true):n<=4294967296:=by
 have h1:=List.all_eq_true.1 (show(List.range 96).all (fun v=>decide (qbu (v:Int)<=4294967296) &&decide (qbe (v:Int)<=4294967296))=true from by kernel_rfl) v (List.mem_range.2 hv);simp only[Bool.and_eq_true,decide_eq_true_eq]at h1;unfold mayOf at h;simp only[Bool.and_eq_true,Bool.or_eq_true,decide_eq_true_eq]at h;omega
end
section
open Go.RowKit
structure SlP (w:World) (A:Option Addr) (m c:Nat) (l:List (Int×Int)):Prop where
 len:l.length=m
 sl:Sl w 2 A m c (pairs l)
theorem SlP.under {w w':World}{A:Option Addr}{m c:Nat}{l:List (Int×Int)}(h:SlP w A m c l)(hb:Below w.heap.size w w'):SlP w' A m c l:=⟨h.len,h.sl.under hb⟩
theorem pairs_at: ∀(l:List (Int×Int)) (j:Nat),j<l.length->(pairs l)[j*2]?=some (.int .i64 (l.getD j (0,0)).1)/\(pairs l)[j*2+1]?=some (.int .i64 (l.getD j (0,0)).2)
 |[],j,h=>absurd h (by simp)
 |x::l,0,_=>⟨rfl,rfl⟩
 |x::l,j+1,h=>by
  have e:pairs (x::l)= .int .i64 x.1:: .int .i64 x.2::pairs l:=rfl;have ih:=pairs_at l j (by simpa using h);rw[e,show(j+1)*2=j*2+1+1 by omega,List.getElem?_cons_succ,List.getElem?_cons_succ,List.getElem?_cons_succ,List.getElem?_cons_succ];exact ih
theorem SlP.at_ {w:World}{A:Option Addr}{m c:Nat}{l:List (Int×Int)}(h:SlP w A m c l){j:Nat}(hj:j<m):
  ∃b off,A=some ⟨b,off,none⟩/\w.cell? ⟨b,off+j*2,none⟩=some (.int .i64 (l.getD j (0,0)).1)/\w.cell? ⟨b,off+j*2+1,none⟩=some (.int .i64 (l.getD j (0,0)).2):=by
 obtain⟨p1,p2⟩:=pairs_at l j (by have:=h.len;omega);obtain⟨b,off,e,h1⟩:=h.sl.at_ p1;obtain⟨b',off',e',h2⟩:=h.sl.at_ p2;subst e;simp only[Option.some.injEq,Addr.mk.injEq,and_true]at e';obtain⟨rfl,rfl⟩:=e';exact⟨b,off,rfl,h1,by rw[Nat.add_assoc];exact h2⟩
def qaz (l:List (Int×Int)):Int:=l.foldl (fun n x=>n+x.2) 0
theorem qey (l:List (Int×Int))(x:Int×Int):qaz (l++[x])=qaz l+x.2:=by simp[qaz]
end
section
open Go.RowKit
structure SlN (w:World) (A:Option Addr) (m c:Nat) (l:List Int):Prop where
 len:l.length=m
 sl:Sl w 1 A m c (ints l)
theorem SlN.under {w w':World}{A:Option Addr}{m c:Nat}{l:List Int}(h:SlN w A m c l)(hb:Below w.heap.size w w'):SlN w' A m c l:=⟨h.len,h.sl.under hb⟩
theorem SlN.draws {w:World}{A:Option Addr}{m c:Nat}{l:List Int}(h:SlN w A m c l)(n:Nat):SlN (w.drewN n) A m c l:=⟨h.len,h.sl.draws n⟩
theorem ints_at {l:List Int}{j:Nat}(h:j<l.length):(ints l)[j]?=some (.int .i64 (l.getD j 0)):=by
 simp[ints,List.getD_eq_getElem?_getD,List.getElem?_eq_getElem h]
theorem SlN.at_ {w:World}{A:Option Addr}{m c:Nat}{l:List Int}(h:SlN w A m c l){j:Nat}(hj:j<m): ∃b off,A=some ⟨b,off,none⟩/\w.cell? ⟨b,off+j,none⟩=some (.int .i64 (l.getD j 0)):=
 h.sl.at_ (ints_at (by have:=h.len;omega))
end
section
open Go.RowKit
def pkV (id:Int)(A:Option Addr)(n c:Nat):Value:= .agg #[.int .i64 id,.slice A n c]
theorem SlP.draws {w:World}{A:Option Addr}{m c:Nat}{l:List (Int×Int)}(h:SlP w A m c l)(n:Nat):SlP (w.drewN n) A m c l:=⟨h.len,h.sl.draws n⟩
end
section
open Go.RowKit
open BitsM
def qaA (l:List (Int×Int)):List Bool:=l.flatMap fun x=>wbits x.1.toNat x.2.toNat x.2.toNat
def FitP (x:Int×Int):Prop:=0<=x.1/\x.1<4294967296/\1<=x.2/\x.2<=32
end
end Go.Proofs.YtahadmeilajdgaaGreatDoor
