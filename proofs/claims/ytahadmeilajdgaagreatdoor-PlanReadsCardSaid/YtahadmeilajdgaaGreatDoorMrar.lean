/-
  Our own text, joined.
-/
import Derived.Test.YtahadmeilajdgaaGreatDoorMraq
import Derived.BigQuiet
import Derived.IntWalk
import Derived.Test.YtahadmeilajdgaaGreatDoorMraa
import Derived.Test.YtahadmeilajdgaaGreatDoorMrac
import Derived.Test.YtahadmeilajdgaaGreatDoorMraf
namespace Go.Proofs.YtahadmeilajdgaaGreatDoor
set_option maxRecDepth 100000
set_option maxHeartbeats 80000000
section
open Go.RowKit
open Go.Great
theorem bad_own17 {n G:Int}{raw:List Sc3}{m:Nat}{z:Sc3}(hm:raw.length=m+1)(hz:(lessB G raw)[m]?=some z):
  (m=0->badB n G raw=decide (z.to_<=n))/\ ∀(j:Nat) (y:Sc3),m=j+1->(lessB G raw)[j]?=some y->badB n G raw=(decide (z.to_<=n)||decide (z.to_<=y.to_)):=by
 have hd:raw.dropLast.length=m:=by rw[List.length_dropLast,hm];rfl
 unfold lessB at hz⊢;rw[List.getElem?_append_right (by omega),hd,Nat.sub_self]at hz;injection hz with hz
 subst hz;dsimp only;refine⟨fun h0=>?_,fun j y hj hy=>?_⟩
 ·unfold badB
  have h1:raw.dropLast=[]:=List.eq_nil_of_length_eq_zero (by omega);rw[h1];simp
 ·unfold badB
  rw[List.getElem?_append_left (by omega)]at hy;have h1:raw.dropLast.getLast?=some y:=by rw[List.getLast?_eq_getElem?,hd,hj];exact hy
  rw[h1]
theorem qf5 {L:List Sc3}{y:Sc3}(h:L[0]?=some y):qaX L=if y.to_=0 then L.drop 1 else L:=by
 cases L with
 |nil=>cases h
 |cons x r=>
  injection h with h
  subst h;exact fromOne_cons x r
theorem build_err17 {t:Tp3}{l:List Lc3}{train ref:Int}{rev:Bool}{n:Int}(h:(locE t ref rev n).2≠0):qdY t l train ref rev n=(noMa,(locE t ref rev n).2):=by
 unfold qdY;rw[if_pos h]
theorem build_go17 {t:Tp3}{l c:List Lc3}{train ref:Int}{rev:Bool}{n:Int}{x p:Ps3}(hl:locE t ref rev n=(x,0))(hp:qbf t ⟨ref,rev,[],[],0⟩=p)(hc:qc3 t l train (stepP x)=c):
  qdY t l train ref rev n=if c.isEmpty=true then(noMa,4)else if(decide (24<(fullB t (goneL t p n) (stepP x) c).length)||qa6 (fullB t (goneL t p n) (stepP x) c))=true then(noMa,2)
   else if badB n (gapC t c) (rawB t (intoP t p) (goneL t p n) (stepP x) c)=true then(noMa,141)else(⟨ref,rev,fullB t (goneL t p n) (stepP x) c,qaX (lessB (gapC t c) (rawB t (intoP t p) (goneL t p n) (stepP x) c)),gapC t c⟩,0):=by
 unfold qdY;rw[hl];dsimp only;rw[if_neg (by simp),hp,hc]
theorem raw_len17 {t:Tp3}{b0:Int}{g:List St3}{s:St3}(c:List Lc3):(rawB t b0 g s c).length=c.length:=by
 have h: ∀(r:List Lc3) (g:List St3),(qes t b0 g r).length=r.length:=fun r=>by
  induction r with
  |nil=>intro g;rfl
  |cons k r ih=>intro g;rw[qes,List.length_cons,List.length_cons,ih]
 cases c with
 |nil=>rfl
 |cons k r=>rw[rawB,List.length_cons,List.length_cons,h]
theorem opn_build (t:Tp3)(a:TpA)(l:List Lc3)(train ref:Int)(rev:Bool)(n:Int)(A:Option Addr)(nl c:Nat)(w:World)(ht:TopR w t a)(hl:qaJ t=true)(hcj:t.joints.length<=a.cj)(hs:SlO lcC 3 w A nl c l)(hc:nl<=c)(hn:nl<=100):Calls Tryz.prog 14 #[.agg (tpC t a),.slice A nl c,.int .i64 train,.int .i64 ref,.bool rev,.int .i64 n] w fun r w'=> ∃b,r= .returned (.tuple #[.agg (maC (qdY t l train ref rev n).1 b),.int .i64 (qdY t l train ref rev n).2])/\MaR w' (qdY t l train ref rev n).1 b/\Below w.heap.size w w':=by
 have HLO:=zq (fun W (hW:Below w.heap.size w W)=>qcg t a ref rev n W (ht.under hW) hl hcj);have HCH:=zq (fun W (hW:Below w.heap.size w W) s=>opn_chain t a l train s A nl c W (ht.under hW) hl hcj (hs.under hW) hc hn);have HAU:=zq (fun W (hW:Below w.heap.size w W) c x p A cn cc hs hcp hc0 hc8 hloc hw=>opauth_any t a l c train ref rev n x p A cn cc W (ht.under hW) hl hcj hs hcp hc0 hc8 hloc hw);obtain⟨M,E,hB⟩: ∃M e,qdY t l train ref rev n=(M,e):=⟨_,_,rfl⟩
 have HBE:=zq hB;rw[hB];dsimp only;obtain⟨x,e,hloc⟩: ∃x e,locE t ref rev n=(x,e):=⟨_,_,rfl⟩
 have HLOC:=zq hloc;rw[hloc]at HLO;obtain⟨xe,xa,xr⟩:=x;unfold psA at HLO;dsimp only at HLO;obtain⟨wa,hwa,hbwa,HWA,HBWA,h0,h1⟩:=bx2Z w 27 (tpC t a) 38 #[.int .i64 0,.bool false,.slice none 0 0,.slice none 0 0,.int .i64 0];have H0:=zH h0;have H1:=zH h1;have HSO:=zq (fun W=>qcG ⟨xe,xa,xr⟩ W);unfold psA stA13 stepP at HSO;dsimp only at HSO;have HLT:=zq hl;clear hwa hbwa h0 h1 ht hl hcj hs hc hn hB hloc;go_enter Tryz.func14,Tryz.ntmps14;go_upto_region 1 with fail;rw[HWA.out];clear HWA;go_wp2_with (with_reducible refine ldZ 20 (H0.out wa (Below.refl _ _)) ?_);refine(HLO.out wa HBWA.out).mono ?_;rintro e_ w1 ⟨rfl,hb1⟩;have HB1:=zq hb1;clear hb1;go_upto_region 2 with fail;obtain⟨w2,hw2⟩:=geZ (w1.alloc (.cells #[.int .i64 xe,.int .i64 xa,.bool xr] 51));rw[hw2];have HB2:=zq (show Below wa.heap.size wa w2 from by rw[<-hw2];exact HB1.out.alloc HB1.out.size _);have hH:Has w2 w1.heap.size 51 #[.int .i64 xe,.int .i64 xa,.bool xr]:=by rw[<-hw2];exact Has.made _ _ _
 obtain⟨gP,hgP⟩: ∃g,w1.heap.size=g:=⟨_,rfl⟩
 rw[hgP]at hH;simp only[hgP];have HHP:=zH hH;have HX2:=zq (fun W (hW:Below w2.heap.size w2 W)=>HB2.out.trans (hW.mono HB2.out.size));clear hw2 hH hgP HB1;by_cases z0:e=0;rotate_left
 ·have q0:(e !=0)=true:=by simp[z0]
  obtain⟨rfl,rfl⟩:M=noMa/\E=e:=by have h_:=HBE.out;rw[build_err17 (by rw[HLOC.out];exact z0),HLOC.out]at h_;injection h_ with h1_ h2_;exact⟨h1_.symm,h2_.symm⟩
  clear z0;have HZ:=zq (H1.out w2 HB2.out);have HR:=zq (qab HZ.out #[.int .i64 0,.bool false,.slice none 0 0,.slice none 0 0,.int .i64 0]);have HBF:=zq (qac (g:=w.heap.size+1) (HBWA.out.trans (HB2.out.mono HBWA.out.size)) (by omega) #[.int .i64 0,.bool false,.slice none 0 0,.slice none 0 0,.int .i64 0]);go_wp2_with (with_reducible refine stZ #[.int .i64 0,.bool false,.slice none 0 0,.slice none 0 0,.int .i64 0] HZ.out ?_);refine rtZ HR.out ?_;exact⟨⟨none,0,none,0⟩,rfl,⟨SlO.nil _ _ _,SlO.nil _ _ _,Nat.le_refl _,Nat.le_refl _,fun s hs=>by cases hs⟩,HBF.out⟩
 subst z0;have q0:((0:Int) !=0)=false:=rfl;obtain⟨p,hl0,hwk,hpl⟩:=loc_group17 HLOC.out;obtain⟨ch,hch⟩: ∃c,qc3 t l train (stepP ⟨xe,xa,xr⟩)=c:=⟨_,rfl⟩
 have HCP:=zq (show ChainP t l train (stepP ⟨xe,xa,xr⟩) ch/\ch.length<=8 from by rw[<-hch];exact chain_p _ _ _ _);have HBE:=zq ((build_go17 HLOC.out hpl hch).symm.trans HBE.out);have HCS:=zq (fun W (hW:Below w.heap.size w W)=>HCH.out W hW (stepP ⟨xe,xa,xr⟩));rw[hch]at HCS;obtain⟨cn,hcn⟩: ∃m,ch.length=m:=⟨_,rfl⟩
 rw[hcn]at HCS HCP;have HCN:=zq hcn;have HL0:=zq hl0;have HWK:=zq hwk;unfold stA13 stepP at HCS;dsimp only at HCS;clear hl0 hwk hpl hch hcn HCH HLO;go_upto_region 4 with fail;clear q0;refine wp_region_held_drew (S:=(fun W_=>(Has W_ (w.heap.size) 27 (tpC t a))/\(Has W_ (gP) 51 #[.int .i64 xe,.int .i64 xa,.bool xr])/\(Below w2.heap.size w2 W_))) (by kernel_rfl) ?_ (fun hHeld=>?_)
 ·exact⟨(H0.out _ HB2.out).draw,(HHP.out _ (Below.refl _ _)).draw,qah (Below.refl _ _)⟩
 refine tlZ 0 31 w.heap.size (tpC t a) (fun _ ⟨h_,_,_⟩=>h_) (h:=?_);simp only[lyZ];refine tkZ 1 32 (h:=?_);simp only[lyZ];refine tkZ 2 33 (h:=?_);simp only[lyZ];refine tlZ 3 34 gP #[.int .i64 xe,.int .i64 xa,.bool xr] (fun _ ⟨_,h_,_⟩=>h_) (h:=?_);simp only[lyZ];refine aoZ 4 (some 35) (fun K hK=>?_);go_simp;obtain⟨s0,s1,s2⟩:=hHeld;refine(HSO.out _).mono ?_;rintro e_ q1 ⟨rfl,hb_⟩;go_wp2_with fail;refine hK.out _ _ ?_ (fun hHeld=>?_)
 ·exact⟨s0.u hb_,s1.u hb_,bu s2 hb_⟩
 clear hK K s0 s1 s2
 try simp only[lyZ]
 refine aoZ 5 (some 36) (fun K hK=>?_);go_simp;obtain⟨s0,s1,s2⟩:=hHeld;refine(HCS.out _ (HBWA.out.trans ((HX2.out _ s2).mono HBWA.out.size))).mono ?_;rintro e_ q2 ⟨CX,cx,rfl,hlk_,hb2_⟩;have HLK:=zq hlk_;go_wp2_with fail;refine hK.out _ _ ?_ (fun hHeld=>?_)
 ·exact⟨s0.u hb2_,s1.u hb2_,bu s2 hb2_⟩
 clear hK K s0 s1 s2
 try simp only[lyZ]
 refine tkZ 6 16 (h:=?_);simp only[lyZ];refine dnZ ?_;obtain⟨w3,hw3⟩: ∃u,u=q2:=⟨_,rfl⟩
 subst hw3;have HB3:=zq (HX2.out _ hHeld.2.2);clear hHeld HSO HCS HHP;by_cases z1:cn=0
 ·have q1:((cn:Int)==0)=true:=by simp[z1]
  have q2:(cn:Int)=0:=by omega
  have HCE:=zq (show ch=[]from List.eq_nil_of_length_eq_zero (by rw[HCN.out];exact z1));clear z1;obtain⟨rfl,rfl⟩:M=noMa/\E=4:=by have h_:=HBE.out;rw[if_pos (by rw[HCE.out];rfl)]at h_;injection h_ with h1_ h2_;exact⟨h1_.symm,h2_.symm⟩
  have HZ:=zq (H1.out w3 HB3.out);have HR:=zq (qab HZ.out #[.int .i64 0,.bool false,.slice none 0 0,.slice none 0 0,.int .i64 0]);have HBF:=zq (qac (g:=w.heap.size+1) (HBWA.out.trans (HB3.out.mono HBWA.out.size)) (by omega) #[.int .i64 0,.bool false,.slice none 0 0,.slice none 0 0,.int .i64 0]);go_wp2_with (with_reducible refine stZ #[.int .i64 0,.bool false,.slice none 0 0,.slice none 0 0,.int .i64 0] HZ.out ?_);refine rtZ HR.out ?_;exact⟨⟨none,0,none,0⟩,rfl,⟨SlO.nil _ _ _,SlO.nil _ _ _,Nat.le_refl _,Nat.le_refl _,fun s hs=>by cases hs⟩,HBF.out⟩
 have q1:((cn:Int)==0)=false:=by simp;omega
 have q2: ¬(cn:Int)=0:=by omega
 have HC0:=zq (show ch≠[]from fun h_=>by have h2_:=HCN.out;rw[h_]at h2_;simp at h2_;omega);have HBE:=zq (by have h_:=HBE.out;rw[if_neg (by cases hq_:ch with|nil=>exact absurd hq_ HC0.out|cons _ _=>simp)]at h_;exact h_);have HRL:=zq ((raw_len17 (t:=t) (b0:=intoP t p) (g:=goneL t p n) (s:=stepP ⟨xe,xa,xr⟩) ch).trans HCN.out);have HC1:=zq (show 1<=cn/\cn<=8 from by have:=HCP.out.2;omega);have HAW:=zq (HAU.out w3 (HBWA.out.trans (HB3.out.mono HBWA.out.size)) ch ⟨xe,xa,xr⟩ p CX cn cx HLK.out.1 HCP.out.1 HC0.out (by rw[HCN.out];exact HC1.out.2) HL0.out HWK.out);have HLL:=zq ((qga (g:=gapC t ch) (l:=rawB t (intoP t p) (goneL t p n) (stepP ⟨xe,xa,xr⟩) ch) (fun e_=>by have h_:=HRL.out;rw[e_]at h_;simp at h_;have:=HC1.out;omega)).trans HRL.out);obtain⟨raw,hraw⟩: ∃r,rawB t (intoP t p) (goneL t p n) (stepP ⟨xe,xa,xr⟩) ch=r:=⟨_,rfl⟩
 obtain⟨PF,hPF⟩: ∃r,fullB t (goneL t p n) (stepP ⟨xe,xa,xr⟩) ch=r:=⟨_,rfl⟩
 obtain⟨G,hG⟩: ∃r,gapC t ch=r:=⟨_,rfl⟩
 rw[hraw]at HBE HRL HAW HLL;rw[hPF]at HBE HAW;rw[hG]at HBE HAW HLL;obtain⟨LF,hLF⟩: ∃r,lessB G raw=r:=⟨_,rfl⟩
 have HLF:=zq hLF;rw[hLF]at HBE HAW HLL;clear hraw hPF hG hLF z1 HCP HC0 HL0 HWK HAU HLK;go_upto_region 7 with fail;clear q1 q2;go_wp2_with (with_reducible refine ldZ 41 (H0.out w3 HB3.out) ?_);refine HAW.out.mono ?_;rintro e_ w4 ⟨b,rfl,hm4,hb4,hpo,hso⟩;obtain⟨AP,PC,AQ,CS⟩:=b;unfold maC;have hcP:=hm4.capP;have hcS:=hm4.capS;have htop:=hm4.top;dsimp only at hpo hso hcP hcS htop⊢;obtain⟨pn,hpn⟩: ∃m,PF.length=m:=⟨_,rfl⟩
 rw[hpn]at hpo hcP⊢;rw[HLL.out]at hso hcS⊢;have HG1:=zq (show w.heap.size+1<w3.heap.size from(H1.out w3 HB3.out).lt);have HPN:=zq hpn;have HB4:=tB HB3 hb4;clear hm4 hb4 hpn HAW HB3;obtain⟨k,hk⟩: ∃k,cn=k+1:=⟨cn-1,by have:=HC1.out;omega⟩
 subst hk;have HK8:=zq (show k<8 from by have:=HC1.out;omega);have hk8:k<8:=HK8.out;go_upto_region 8 with fail;obtain⟨w5,hw5⟩: ∃u,w4.alloc (.cells #[.int .i64 ref,.bool rev,.slice AP pn PC,.slice AQ (k+1) CS,.int .i64 G] 38)=u:=⟨_,rfl⟩
 rw[hw5];have hH5:Has w5 w4.heap.size 38 #[.int .i64 ref,.bool rev,.slice AP pn PC,.slice AQ (k+1) CS,.int .i64 G]:=by rw[<-hw5];exact Has.made _ _ _
 have hb5:Below w4.heap.size w4 w5:=by rw[<-hw5];exact bA
 obtain⟨gm,hgm⟩: ∃g,w4.heap.size=g:=⟨_,rfl⟩
 have hgm2:wa.heap.size<=gm:=by rw[<-hgm];exact HB4.out.size
 rw[hgm]at hH5;simp only[hgm];have HB5:=tB HB4 hb5;have HM5:=zH hH5;have HP5:=zq (fun W (hW:Below w5.heap.size w5 W)=>(hpo.under hb5).under hW);have HS5:=zq (fun W (hW:Below w5.heap.size w5 W)=>(hso.under hb5).under hW);have HX5:=zq (fun W (hW:Below w5.heap.size w5 W)=>HB5.out.trans (hW.mono HB5.out.size));have HCC:=zq (show pn<=PC/\k+1<=CS from⟨hcP,hcS⟩);have HTOP:=zq htop;clear hw5 hH5 hb5 hpo hso hcP hcS htop HB4 hgm;have m2:w5.cell? ⟨gm,2,none⟩=some (.slice AP pn PC):=(HM5.out w5 (Below.refl _ _)).cell 2;have m3:w5.cell? ⟨gm,3,none⟩=some (.slice AQ (k+1) CS):=(HM5.out w5 (Below.refl _ _)).cell 3;go_upto_region 9 with fail;by_cases z1:24<pn
 ·have z2:(24:Int)<pn:=by omega
  have HZ1:=zq z1;clear z1;obtain⟨rfl,rfl⟩:M=noMa/\E=2:=by have h_:=HBE.out;rw[if_pos (by rw[HPN.out,decide_eq_true HZ1.out];rfl)]at h_;injection h_ with h1_ h2_;exact⟨h1_.symm,h2_.symm⟩
  have HZ:=zq (H1.out w5 HB5.out);have HR:=zq (qab HZ.out #[.int .i64 0,.bool false,.slice none 0 0,.slice none 0 0,.int .i64 0]);have HBF:=zq (qac (g:=w.heap.size+1) (HBWA.out.trans (HB5.out.mono HBWA.out.size)) (by omega) #[.int .i64 0,.bool false,.slice none 0 0,.slice none 0 0,.int .i64 0]);go_wp2_with (with_reducible refine stZ #[.int .i64 0,.bool false,.slice none 0 0,.slice none 0 0,.int .i64 0] HZ.out ?_);refine rtZ HR.out ?_;exact⟨⟨none,0,none,0⟩,rfl,⟨SlO.nil _ _ _,SlO.nil _ _ _,Nat.le_refl _,Nat.le_refl _,fun s hs=>by cases hs⟩,HBF.out⟩
 have z2: ¬(24:Int)<pn:=by omega
 have HP24:=zq (show pn<=24 from by omega);clear z1;obtain⟨tw,htw⟩: ∃b,qa6 PF=b:=⟨_,rfl⟩
 have HRE:=zq (oprep_any PF AP pn PC w5 (HP5.out w5 (Below.refl _ _)).sl (by have:=HP24.out;omega) HCC.out.1);rw[htw]at HRE HBE;rw[HPN.out,decide_eq_false (show¬24<pn from by have:=HP24.out;omega),Bool.false_or]at HBE;clear htw;go_wp2_with fail;refine HRE.out.mono ?_;rintro e_ w6 ⟨rfl,hb6⟩;have HB6:=zq hb6;clear hb6 HRE m2 m3 z2
 cases tw with
 |true=>
  obtain⟨rfl,rfl⟩:M=noMa/\E=2:=by have h_:=HBE.out;rw[if_pos rfl]at h_;injection h_ with h1_ h2_;exact⟨h1_.symm,h2_.symm⟩
  have HZ:=zq (H1.out w6 (HX5.out w6 HB6.out));have HR:=zq (qab HZ.out #[.int .i64 0,.bool false,.slice none 0 0,.slice none 0 0,.int .i64 0]);have HBF:=zq (qac (g:=w.heap.size+1) (HBWA.out.trans ((HX5.out w6 HB6.out).mono HBWA.out.size)) (by omega) #[.int .i64 0,.bool false,.slice none 0 0,.slice none 0 0,.int .i64 0]);go_wp2_with (with_reducible refine stZ #[.int .i64 0,.bool false,.slice none 0 0,.slice none 0 0,.int .i64 0] HZ.out ?_);refine rtZ HR.out ?_;exact⟨⟨none,0,none,0⟩,rfl,⟨SlO.nil _ _ _,SlO.nil _ _ _,Nat.le_refl _,Nat.le_refl _,fun s hs=>by cases hs⟩,HBF.out⟩
 |false=>
 have HBE:=zq (by have h_:=HBE.out;rw[if_neg (by decide)]at h_;exact h_);obtain⟨z,hz⟩:=glZ LF (k) (by rw[HLL.out];omega);obtain⟨hbad0,hbad1⟩:=bad_own17 (n:=n) (G:=G) HRL.out (by rw[HLF.out];exact hz);rw[HLF.out]at hbad1;have HBD0:=zq hbad0;have HBD1:=zq hbad1;have m3:w6.cell? ⟨gm,3,none⟩=some (.slice AQ (k+1) CS):=(HM5.out w6 HB6.out).cell 3;obtain⟨bs,os,rfl,d0,-⟩:=(HS5.out w6 HB6.out).sl.sect hz;obtain⟨y0_,hy0⟩: ∃z,LF[0]?=some z:=⟨_,List.getElem?_eq_getElem (by rw[HLL.out];omega)⟩
 have HY0:=zq hy0;obtain⟨zt,hzt⟩: ∃q,z.to_=q:=⟨_,rfl⟩
 rw[hzt]at d0 hbad0 hbad1 HBD0 HBD1;have v1:(0:Int)<=(k:Int):=by omega
 have v2:(k:Int)<((k+1:Nat):Int):=by omega
 have v3:(k:Int).toNat=k:=by omega
 clear hz hzt hbad0 hbad1 hy0;go_upto_region 11 with fail;by_cases z3:zt<=n
 ·have HBAD:=zq (show badB n G raw=true from by
   rcases Nat.eq_zero_or_pos k with hk_|hk_
   ·rw[HBD0.out hk_,decide_eq_true z3]
   ·obtain⟨j_,hj_⟩: ∃j,k=j+1:=⟨k-1,by omega⟩
    obtain⟨y_,hy_⟩: ∃z,LF[j_]?=some z:=⟨_,List.getElem?_eq_getElem (by rw[HLL.out];omega)⟩
    rw[HBD1.out j_ y_ hj_ hy_,decide_eq_true z3,Bool.true_or])
  have z4:decide (zt<=n)=true:=decide_eq_true z3;go_quiet (fail);obtain⟨w7,hw7⟩: ∃u,w6.drewN nq=u:=⟨_,rfl⟩
  rw[hw7];have HB7:=zq (show Below w5.heap.size w5 w7 from by rw[<-hw7];exact qaa HB6.out _);clear hw7;go_upto_region 12 with fail;obtain⟨rfl,rfl⟩:M=noMa/\E=141:=by have h_:=HBE.out;rw[if_pos HBAD.out]at h_;injection h_ with h1_ h2_;exact⟨h1_.symm,h2_.symm⟩
  have HZ:=zq (H1.out w7 (HX5.out w7 HB7.out));have HR:=zq (qab HZ.out #[.int .i64 0,.bool false,.slice none 0 0,.slice none 0 0,.int .i64 0]);have HBF:=zq (qac (g:=w.heap.size+1) (HBWA.out.trans ((HX5.out w7 HB7.out).mono HBWA.out.size)) (by omega) #[.int .i64 0,.bool false,.slice none 0 0,.slice none 0 0,.int .i64 0]);go_wp2_with (with_reducible refine stZ #[.int .i64 0,.bool false,.slice none 0 0,.slice none 0 0,.int .i64 0] HZ.out ?_);refine rtZ HR.out ?_;exact⟨⟨none,0,none,0⟩,rfl,⟨SlO.nil _ _ _,SlO.nil _ _ _,Nat.le_refl _,Nat.le_refl _,fun s hs=>by cases hs⟩,HBF.out⟩
 have z4:decide (zt<=n)=false:=decide_eq_false z3
 rcases Nat.eq_zero_or_pos k with hk_|hk_
 ·have HBAD:=zq (show badB n G raw=false from by rw[HBD0.out hk_,z4])
  have z6:decide (0<(k:Int))=false:=decide_eq_false (by omega);have z7:decide ((k:Int)>0)=false:=decide_eq_false (by omega);have z8:decide (0<k)=false:=decide_eq_false (by omega);have HK0:=zq hk_;clear HBD0 HBD1 hk_;go_quiet (fail);obtain⟨w7,hw7⟩: ∃u,w6.drewN nq=u:=⟨_,rfl⟩
  rw[hw7];have HB7:=zq (show Below w5.heap.size w5 w7 from by rw[<-hw7];exact qaa HB6.out _);clear hw7;obtain⟨rfl,rfl⟩:M=⟨ref,rev,PF,qaX LF,G⟩/\E=0:=by have h_:=HBE.out;rw[if_neg (by rw[HBAD.out];decide)]at h_;injection h_ with h1_ h2_;exact⟨h1_.symm,h2_.symm⟩
  obtain⟨y0,hy0⟩: ∃z,LF[0]?=some z:=⟨_,List.getElem?_eq_getElem (by rw[HLL.out];omega)⟩
  have HFO:=zq (qf5 hy0);obtain⟨b0_,o0_,e0_,f0,-⟩:=(HS5.out w7 HB7.out).sl.sect hy0;injection e0_ with e0_
  injection e0_ with e1_ e2_ e3_
  subst e1_;obtain rfl:os=o0_:=by omega
  obtain⟨yt,hyt⟩: ∃q,y0.to_=q:=⟨_,rfl⟩
  rw[hyt]at f0 HFO;have f0':w7.cell? ⟨bs,os,none⟩=some (.int .i64 yt):=by rw[show os=os+0*2 by omega];exact f0
  clear hyt hy0 e2_ e3_ HBE;have u1:(0:Int)<((k+1:Nat):Int):=by omega
  go_upto_region 13 with fail;have m3:w7.cell? ⟨gm,3,none⟩=some (.slice (some ⟨bs,os,none⟩) (k+1) CS):=(HM5.out w7 HB7.out).cell 3;by_cases y1:yt=0
  ·have HFO:=zq (HFO.out.trans (if_pos y1))
   have y2:(yt==0)=true:=by simp[y1]
   have y3:decide (yt=0)=true:=decide_eq_true y1;have hcs:1<=k+1:=by omega
   have hcu: ∀W,(Instr.sliceAt 36 (.slice (some ⟨bs,os,none⟩) (k+1) CS) (some (.int .i64 1)) none none).run Tryz.prog W= .ok (.slice (if CS=1 then(some ⟨bs,os,none⟩:Option Addr)else(some ⟨bs,os,none⟩:Option Addr).map (·.add (1*2))) (k+1-1) (CS-1)) W:=fun W=>qbF (P:=Tryz.prog) 2 36 66 Tryz.underlying36 (by kernel_rfl) (some ⟨bs,os,none⟩) (k+1) CS 1 hcs W;have HSQ:=zq (fun W (h_:SlO scC17 2 W (some ⟨bs,os,none⟩) (k+1) CS LF)=>h_.from17 (fun _=>rfl) HCC.out.2 hcs);obtain⟨A2,hA2⟩:=geZ ((if CS=1 then(some ⟨bs,os,none⟩:Option Addr)else(some ⟨bs,os,none⟩:Option Addr).map (·.add (1*2))));obtain⟨c2,hc2⟩: ∃m,CS-1=m:=⟨_,rfl⟩
   rw[hA2,hc2]at hcu HSQ;have HC2:=zq hc2;clear hA2 hc2 y1 hcs;have HM7:=zq (qab (HM5.out w7 HB7.out) #[.int .i64 ref,.bool rev,.slice AP pn PC,.slice A2 k c2,.int .i64 G]);have HPW:=zq ((HP5.out w7 HB7.out).kept (qaj w7 gm #[.int .i64 ref,.bool rev,.slice AP pn PC,.slice A2 k c2,.int .i64 G]) (.inr ((HP5.out w7 HB7.out).apart (HM5.out w7 HB7.out) (by decide))));have HSW:=zq ((HS5.out w7 HB7.out).kept (qaj w7 gm #[.int .i64 ref,.bool rev,.slice AP pn PC,.slice A2 k c2,.int .i64 G]) (.inr ((HS5.out w7 HB7.out).apart (HM5.out w7 HB7.out) (by decide))));have HBW:=zq (qac (g:=gm) (HX5.out w7 HB7.out) hgm2 #[.int .i64 ref,.bool rev,.slice AP pn PC,.slice A2 k c2,.int .i64 G]);obtain⟨w8,hw8⟩: ∃u,w7.setRow gm #[.int .i64 ref,.bool rev,.slice AP pn PC,.slice A2 k c2,.int .i64 G]=u:=⟨_,rfl⟩
   rw[hw8]at HM7 HPW HSW HBW;have HW8:=zq hw8;clear hw8;go_upto_region 14 with fail;go_upto_region 15 with(with_reducible refine qal (o:=⟨none,_,_,_,_,_⟩) rfl 36 _ _ rfl (gm) 3 ((.slice A2 k c2)) rfl rfl 38 #[.int .i64 ref,.bool rev,.slice AP pn PC,.slice (some ⟨bs,os,none⟩) (k+1) CS,.int .i64 G] (HM5.out w7 HB7.out) (Nat.le_of_ble_eq_true rfl) (by kernel_rfl) rfl #[.int .i64 ref,.bool rev,.slice AP pn PC,.slice A2 k c2,.int .i64 G] rfl ?_)
   rw[HW8.out];clear HW8;have HZ:=zq (H1.out _ HBW.out);have HR:=zq (qab HZ.out #[.int .i64 ref,.bool rev,.slice AP pn PC,.slice A2 k c2,.int .i64 G]);have HBF:=zq (qac (g:=w.heap.size+1) (HBWA.out.trans (HBW.out.mono HBWA.out.size)) (by omega) #[.int .i64 ref,.bool rev,.slice AP pn PC,.slice A2 k c2,.int .i64 G]);have HPF:=zq (HPW.out.rowlow17 HG1.out #[.int .i64 ref,.bool rev,.slice AP pn PC,.slice A2 k c2,.int .i64 G]);have HSF:=zq (HSW.out.rowlow17 HG1.out #[.int .i64 ref,.bool rev,.slice AP pn PC,.slice A2 k c2,.int .i64 G]);go_wp2_with (first|(with_reducible refine ldZ 102 HM7.out ?_)|(with_reducible refine stZ #[.int .i64 ref,.bool rev,.slice AP pn PC,.slice A2 k c2,.int .i64 G] HZ.out ?_));refine rtZ HR.out ?_;have hlf_:(qaX LF).length=k:=by rw[HFO.out];first|exact HLL.out|(rw[List.length_drop,HLL.out];rfl)
   refine⟨⟨AP,PC,A2,c2⟩,by unfold maC;dsimp only;rw[HPN.out,hlf_];rfl,⟨?_,?_,?_,?_,fun s_ hs_=>HTOP.out s_ ?_⟩,HBF.out⟩
   ·show SlO stC 2 _ AP PF.length PC PF;rw[HPN.out];exact HPF.out.sl
   ·show SlO scC17 2 _ (A2) (qaX LF).length c2 (qaX LF);rw[hlf_,HFO.out];exact HSQ.out _ HSF.out.sl
   ·show PF.length<=PC;rw[HPN.out];exact HCC.out.1
   ·show(qaX LF).length<=c2;rw[hlf_];have h_:=HCC.out.2;first|omega|(have h2_:=HC2.out;omega)
   ·have h_:s_∈qaX LF:=hs_
    rw[HFO.out]at h_
    first|exact h_|exact List.drop_subset _ _ h_
  ·have HFO:=zq (HFO.out.trans (if_neg y1))
   have y2:(yt==0)=false:=by simp[y1]
   have y3:decide (yt=0)=false:=decide_eq_false y1;clear y1;have HPW:=HP5.out w7 HB7.out;have HPW:=zq HPW;have HSW:=HS5.out w7 HB7.out;have HSW:=zq HSW;have HZ:=zq (H1.out _ (HX5.out w7 HB7.out));go_upto_region 15 with fail;have HR:=zq (qab HZ.out #[.int .i64 ref,.bool rev,.slice AP pn PC,.slice (some ⟨bs,os,none⟩) (k+1) CS,.int .i64 G]);have HBF:=zq (qac (g:=w.heap.size+1) (HBWA.out.trans ((HX5.out w7 HB7.out).mono HBWA.out.size)) (by omega) #[.int .i64 ref,.bool rev,.slice AP pn PC,.slice (some ⟨bs,os,none⟩) (k+1) CS,.int .i64 G]);have HPF:=zq (HPW.out.rowlow17 HG1.out #[.int .i64 ref,.bool rev,.slice AP pn PC,.slice (some ⟨bs,os,none⟩) (k+1) CS,.int .i64 G]);have HSF:=zq (HSW.out.rowlow17 HG1.out #[.int .i64 ref,.bool rev,.slice AP pn PC,.slice (some ⟨bs,os,none⟩) (k+1) CS,.int .i64 G]);go_wp2_with (first|(with_reducible refine ldZ 102 (HM5.out w7 HB7.out) ?_)|(with_reducible refine stZ #[.int .i64 ref,.bool rev,.slice AP pn PC,.slice (some ⟨bs,os,none⟩) (k+1) CS,.int .i64 G] HZ.out ?_));refine rtZ HR.out ?_;have hlf_:(qaX LF).length=k+1:=by rw[HFO.out];first|exact HLL.out|(rw[List.length_drop,HLL.out];rfl)
   refine⟨⟨AP,PC,some ⟨bs,os,none⟩,CS⟩,by unfold maC;dsimp only;rw[HPN.out,hlf_];rfl,⟨?_,?_,?_,?_,fun s_ hs_=>HTOP.out s_ ?_⟩,HBF.out⟩
   ·show SlO stC 2 _ AP PF.length PC PF;rw[HPN.out];exact HPF.out.sl
   ·show SlO scC17 2 _ (some ⟨bs,os,none⟩) (qaX LF).length CS (qaX LF);rw[hlf_,HFO.out];exact HSF.out.sl
   ·show PF.length<=PC;rw[HPN.out];exact HCC.out.1
   ·show(qaX LF).length<=CS;rw[hlf_];have h_:=HCC.out.2;first|omega|(have h2_:=HC2.out;omega)
   ·have h_:s_∈qaX LF:=hs_
    rw[HFO.out]at h_
    first|exact h_|exact List.drop_subset _ _ h_
 ·obtain⟨j,hj⟩: ∃j,k=j+1:=⟨k-1,by omega⟩
  subst hj;obtain⟨y,hy⟩: ∃z,LF[j]?=some z:=⟨_,List.getElem?_eq_getElem (by rw[HLL.out];omega)⟩
  have HBD:=zq (HBD1.out j y rfl hy);obtain⟨b1_,o1_,e0_,d1,-⟩:=(HS5.out w6 HB6.out).sl.sect hy;injection e0_ with e0_
  injection e0_ with e1_ e2_ e3_
  subst e1_;obtain rfl:os=o1_:=by omega
  obtain⟨yt,hyt⟩: ∃q,y.to_=q:=⟨_,rfl⟩
  rw[hyt]at d1 HBD;clear hyt hy e2_ e3_ HBD0 HBD1;have u3:(0:Int)<=(j:Int):=by omega
  have u4:(j:Int)<((j+1+1:Nat):Int):=by omega
  by_cases z5:zt<=yt
  ·have HBAD:=zq (show badB n G raw=true from by rw[HBD.out,decide_eq_true z5,Bool.or_true])
   have z6:decide (zt<=yt)=true:=decide_eq_true z5;go_quiet (fail);obtain⟨w7,hw7⟩: ∃u,w6.drewN nq=u:=⟨_,rfl⟩
   rw[hw7];have HB7:=zq (show Below w5.heap.size w5 w7 from by rw[<-hw7];exact qaa HB6.out _);clear hw7;go_upto_region 12 with fail;obtain⟨rfl,rfl⟩:M=noMa/\E=141:=by have h_:=HBE.out;rw[if_pos HBAD.out]at h_;injection h_ with h1_ h2_;exact⟨h1_.symm,h2_.symm⟩
   have HZ:=zq (H1.out w7 (HX5.out w7 HB7.out));have HR:=zq (qab HZ.out #[.int .i64 0,.bool false,.slice none 0 0,.slice none 0 0,.int .i64 0]);have HBF:=zq (qac (g:=w.heap.size+1) (HBWA.out.trans ((HX5.out w7 HB7.out).mono HBWA.out.size)) (by omega) #[.int .i64 0,.bool false,.slice none 0 0,.slice none 0 0,.int .i64 0]);go_wp2_with (with_reducible refine stZ #[.int .i64 0,.bool false,.slice none 0 0,.slice none 0 0,.int .i64 0] HZ.out ?_);refine rtZ HR.out ?_;exact⟨⟨none,0,none,0⟩,rfl,⟨SlO.nil _ _ _,SlO.nil _ _ _,Nat.le_refl _,Nat.le_refl _,fun s hs=>by cases hs⟩,HBF.out⟩
  have HBAD:=zq (show badB n G raw=false from by rw[HBD.out,decide_eq_false z5,z4];rfl);have z6:decide (zt<=yt)=false:=decide_eq_false z5;go_quiet (fail);obtain⟨w7,hw7⟩: ∃u,w6.drewN nq=u:=⟨_,rfl⟩
  rw[hw7];have HB7:=zq (show Below w5.heap.size w5 w7 from by rw[<-hw7];exact qaa HB6.out _);clear hw7;obtain⟨rfl,rfl⟩:M=⟨ref,rev,PF,qaX LF,G⟩/\E=0:=by have h_:=HBE.out;rw[if_neg (by rw[HBAD.out];decide)]at h_;injection h_ with h1_ h2_;exact⟨h1_.symm,h2_.symm⟩
  obtain⟨y0,hy0⟩: ∃z,LF[0]?=some z:=⟨_,List.getElem?_eq_getElem (by rw[HLL.out];omega)⟩
  have HFO:=zq (qf5 hy0);obtain⟨b0_,o0_,e0_,f0,-⟩:=(HS5.out w7 HB7.out).sl.sect hy0;injection e0_ with e0_
  injection e0_ with e1_ e2_ e3_
  subst e1_;obtain rfl:os=o0_:=by omega
  obtain⟨yt,hyt⟩: ∃q,y0.to_=q:=⟨_,rfl⟩
  rw[hyt]at f0 HFO;have f0':w7.cell? ⟨bs,os,none⟩=some (.int .i64 yt):=by rw[show os=os+0*2 by omega];exact f0
  clear hyt hy0 e2_ e3_ HBE;have u1:(0:Int)<((j+1+1:Nat):Int):=by omega
  go_upto_region 13 with fail;have m3:w7.cell? ⟨gm,3,none⟩=some (.slice (some ⟨bs,os,none⟩) (j+1+1) CS):=(HM5.out w7 HB7.out).cell 3;by_cases y1:yt=0
  ·have HFO:=zq (HFO.out.trans (if_pos y1))
   have y2:(yt==0)=true:=by simp[y1]
   have y3:decide (yt=0)=true:=decide_eq_true y1;have hcs:1<=j+1+1:=by omega
   have hcu: ∀W,(Instr.sliceAt 36 (.slice (some ⟨bs,os,none⟩) (j+1+1) CS) (some (.int .i64 1)) none none).run Tryz.prog W= .ok (.slice (if CS=1 then(some ⟨bs,os,none⟩:Option Addr)else(some ⟨bs,os,none⟩:Option Addr).map (·.add (1*2))) (j+1+1-1) (CS-1)) W:=fun W=>qbF (P:=Tryz.prog) 2 36 66 Tryz.underlying36 (by kernel_rfl) (some ⟨bs,os,none⟩) (j+1+1) CS 1 hcs W;have HSQ:=zq (fun W (h_:SlO scC17 2 W (some ⟨bs,os,none⟩) (j+1+1) CS LF)=>h_.from17 (fun _=>rfl) HCC.out.2 hcs);obtain⟨A2,hA2⟩:=geZ ((if CS=1 then(some ⟨bs,os,none⟩:Option Addr)else(some ⟨bs,os,none⟩:Option Addr).map (·.add (1*2))));obtain⟨c2,hc2⟩: ∃m,CS-1=m:=⟨_,rfl⟩
   rw[hA2,hc2]at hcu HSQ;have HC2:=zq hc2;clear hA2 hc2 y1 hcs;have HM7:=zq (qab (HM5.out w7 HB7.out) #[.int .i64 ref,.bool rev,.slice AP pn PC,.slice A2 (j+1) c2,.int .i64 G]);have HPW:=zq ((HP5.out w7 HB7.out).kept (qaj w7 gm #[.int .i64 ref,.bool rev,.slice AP pn PC,.slice A2 (j+1) c2,.int .i64 G]) (.inr ((HP5.out w7 HB7.out).apart (HM5.out w7 HB7.out) (by decide))));have HSW:=zq ((HS5.out w7 HB7.out).kept (qaj w7 gm #[.int .i64 ref,.bool rev,.slice AP pn PC,.slice A2 (j+1) c2,.int .i64 G]) (.inr ((HS5.out w7 HB7.out).apart (HM5.out w7 HB7.out) (by decide))));have HBW:=zq (qac (g:=gm) (HX5.out w7 HB7.out) hgm2 #[.int .i64 ref,.bool rev,.slice AP pn PC,.slice A2 (j+1) c2,.int .i64 G]);obtain⟨w8,hw8⟩: ∃u,w7.setRow gm #[.int .i64 ref,.bool rev,.slice AP pn PC,.slice A2 (j+1) c2,.int .i64 G]=u:=⟨_,rfl⟩
   rw[hw8]at HM7 HPW HSW HBW;have HW8:=zq hw8;clear hw8;go_upto_region 14 with fail;go_upto_region 15 with(with_reducible refine qal (o:=⟨none,_,_,_,_,_⟩) rfl 36 _ _ rfl (gm) 3 ((.slice A2 (j+1) c2)) rfl rfl 38 #[.int .i64 ref,.bool rev,.slice AP pn PC,.slice (some ⟨bs,os,none⟩) (j+1+1) CS,.int .i64 G] (HM5.out w7 HB7.out) (Nat.le_of_ble_eq_true rfl) (by kernel_rfl) rfl #[.int .i64 ref,.bool rev,.slice AP pn PC,.slice A2 (j+1) c2,.int .i64 G] rfl ?_)
   rw[HW8.out];clear HW8;have HZ:=zq (H1.out _ HBW.out);have HR:=zq (qab HZ.out #[.int .i64 ref,.bool rev,.slice AP pn PC,.slice A2 (j+1) c2,.int .i64 G]);have HBF:=zq (qac (g:=w.heap.size+1) (HBWA.out.trans (HBW.out.mono HBWA.out.size)) (by omega) #[.int .i64 ref,.bool rev,.slice AP pn PC,.slice A2 (j+1) c2,.int .i64 G]);have HPF:=zq (HPW.out.rowlow17 HG1.out #[.int .i64 ref,.bool rev,.slice AP pn PC,.slice A2 (j+1) c2,.int .i64 G]);have HSF:=zq (HSW.out.rowlow17 HG1.out #[.int .i64 ref,.bool rev,.slice AP pn PC,.slice A2 (j+1) c2,.int .i64 G]);go_wp2_with (first|(with_reducible refine ldZ 102 HM7.out ?_)|(with_reducible refine stZ #[.int .i64 ref,.bool rev,.slice AP pn PC,.slice A2 (j+1) c2,.int .i64 G] HZ.out ?_));refine rtZ HR.out ?_;have hlf_:(qaX LF).length=(j+1):=by rw[HFO.out];first|exact HLL.out|(rw[List.length_drop,HLL.out];rfl)
   refine⟨⟨AP,PC,A2,c2⟩,by unfold maC;dsimp only;rw[HPN.out,hlf_];rfl,⟨?_,?_,?_,?_,fun s_ hs_=>HTOP.out s_ ?_⟩,HBF.out⟩
   ·show SlO stC 2 _ AP PF.length PC PF;rw[HPN.out];exact HPF.out.sl
   ·show SlO scC17 2 _ (A2) (qaX LF).length c2 (qaX LF);rw[hlf_,HFO.out];exact HSQ.out _ HSF.out.sl
   ·show PF.length<=PC;rw[HPN.out];exact HCC.out.1
   ·show(qaX LF).length<=c2;rw[hlf_];have h_:=HCC.out.2;first|omega|(have h2_:=HC2.out;omega)
   ·have h_:s_∈qaX LF:=hs_
    rw[HFO.out]at h_
    first|exact h_|exact List.drop_subset _ _ h_
  ·have HFO:=zq (HFO.out.trans (if_neg y1))
   have y2:(yt==0)=false:=by simp[y1]
   have y3:decide (yt=0)=false:=decide_eq_false y1;clear y1;have HPW:=HP5.out w7 HB7.out;have HPW:=zq HPW;have HSW:=HS5.out w7 HB7.out;have HSW:=zq HSW;have HZ:=zq (H1.out _ (HX5.out w7 HB7.out));go_upto_region 15 with fail;have HR:=zq (qab HZ.out #[.int .i64 ref,.bool rev,.slice AP pn PC,.slice (some ⟨bs,os,none⟩) (j+1+1) CS,.int .i64 G]);have HBF:=zq (qac (g:=w.heap.size+1) (HBWA.out.trans ((HX5.out w7 HB7.out).mono HBWA.out.size)) (by omega) #[.int .i64 ref,.bool rev,.slice AP pn PC,.slice (some ⟨bs,os,none⟩) (j+1+1) CS,.int .i64 G]);have HPF:=zq (HPW.out.rowlow17 HG1.out #[.int .i64 ref,.bool rev,.slice AP pn PC,.slice (some ⟨bs,os,none⟩) (j+1+1) CS,.int .i64 G]);have HSF:=zq (HSW.out.rowlow17 HG1.out #[.int .i64 ref,.bool rev,.slice AP pn PC,.slice (some ⟨bs,os,none⟩) (j+1+1) CS,.int .i64 G]);go_wp2_with (first|(with_reducible refine ldZ 102 (HM5.out w7 HB7.out) ?_)|(with_reducible refine stZ #[.int .i64 ref,.bool rev,.slice AP pn PC,.slice (some ⟨bs,os,none⟩) (j+1+1) CS,.int .i64 G] HZ.out ?_));refine rtZ HR.out ?_;have hlf_:(qaX LF).length=j+1+1:=by rw[HFO.out];first|exact HLL.out|(rw[List.length_drop,HLL.out];rfl)
   refine⟨⟨AP,PC,some ⟨bs,os,none⟩,CS⟩,by unfold maC;dsimp only;rw[HPN.out,hlf_];rfl,⟨?_,?_,?_,?_,fun s_ hs_=>HTOP.out s_ ?_⟩,HBF.out⟩
   ·show SlO stC 2 _ AP PF.length PC PF;rw[HPN.out];exact HPF.out.sl
   ·show SlO scC17 2 _ (some ⟨bs,os,none⟩) (qaX LF).length CS (qaX LF);rw[hlf_,HFO.out];exact HSF.out.sl
   ·show PF.length<=PC;rw[HPN.out];exact HCC.out.1
   ·show(qaX LF).length<=CS;rw[hlf_];have h_:=HCC.out.2;first|omega|(have h2_:=HC2.out;omega)
   ·have h_:s_∈qaX LF:=hs_
    rw[HFO.out]at h_
    first|exact h_|exact List.drop_subset _ _ h_
end
section
open Go.RowKit
open Go.Great
def gapT (x:Int):List Int:=if x=0 then[0]else[1,x,0]
theorem gapV_of17 (x:Int):gapV x=[0]++gapT x++[0]:=by
 unfold gapV gapT;split<;>rfl
def secsT (m:Ma3)(u:Int):List Int×Int:=match secsV u 0 m.sects with
 |none=>([],7)
 |some w=>([0,0,(m.sects.length:Int)-1]++w++gapV (scT m.gap u),0)
theorem scT_rng (n u:Int):0<=scT n u/\scT n u<=32766:=by
 unfold scT qaW;have hu:=qcN u;split
 ·exact⟨Int.le_refl _,by decide⟩
 ·split
  ·exact⟨Int.le_refl _,by decide⟩
  ·split
   ·exact⟨Int.le_refl _,by decide⟩
   ·rename_i h0 h1 h2
    refine⟨?_,by omega⟩;unfold wholeOf;rw[if_neg (by simp)];have h3:0<=n:=by omega
    have h4:0<=qaS u:=by omega
    have:=Int.ediv_nonneg h3 h4;omega
theorem secsV_at17 {u b:Int}{l:List Sc3}{i:Nat}{x:Sc3}(h:l[i]?=some x):secsV u b (l.drop i)=if scT x.to_ u-b<=0 then none else(secsV u (scT x.to_ u) (l.drop (i+1))).map fun w=>(scT x.to_ u-b)::1::x.timer::0::w:=by
 rw[qcc h,secsV]
theorem opt_app17 (o:Option (List Int))(a b:List Int):(o.map (b++ ·)).map (a++ ·)=o.map ((a++b)++ ·):=by
 cases o with
 |none=>rfl
 |some x=>simp
theorem optellgap_any (g u:Int)(w:World):Calls Tryz.prog 159 #[.int .i64 g,.int .i64 u] w fun r w'=> ∃A n c,r= .returned (.slice A n c)/\SlO inC 1 w' A n c (gapT (scT g u))/\n<=3/\Below w.heap.size w w':=by
 obtain⟨X,hX⟩:=geZ (scT g u);obtain⟨E,hE⟩:=geZ ((qaW g u false).2);have HC:=zq (qdC g u false w);unfold pair at HC;rw[show(qaW g u false).1=X from hX,hE]at HC;rw[hX];clear hX hE;go_enter Tryz.func159,Tryz.ntmps159;go_wp2_with fail;refine HC.out.mono ?_;rintro e_ w1 ⟨rfl,rfl⟩;by_cases z:X=0
 ·have z1:(X==0)=true:=by simp[z]
  have HG:=zq (show gapT X=[0]from if_pos z);have HS:=zq (⟨rfl,qa3 (Has.made w 3 #[.int .i64 0]) rfl⟩:SlO inC 1 (w.alloc (.cells #[.int .i64 0] 3)) (some ⟨w.heap.size,0,none⟩) 1 1 [0]);clear z;go_wp2;go_ret
  exact⟨_,_,_,rfl,by rw[HG.out];exact HS.out,by omega,bA⟩
 ·have z1:(X==0)=false:=by simp[z]
  have HG:=zq (show gapT X=[1,X,0]from if_neg z);have HS:=zq (⟨rfl,qa3 (Has.made w 3 #[.int .i64 1,.int .i64 X,.int .i64 0]) rfl⟩:SlO inC 1 (w.alloc (.cells #[.int .i64 1,.int .i64 X,.int .i64 0] 3)) (some ⟨w.heap.size,0,none⟩) 3 3 [1,X,0]);clear z;go_wp2;go_ret
  exact⟨_,_,_,rfl,by rw[HG.out];exact HS.out,by omega,bA⟩
theorem qfQ (m:Ma3)(b:MaA)(u:Int)(w:World)(hm:MaR w m b)(hk:m.sects.length<=100):
  Calls Tryz.prog 81 #[.agg (maC m b),.int .i64 u] w fun r w'=> ∃A n c,r= .returned (.tuple #[.slice A n c,.int .i64 (secsT m u).2])/\SlO inC 1 w' A n c (secsT m u).1/\n<=500/\Below w.heap.size w w':=by
 obtain⟨mr,mv,mp,ms,mg⟩:=m;obtain⟨ap,cp,aq,cs⟩:=b;have hs:=hm.sects;clear hm;unfold maC;dsimp only at*;obtain⟨pn,hpn⟩: ∃m,mp.length=m:=⟨_,rfl⟩
 obtain⟨sn,hsn⟩: ∃m,ms.length=m:=⟨_,rfl⟩
 rw[hpn];rw[hsn]at hs hk⊢;obtain⟨R,hR⟩:=geZ (secsT ⟨mr,mv,mp,ms,mg⟩ u);rw[hR];have HR:=zq hR;unfold secsT at HR;dsimp only at HR;rw[hsn]at HR;have HSN:=zq hsn;clear hpn hR hsn;obtain⟨wa,hwa,hbwa,HWA,HBWA,h0⟩:=bx1Z w 38 #[.int .i64 mr,.bool mv,.slice ap pn cp,.slice aq sn cs,.int .i64 mg];have HM:=zH h0;have HS:=zq (fun W (hW:Below wa.heap.size wa W)=>(hs.under hbwa).under hW);have HK:=zq hk;have m3:wa.cell? ⟨w.heap.size,3,none⟩=some (.slice aq sn cs):=h0.cell 3;have hsb:(sn:Int)<=100:=by omega
 obtain⟨K,hK⟩: ∃K:Int,(sn:Int)-1=K:=⟨_,rfl⟩
 have hw1:IntKind.i64.wrap ((sn:Int)-1)=K:=by rw[IntKind.wrap_i64];omega
 rw[hK]at HR;obtain⟨wb,hwb⟩: ∃u,wa.alloc (.cells #[.int .i64 0,.int .i64 0,.int .i64 K] 3)=u:=⟨_,rfl⟩
 have hbb:Below wa.heap.size wa wb:=by rw[<-hwb];exact bA
 have HO0:=zq (show OwR inC 1 3 wa.heap.size wb (some ⟨wa.heap.size,0,none⟩) 3 3 [0,0,K]from by rw[<-hwb];exact⟨World.ownsRow_lit (base:=wa.heap.size) (e:=3) (size:=1) wa #[.int .i64 0,.int .i64 0,.int .i64 K] 3 (Nat.le_refl _) (by unfold maxLen;omega) rfl,rfl⟩);have HB0:=zq hbb;have HWB:=zq hwb;clear hwa hbwa h0 hs hk hwb hbb hK hsb;go_enter Tryz.func81,Tryz.ntmps81;go_upto_region 1 with fail;rw[HWA.out];clear HWA;go_upto_region 2 with fail;rw[HWB.out];clear HWB hw1;have m3:wb.cell? ⟨w.heap.size,3,none⟩=some (.slice aq sn cs):=(HM.out wb HB0.out).cell 3;have hsb:sn<=100:=HK.out;go_wp2;go_loopg [6,7,20] sn (fun kk v6 v7 v20 wl=> ∃(i:Nat) (A:Option Addr) (n c:Nat) (told:Int) (acc:List Int),i<=sn/\sn-i<=kk/\v20= .int .i64 i/\v6= .slice A n c/\v7= .int .i64 told/\Hid (OwR inC 1 3 wa.heap.size wl A n c ([0,0,K]++acc))/\Hid (n<=3+4*i)/\Hid (0<=told/\told<=32766)/\Hid (secsV u 0 ms=(secsV u told (ms.drop i)).map (acc++ ·))/\Hid (Below wa.heap.size wa wl))
 case atStart=>exact⟨0,_,_,_,0,[],by omega,by omega,rfl,rfl,rfl,HO0,zq (by omega),zq (by omega),zq (by rw[List.drop_zero];cases secsV u 0 ms<;>rfl),HB0⟩
 clear m3 HO0 HB0;obtain⟨i,A,n,c,told,acc,hi,hik,rfl,rfl,rfl,HO,HN,HT,HSV,HB⟩:=hrel;obtain⟨k1,hk1⟩: ∃k1,k1=gk:=⟨_,rfl⟩
 subst hk1;obtain⟨wv,hwv⟩: ∃wv,wv=wr:=⟨_,rfl⟩
 subst hwv;by_cases hlt:i<sn;rotate_left
 ·obtain rfl:i=sn:=by omega
  obtain⟨g,hg⟩:=geZ (scT mg u);have HF:=zq (show R=([0,0,K]++acc++[0]++gapT g++[0],0)from by rw[<-HR.out,HSV.out,List.drop_of_length_le (by rw[HSN.out];exact Nat.le_refl _)];show([0,0,K]++(acc++[])++gapV (scT mg u),(0:Int))=_;rw[hg,gapV_of17,List.append_nil];simp only[List.append_assoc]);have HTG:=zq (fun W=>optellgap_any mg u W);rw[hg]at HTG;have hnb:=HN.out;have hkb:=HK.out;have y1: ¬(i:Int)<i:=by omega
  clear hg HSV HT HR;obtain⟨hO,hSL,h1,hBD⟩:=pourR 8 (HO.out.under ((Below.refl _ _).alloc (Nat.le_refl _) (.cells #[.int .i64 0] 3))) (⟨rfl,qa3 (Has.made _ _ _) rfl⟩:SlO inC 1 (wv.alloc (.cells #[.int .i64 0] 3)) (some ⟨wv.heap.size,0,none⟩) 1 1 [0]) qct (Nat.le_trans HB.out.size (by simp)) (by omega) (by omega);go_wp2_with (with_reducible refine qaP (o:=⟨some 46,_,_,_,_,_⟩) rfl (.tmp 44) (.tmp 45) 22 rfl wa.heap.size 3 (.int .i64 0) 1 8 Tryz.underlying22 qbG ?hz1 (by decide) A n c _ ?hs1 hO (some ⟨wv.heap.size,0,none⟩) 1 1 _ ?hx1 hSL h1 hBD ?next1)
  all_goals try rfl
  intro A1 c1 w1 ho1 hg1;have HO1:=zq (show OwR inC 1 3 wa.heap.size w1 A1 (n+1) c1 ([0,0,K]++acc++[0])from OwR.poured (l':=[0]) HO.out.2 rfl ho1.out);have HB1:=zq (qas (HB.out.trans ((bA).mono HB.out.size)) (Nat.le_trans HB.out.size (by simp)) hO.out (Nat.le_refl _) rfl hg1.out);have m4:w1.cell? ⟨w.heap.size,4,none⟩=some (.int .i64 mg):=(HM.out w1 HB1.out).cell 4;obtain⟨L1,hL1⟩:=geZ ([0,0,K]++acc++[0]);rw[hL1]at HO1 HF;clear ho1 hg1 hO hSL h1 hBD HO HB hL1;go_wp2_with fail;refine(HTG.out w1).mono ?_;rintro e_ w2 ⟨B,m,d,rfl,hsl2,hm2,hb2⟩;have HO2:=zq (HO1.out.under hb2);have HB2:=tB HB1 hb2;have HSL2:=zq hsl2;have HM2:=zq hm2;clear m4 hb2 hsl2 HO1 HB1 HTG;obtain⟨hO,hSL,h1,hBD⟩:=pourR 8 HO2.out HSL2.out qct HB2.out.size (by omega) (by omega);go_wp2_with (with_reducible refine qaP (o:=⟨some 52,_,_,_,_,_⟩) rfl (.tmp 47) (.tmp 51) 22 rfl wa.heap.size 3 (.int .i64 0) 1 8 Tryz.underlying22 qbG ?hz2 (by decide) A1 (n+1) c1 _ ?hs2 hO B m d _ ?hx2 hSL h1 hBD ?next2)
  all_goals try rfl
  intro A3 c3 w3 ho3 hg3;have HO3:=zq (show OwR inC 1 3 wa.heap.size w3 A3 (n+1+m) c3 (L1++gapT g)from OwR.poured (l:=L1) (l':=gapT g) HO2.out.2 HSL2.out.1 ho3.out);have HB3:=zq (qas HB2.out HB2.out.size hO.out (Nat.le_refl _) rfl hg3.out);obtain⟨L3,hL3⟩:=geZ (L1++gapT g);rw[hL3]at HO3 HF;clear ho3 hg3 hO hSL h1 hBD HO2 HB2 HSL2 hL3;obtain⟨hO,hSL,h1,hBD⟩:=pourR 8 (HO3.out.under ((Below.refl _ _).alloc (Nat.le_refl _) (.cells #[.int .i64 0] 3))) (⟨rfl,qa3 (Has.made _ _ _) rfl⟩:SlO inC 1 (w3.alloc (.cells #[.int .i64 0] 3)) (some ⟨w3.heap.size,0,none⟩) 1 1 [0]) qct (Nat.le_trans HB3.out.size (by simp)) (by omega) (by omega);go_wp2_with (with_reducible refine qaP (o:=⟨some 55,_,_,_,_,_⟩) rfl (.tmp 53) (.tmp 54) 22 rfl wa.heap.size 3 (.int .i64 0) 1 8 Tryz.underlying22 qbG ?hz3 (by decide) A3 (n+1+m) c3 _ ?hs3 hO (some ⟨w3.heap.size,0,none⟩) 1 1 _ ?hx3 hSL h1 hBD ?next3)
  all_goals try rfl
  intro A4 c4 w4 ho4 hg4;have HO4:=zq (show OwR inC 1 3 wa.heap.size w4 A4 (n+1+m+1) c4 (L3++[0])from OwR.poured (l:=L3) (l':=[0]) HO3.out.2 rfl ho4.out);have HB4:=zq (qas (HB3.out.trans ((bA).mono HB3.out.size)) (Nat.le_trans HB3.out.size (by simp)) hO.out (Nat.le_refl _) rfl hg4.out);have HNM:=zq (show n+1+m+1<=500 from by have:=HM2.out;omega);clear ho4 hg4 hO hSL h1 hBD HO3 HB3;go_wp2;go_ret2
  exact⟨A4,_,c4,by rw[HF.out];rfl,by rw[HF.out];exact HO4.out.sl,HNM.out,HBWA.out.trans (HB4.out.mono HBWA.out.size)⟩
 ·obtain⟨x,hx⟩:=glZ ms (i) (by rw[HSN.out];exact hlt)
  obtain⟨bk,off,rfl,d0,d1⟩:=(HS.out wv HB.out).sect hx;have HXV:=zq (secsV_at17 (u:=u) (b:=told) hx);obtain⟨xt,xm⟩:=x;dsimp only at d0 d1 HXV;obtain⟨X,hX⟩:=geZ (scT xt u);rw[hX]at HXV;have HXR:=zq (show 0<=X/\X<=32766 from by rw[<-hX];exact scT_rng _ _);obtain⟨E,hE⟩:=geZ ((qaW xt u false).2);have HSC:=zq (fun W=>qdC xt u false W);unfold pair at HSC;rw[show(qaW xt u false).1=X from hX,hE]at HSC;have x1:(i:Int)<sn:=by omega
  have x2:(0:Int)<=i:=by omega
  have HIN:=zq (show i<sn/\sn-i<=k1 from⟨hlt,hik⟩);clear hx hX hE hi hik;obtain⟨wc,hwc⟩: ∃u,wv.alloc (.cells #[.int .i64 xt,.int .i64 xm] 66)=u:=⟨_,rfl⟩
  have hbc:Below wv.heap.size wv wc:=by rw[<-hwc];exact bA
  have hHc:Has wc wv.heap.size 66 #[.int .i64 xt,.int .i64 xm]:=by rw[<-hwc];exact Has.made _ _ _
  have HWC:=zq hwc;obtain⟨gs,hgs⟩: ∃g,wv.heap.size=g:=⟨_,rfl⟩
  have HGS:=zq hgs;rw[hgs]at hHc;have HOC:=zq (HO.out.under hbc);have HBC:=tB HB hbc;have HHC:=zq hHc;clear hwc hbc hgs hlt;go_upto_region 6 with fail;rw[HWC.out];simp only[HGS.out];clear HWC HGS d0 d1 HO HB;have c0:wc.cell? ⟨gs,0,none⟩=some (.int .i64 xt):=hHc.cell 0;have c1:wc.cell? ⟨gs,1,none⟩=some (.int .i64 xm):=hHc.cell 1;clear hHc;go_wp2_with fail;refine(HSC.out wc).mono ?_;rintro e_ wc2 ⟨rfl,rfl⟩;by_cases z:X<=told
  ·have HF:=zq (show R=([],7)from by rw[<-HR.out,HSV.out,HXV.out,if_pos (by omega)];rfl)
   have z1:decide (X<=told)=true:=decide_eq_true z;clear z c0 c1;go_wp2;go_ret2
   exact⟨none,0,0,by rw[HF.out];rfl,by rw[HF.out];exact SlO.nil _ _ _,by omega,HBWA.out.trans (HBC.out.mono HBWA.out.size)⟩
  ·have z1:decide (X<=told)=false:=decide_eq_false z
   obtain⟨D,hD⟩:=geZ (X-told);have hw1:IntKind.i64.wrap (X-told)=D:=by rw[IntKind.wrap_i64];have h1_:=HXR.out;have h2_:=HT.out;omega
   rw[hD]at HXV;have HSV2:=zq (show secsV u 0 ms=(secsV u X (ms.drop (i+1))).map ((acc++[D,1,xm,0])++ ·)from by rw[HSV.out,HXV.out,if_neg (by omega),<-opt_app17];rfl);have hnb:=HN.out;have hib:=HIN.out;have hkb:=HK.out;clear hD z;obtain⟨hO,hSL,h1,hBD⟩:=pourR 8 (HOC.out.under ((Below.refl _ _).alloc (Nat.le_refl _) (.cells #[.int .i64 D,.int .i64 1,.int .i64 xm,.int .i64 0] 3))) (⟨rfl,qa3 (Has.made _ _ _) rfl⟩:SlO inC 1 (wc.alloc (.cells #[.int .i64 D,.int .i64 1,.int .i64 xm,.int .i64 0] 3)) (some ⟨wc.heap.size,0,none⟩) 4 4 [D,1,xm,0]) qct (Nat.le_trans HBC.out.size (by simp)) (by omega) (by omega);go_wp2_with (with_reducible refine qaP (o:=⟨some 41,_,_,_,_,_⟩) rfl (.tmp 34) (.tmp 40) 22 rfl wa.heap.size 3 (.int .i64 0) 1 8 Tryz.underlying22 qbG ?hz4 (by decide) A n c _ ?hs4 hO (some ⟨wc.heap.size,0,none⟩) 4 4 _ ?hx4 hSL h1 hBD ?next4)
   all_goals try rfl
   intro A1 c1_ w1 ho1 hg1;have HO1:=zq (show OwR inC 1 3 wa.heap.size w1 A1 (n+4) c1_ ([0,0,K]++(acc++[D,1,xm,0]))from by rw[<-List.append_assoc];exact OwR.poured (l':=[D,1,xm,0]) HOC.out.2 rfl ho1.out);have HB1:=zq (qas (HBC.out.trans ((bA).mono HBC.out.size)) (Nat.le_trans HBC.out.size (by simp)) hO.out (Nat.le_refl _) rfl hg1.out);clear ho1 hg1 hO hSL h1 hBD HOC HBC c0 c1 z1 hw1 HSV HXV hnb hib hkb;go_wp2;go_roundg (k1-1)
   case measure=>have:=HIN.out;omega
   case rel=>exact⟨i+1,A1,n+4,c1_,X,acc++[D,1,xm,0],by have:=HIN.out;omega,by have:=HIN.out;omega,by first|go_num|(rw[IntWalk.wrap64_in _ (by have h1_:=HIN.out;have h2_:=HK.out;omega)];go_num),rfl,rfl,HO1,zq (by have:=HN.out;omega),HXR,HSV2,HB1⟩
end
end Go.Proofs.YtahadmeilajdgaaGreatDoor
