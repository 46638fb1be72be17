/-
  Our own text, joined.
-/
import Derived.Test.YtahadmeilajdgaaGreatDoorMras
import Derived.Test.YtahadmeilajdgaaGreatDoorMrat
import Derived.BigQuiet
import Derived.IntWalk
import Derived.Test.YtahadmeilajdgaaGreatDoorMraa
import Derived.Deep.QuietTactic
import Derived.Test.YtahadmeilajdgaaGreatDoorMrak
namespace Go.Proofs.YtahadmeilajdgaaGreatDoor
set_option maxRecDepth 100000
set_option maxHeartbeats 80000000
section
open Go.RowKit
open Go.Great
theorem qcV (V:List Int):V.flatMap inC=ints V:=by
 induction V with
 |nil=>rfl
 |cons x r ih=>rw[List.flatMap_cons,ih];rfl
theorem sli_of17 {base:Nat}{w:World}{A:Option Addr}{n c:Nat}{V:List Int}(h:OwR inC 1 3 base w A n c V):SlI w.heap.size w A n c V:=
 ⟨h.2,h.cap,by rw[<-qcV];exact h.sl.2,fun _ a ha=>h.lt ha⟩
def pkC17 (p:PkE):List Value:=[.int .i64 p.id,.slice p.A p.n p.c]
theorem one_pk17 (p:PkE): ∀u∈pkC17 p,u.oneCell'=true:=by
 intro u hu;simp only[pkC17,List.mem_cons,List.not_mem_nil,or_false]at hu
 rcases hu with rfl|rfl<;>rfl
theorem info_pk17:(Tryz.prog.info? 98).map (fun i=>(i.zero,i.size,i.bytes))=some (some (.agg #[.int .i64 0,.slice none 0 0]),2,32):=by kernel_rfl
theorem slk_of17 {base:Nat}{w:World}{A:Option Addr}{n c:Nat}{L:List PkE}(h:OwR pkC17 2 98 base w A n c L)(he: ∀p∈L,SlI w.heap.size w p.A p.n p.c p.V):SlK w A n c L:=⟨h.2,h.cap,h.sl.2,he⟩
theorem qem (w:World):SlK w none 0 0 []:=⟨rfl,Nat.le_refl _,qcv _ _,fun _ h=>by cases h⟩
theorem end_sum17 {t:Tp3}{m:Ma3}(h:mayM t m=true):0<=endM m+m.gap/\endM m+m.gap<=41000000:=by
 have h1:=qb4.1 h;have h2:=qd8 h1.len;have h3:=(qcw (qaD h1.check).1 h2.2.2.1).2;have h4:0<=endM m:=secs_last h1.secs;have h5:=h1.gap0;have h6:=h1.fits;have h7:=(on_bnd17 t m.path (qbf t m)).1;have h8:qa1 t m=(onE t m.path (qbf t m)).1:=rfl;omega
theorem tell_none17 {m:Ma3}{u:Int}(h:qcU m u=none):secsT m u=([],7):=by
 unfold qcU at h;unfold secsT
 cases hq:secsV u 0 m.sects with
 |none=>rfl
 |some w=>rw[hq]at h;cases h
theorem tell_some17 {m:Ma3}{u:Int}{v:List Int}(h:qcU m u=some v):(secsT m u).2=0/\v=[dirB m.rev,u]++(secsT m u).1:=by
 unfold qcU at h;unfold secsT
 cases hq:secsV u 0 m.sects with
 |none=>rw[hq]at h;cases h
 |some w=>
  rw[hq]at h;injection h with h
  rw[<-h];exact⟨rfl,rfl⟩
theorem opn_packets (t:Tp3)(a:TpA)(m:Ma3)(b:MaA)(w:World)(ht:TopR w t a)(hl:qaJ t=true)(hcj:t.joints.length<=a.cj)(hm:MaR w m b)(hn:m.path.length<=100)(hk:m.sects.length<=100):Calls Tryz.prog 25 #[.agg (tpC t a),.agg (maC m b)] w fun r w'=> ∃(B:Option Addr) (k c:Nat) (L:List PkE),r= .returned (.tuple #[.slice B k c,.int .i64 (qbU t m).2])/\SlK w' B k c L/\qaM L=(qbU t m).1/\Below w.heap.size w w':=by
 have HMY:=zq (fun W (hW:Below w.heap.size w W)=>opn_may t a m b W (ht.under hW) hl hcj (hm.under hW) hn hk);obtain⟨R,hR⟩:=geZ (qbU t m);rw[hR];have HR:=zq hR;have HTL:=zq (fun(hmay:mayM t m=true) u W (hW:Below w.heap.size w W)=>qfP t a m b u W (ht.under hW) hl hcj (hm.under hW) hmay);have HTS:=zq (fun u W (hW:Below w.heap.size w W)=>qfQ m b u W (hm.under hW) hk);have HED:=zq (fun W (hW:Below w.heap.size w W) h1=>opend_any m b W (hm.under hW).sects h1 (by omega));obtain⟨my,hmy⟩: ∃x,mayM t m=x:=⟨_,rfl⟩
 rw[hmy]at HMY;have HMB:=zq hmy;clear hmy hR hm hn hk;obtain⟨wa,hwa,hbwa,HWA,HBWA,h0,h1⟩:=bx2Z w 27 (tpC t a) 38 (maC m b);have H0:=zH h0;have H1:=zH h1;have HUP:=zq (fun W (hW:Below wa.heap.size wa W)=>HBWA.out.trans (hW.mono HBWA.out.size));clear hwa hbwa h0 h1 ht hl hcj;go_enter Tryz.func25,Tryz.ntmps25;go_upto_region 1 with fail;rw[HWA.out];clear HWA;go_wp2_with (first|(with_reducible refine ldZ 11 (H0.out wa (Below.refl _ _)) ?_)|(with_reducible refine ldZ 12 (H1.out wa (Below.refl _ _)) ?_));refine(HMY.out wa HBWA.out).mono ?_;rintro e_ w1 ⟨rfl,hb1⟩;have HB1:=zq hb1;clear hb1 HMY
 cases my with
 |false=>
  have HF:=zq (show R=([],1)from by rw[<-HR.out];unfold qbU;rw[if_pos HMB.out]);go_wp2;go_ret2
  exact⟨none,0,0,[],by rw[HF.out];rfl,qem _,by rw[HF.out];rfl,HUP.out _ HB1.out⟩
 |true=>
 have HP:=zq (qgb HMB.out);obtain⟨S,hS⟩:=geZ (endM m+m.gap);have HSB:=zq (show 0<=S/\S<=41000000 from by rw[<-hS];exact end_sum17 HMB.out);have HS:=zq hS;have hw1:IntKind.i64.wrap (endM m+m.gap)=S:=by rw[IntKind.wrap_i64];have:=HSB.out;omega
 have HW1:=zq hw1;obtain⟨B,hB⟩:=geZ (qdX S);have HBE:Hid (∀W,Calls Tryz.prog 29 #[.int .i64 S] W fun e w'=>e= .returned (.int .i64 B)/\Below W.heap.size W w'):=zq (fun W=>(best_any S W).mono (fun e w' h=>⟨by rw[h.1,hB],by rw[<-h.2];exact Below.refl _ _⟩));have HBQ:=zq hB;clear hS hw1 hB;go_upto_region 3 with fail;refine wp_region_held_drew (S:=(fun W_=>(Has W_ (w.heap.size+1) 38 (maC m b))/\(Below wa.heap.size wa W_))) (by kernel_rfl) ?_ (fun hHeld=>?_)
 ·exact⟨(H1.out _ HB1.out).draw,qah HB1.out⟩
 refine tlZ 0 15 (w.heap.size+1) (maC m b) (fun _ ⟨h_,_⟩=>h_) (h:=?_);simp only[lyZ];refine tkZ 2 17 (h:=?_);simp only[lyZ];refine tqZ 3 18 (fun w_ ⟨s0,s1⟩=>(show w_.cell? ⟨w.heap.size+1,4,none⟩=some (.int .i64 m.gap:Value)from s0.cell 4)) (h:=?_);simp only[lyZ];refine aoZ 1 (some 16) (fun K hK=>?_);go_simp;obtain⟨s0,s1⟩:=hHeld;refine(HED.out _ (HUP.out _ s1) HP.out.2.2.1).mono ?_;rintro e_ q1 ⟨rfl,hb_⟩;go_wp2_with fail;refine hK.out _ _ ?_ (fun hHeld=>?_)
 ·exact⟨s0.u hb_,bu s1 hb_⟩
 clear hK K s0 s1
 try simp only[lyZ]
 refine tqZ 4 19 (fun w_ ⟨s0,s1⟩=>HW1.out) (h:=?_);simp only[lyZ];refine aoZ 5 (some 20) (fun K hK=>?_);go_simp;obtain⟨s0,s1⟩:=hHeld;refine(HBE.out _).mono ?_;rintro e_ q2 ⟨rfl,hb2_⟩;go_wp2_with fail;refine hK.out _ _ ?_ (fun hHeld=>?_)
 ·exact⟨s0.u hb2_,bu s1 hb2_⟩
 clear hK K s0 s1
 try simp only[lyZ]
 refine tkZ 6 6 (h:=?_);simp only[lyZ];refine dnZ ?_;obtain⟨w3,hw3⟩: ∃u,u=q2:=⟨_,rfl⟩
 subst hw3;have HB3:=zq hHeld.2;clear hHeld HBE HED;by_cases z:B<0
 ·have q1:decide (B<0)=true:=decide_eq_true z
  have HZ:=zq z;clear z;have HF:=zq (show R=([],7)from by rw[<-HR.out];unfold qbU;rw[if_neg (by rw[HMB.out];decide),HS.out,HBQ.out,if_pos HZ.out]);go_wp2;go_ret2
  exact⟨none,0,0,[],by rw[HF.out];rfl,qem _,by rw[HF.out];rfl,HUP.out _ HB3.out⟩
 have q1:decide (B<0)=false:=decide_eq_false z;have HR:=zq (show(match qcU m B with|none=>(([],7):List (Int×List Int)×Int)|some v=>if m.path.length=1 then([(15,v)],0)else if(qa9 t m B (qa1 t m) true (m.path.drop 1)).2≠0 then([],(qa9 t m B (qa1 t m) true (m.path.drop 1)).2)else([(15,v),(5,dirB m.rev::B::(qa9 t m B (qa1 t m) true (m.path.drop 1)).1)],0))=R from by rw[<-HR.out];unfold qbU;rw[if_neg (by rw[HMB.out];decide),HS.out,HBQ.out,if_neg z];rfl);have HTSB:=zq (HTS.out B w3 (HUP.out _ HB3.out));obtain⟨ST15,hst⟩: ∃q,secsT m B=q:=⟨_,rfl⟩
 rw[hst]at HTSB;obtain⟨S1,S2⟩:=ST15;dsimp only at HTSB;have HST:=zq hst;clear z hst HTS HBQ;go_upto_region 6 with fail;clear q1;go_wp2_with (with_reducible refine ldZ 24 (H1.out w3 HB3.out) ?_);refine HTSB.out.mono ?_;rintro e_ w4 ⟨A4,n4,c4,rfl,hs4,hn4,hb4⟩;have HB4:=tB HB3 hb4;have HS4:=zq hs4;have HN4:=zq hn4;clear hb4 hs4 hn4 HTSB HB3
 cases hfi:qcU m B with
 |none=>
  obtain⟨rfl,rfl⟩:S1=[]/\S2=7:=by have h_:=HST.out;rw[tell_none17 hfi]at h_;injection h_ with h1_ h2_;exact⟨h1_.symm,h2_.symm⟩
  rw[hfi]at HR;clear hfi;have q1:((7:Int) !=0)=true:=rfl;have HF:=zq (HR.out.symm);go_wp2;go_ret2
  exact⟨none,0,0,[],by rw[HF.out];rfl,qem _,by rw[HF.out];rfl,HUP.out _ HB4.out⟩
 |some v=>
 obtain⟨h1_,hv⟩:=tell_some17 hfi;rw[HST.out]at h1_ hv;dsimp only at h1_ hv;subst h1_;rw[hfi]at HR;dsimp only at HR;have HV:=zq hv;have q1:((0:Int) !=0)=false:=rfl;clear hfi hv HST;have m1:w4.cell? ⟨w.heap.size+1,1,none⟩=some (.bool m.rev):=(H1.out w4 HB4.out).cell 1;obtain⟨DR,hDR⟩: ∃d,dirB m.rev=d:=⟨_,rfl⟩
 have HDI:=zq (fun W=>qfs m.rev W);rw[hDR]at HDI HR HV;clear hDR;go_upto_region 9 with fail;clear q1;go_wp2_with fail;refine(HDI.out w4).mono ?_;rintro e_ w4' ⟨rfl,hq4⟩;subst hq4;obtain⟨hO,hSL,h1,hBD⟩:=pourR 8 (base:=w4'.heap.size) (e:=3) (w:=w4'.alloc (.cells #[.int .i64 DR,.int .i64 B] 3)) (A:=some ⟨w4'.heap.size,0,none⟩) (n:=2) (c:=2) (l:=[DR,B]) (⟨World.ownsRow_lit (base:=w4'.heap.size) (e:=3) (size:=1) w4' #[.int .i64 DR,.int .i64 B] 2 (Nat.le_refl _) (by unfold maxLen;omega) rfl,rfl⟩:OwR inC 1 3 w4'.heap.size (w4'.alloc (.cells #[.int .i64 DR,.int .i64 B] 3)) (some ⟨w4'.heap.size,0,none⟩) 2 2 [DR,B]) (HS4.out.under ((Below.refl _ _).alloc (Nat.le_refl _) (.cells #[.int .i64 DR,.int .i64 B] 3))) qct (by simp) (by have:=HN4.out;omega) (by omega);go_wp2_with (with_reducible refine qaP (o:=⟨some 38,_,_,_,_,_⟩) rfl (.tmp 36) (.tmp 37) 22 rfl w4'.heap.size 3 (.int .i64 0) 1 8 Tryz.underlying22 qbG ?hz1 (by decide) (some ⟨w4'.heap.size,0,none⟩) 2 2 _ ?hs1 hO A4 n4 c4 _ ?hx1 hSL h1 hBD ?next1)
 all_goals try rfl
 intro A5 c5 w5 ho5 hg5;have HO5:=zq (show OwR inC 1 3 w4'.heap.size w5 A5 (2+n4) c5 v from by rw[HV.out];exact OwR.poured (l:=[DR,B]) rfl HS4.out.1 ho5.out);have HB5:=zq (qas (HB4.out.trans ((bA).mono HB4.out.size)) (Nat.le_trans HB4.out.size (by simp)) hO.out HB4.out.size rfl hg5.out);have HSZ:=zq (show wa.heap.size<=w4'.heap.size from HB4.out.size);clear ho5 hg5 hO hSL h1 hBD HB4 m1 HS4;obtain⟨w6,hw6⟩: ∃u,w5.alloc (.cells #[.int .i64 15,.slice A5 (2+n4) c5] 98)=u:=⟨_,rfl⟩
 have hb6:Below w5.heap.size w5 w6:=by rw[<-hw6];exact bA
 have HB6:=tB HB5 hb6;have HO6:=zq (HO5.out.under hb6);have HK6:=zq (show OwR pkC17 2 98 w5.heap.size w6 (some ⟨w5.heap.size,0,none⟩) 1 1 [⟨15,A5,2+n4,c5,v⟩]from by rw[<-hw6];exact⟨World.ownsRow_lit (base:=w5.heap.size) (e:=98) (size:=2) w5 #[.int .i64 15,.slice A5 (2+n4) c5] 1 (Nat.le_refl _) (by unfold maxLen;omega) rfl,rfl⟩);have HW6:=zq hw6;obtain⟨g5,hg5⟩: ∃g,w5.heap.size=g:=⟨_,rfl⟩
 have HG5:=zq hg5;rw[hg5]at HK6;have HS5:=zq (show wa.heap.size<=g5 from by rw[<-hg5];exact HB5.out.size);clear hw6 hb6 hg5 HB5 HO5;go_upto_region 10 with fail;rw[HW6.out];simp only[HG5.out];clear HW6 HG5;obtain⟨pn,hpn⟩: ∃n,m.path.length=n:=⟨_,rfl⟩
 have m2:w6.cell? ⟨w.heap.size+1,2,none⟩=some (.slice b.ap pn b.cp):=by rw[<-hpn];exact(H1.out w6 HB6.out).cell 2
 have HPN:=zq hpn;rw[hpn]at HR HP;clear hpn;by_cases z:pn=1
 ·have q1:((pn:Int)==1)=true:=by simp[z]
  have q2:(pn:Int)=1:=by omega
  have HF:=zq (HR.out.symm.trans (if_pos z));have HZ:=zq z;clear z;go_wp2;go_ret2
  refine⟨some ⟨g5,0,none⟩,1,1,[⟨15,A5,2+n4,c5,v⟩],by rw[HF.out];rfl,slk_of17 HK6.out (fun p_ hp_=>?_),by rw[HF.out];rfl,HUP.out _ HB6.out⟩;rw[List.mem_singleton]at hp_;subst hp_;exact sli_of17 HO6.out
 have q1:((pn:Int)==1)=false:=by simp;omega
 have q2: ¬(pn:Int)=1:=by omega
 have HR:=zq ((if_neg z).symm.trans HR.out);have HTLB:=zq (HTL.out HMB.out B w6 (HUP.out _ HB6.out));obtain⟨LV,hLV⟩: ∃q,(qa9 t m B (qa1 t m) true (m.path.drop 1))=q:=⟨_,rfl⟩
 rw[hLV]at HTLB HR;obtain⟨L1,L2⟩:=LV;dsimp only at HTLB HR;clear z hLV HTL;go_upto_region 12 with fail;clear q1 q2 m2;go_wp2_with (first|(with_reducible refine ldZ 47 (H0.out w6 HB6.out) ?_)|(with_reducible refine ldZ 48 (H1.out w6 HB6.out) ?_));refine HTLB.out.mono ?_;rintro e_ w8 ⟨A8,n8,c8,rfl,hs8,hn8,hb8⟩;have HB8:=tB HB6 hb8;have HS8:=zq hs8;have HN8:=zq hn8;have HO8:=zq (HO6.out.under hb8);have HK8:=zq (HK6.out.under hb8);clear hb8 hs8 hn8 HTLB HB6 HO6 HK6;by_cases z:L2=0;rotate_left
 ·have q1:(L2 !=0)=true:=by simp[z]
  have HZ:=zq z;clear z;have HF:=zq (HR.out.symm.trans (if_pos HZ.out));go_wp2;go_ret2
  exact⟨none,0,0,[],by rw[HF.out];rfl,qem _,by rw[HF.out];rfl,HUP.out _ HB8.out⟩
 subst z;have q1:((0:Int) !=0)=false:=rfl;have HF:=zq (HR.out.symm.trans (if_neg (by simp)));clear HR;have m1:w8.cell? ⟨w.heap.size+1,1,none⟩=some (.bool m.rev):=(H1.out w8 HB8.out).cell 1;go_upto_region 15 with fail;clear q1;go_wp2_with fail;refine(HDI.out w8).mono ?_;rintro e_ w8' ⟨rfl,hq8⟩;subst hq8;obtain⟨hO,hSL,h1,hBD⟩:=pourR 8 (base:=w8'.heap.size) (e:=3) (w:=w8'.alloc (.cells #[.int .i64 DR,.int .i64 B] 3)) (A:=some ⟨w8'.heap.size,0,none⟩) (n:=2) (c:=2) (l:=[DR,B]) (⟨World.ownsRow_lit (base:=w8'.heap.size) (e:=3) (size:=1) w8' #[.int .i64 DR,.int .i64 B] 2 (Nat.le_refl _) (by unfold maxLen;omega) rfl,rfl⟩:OwR inC 1 3 w8'.heap.size (w8'.alloc (.cells #[.int .i64 DR,.int .i64 B] 3)) (some ⟨w8'.heap.size,0,none⟩) 2 2 [DR,B]) (HS8.out.under ((Below.refl _ _).alloc (Nat.le_refl _) (.cells #[.int .i64 DR,.int .i64 B] 3))) qct (by simp) (by have:=HN8.out;omega) (by omega);go_wp2_with (with_reducible refine qaP (o:=⟨some 63,_,_,_,_,_⟩) rfl (.tmp 61) (.tmp 62) 22 rfl w8'.heap.size 3 (.int .i64 0) 1 8 Tryz.underlying22 qbG ?hz2 (by decide) (some ⟨w8'.heap.size,0,none⟩) 2 2 _ ?hs2 hO A8 n8 c8 _ ?hx2 hSL h1 hBD ?next2)
 all_goals try rfl
 intro A9 c9 w9 ho9 hg9;have HO9:=zq (show OwR inC 1 3 w8'.heap.size w9 A9 (2+n8) c9 ([DR,B]++L1)from OwR.poured (l:=[DR,B]) rfl HS8.out.1 ho9.out);have hbz:Below w8'.heap.size w8' w9:=qas (bA) (by simp) hO.out (Nat.le_refl _) rfl hg9.out;have HB9:=tB HB8 hbz;have HX9:=zq (HO8.out.under hbz);have HK9:=zq (HK8.out.under hbz);clear ho9 hg9 hO hSL h1 hBD HB8 m1 HS8 hbz HO8 HK8;have hbq:Below w9.heap.size w9 (w9.alloc (.cells #[.int .i64 5,.slice A9 (2+n8) c9] 98)):=bA;have HBQ:=tB HB9 hbq;have HOQ:=zq (HO9.out.under hbq);have HXQ:=zq (HX9.out.under hbq);obtain⟨hO,hSL,h1,hBD⟩:=pourR 32 (HK9.out.under hbq) (⟨rfl,qa3 (Has.made _ _ _) rfl⟩:SlO pkC17 2 (w9.alloc (.cells #[.int .i64 5,.slice A9 (2+n8) c9] 98)) (some ⟨w9.heap.size,0,none⟩) 1 1 [⟨5,A9,2+n8,c9,[DR,B]++L1⟩]) one_pk17 (Nat.le_trans (Nat.le_of_lt (HK9.out.lt rfl)) (by simp)) (by omega) (by omega);go_wp2_with (with_reducible refine qaP (o:=⟨some 66,_,_,_,_,_⟩) rfl (.tmp 56) (.tmp 65) 44 rfl g5 98 (.agg #[.int .i64 0,.slice none 0 0]) 2 32 Tryz.underlying44 info_pk17 ?hz3 (by decide) (some ⟨g5,0,none⟩) 1 1 _ ?hs3 hO (some ⟨w9.heap.size,0,none⟩) 1 1 _ ?hx3 hSL h1 hBD ?next3)
 all_goals try rfl
 intro AZ cz wz hoz hgz;have HOZ:=zq (show OwR pkC17 2 98 g5 wz AZ (1+1) cz (([⟨15,A5,2+n4,c5,v⟩]:List PkE)++([⟨5,A9,2+n8,c9,[DR,B]++L1⟩]:List PkE))from OwR.poured (l:=([⟨15,A5,2+n4,c5,v⟩]:List PkE)) (l':=([⟨5,A9,2+n8,c9,[DR,B]++L1⟩]:List PkE)) rfl rfl hoz.out);have HBZ:=zq (qas HBQ.out HBQ.out.size hO.out HS5.out rfl hgz.out);have HVZ:=zq (HXQ.out.kept hgz.out (OwR.two HXQ.out (HK9.out.under hbq) (by decide)));have HLZ:=zq (HOQ.out.kept hgz.out (OwR.two HOQ.out (HK9.out.under hbq) (by decide)));clear hoz hgz hO hSL h1 hBD HK9 HX9 HO9 HB9 HXQ HOQ HBQ hbq;go_wp2;go_ret2
 refine⟨AZ,1+1,cz,_,by rw[HF.out];rfl,slk_of17 HOZ.out (fun p_ hp_=>?_),by rw[HF.out];rfl,HUP.out _ HBZ.out⟩
 rcases List.mem_cons.1 hp_ with rfl|hp_
 ·exact sli_of17 HVZ.out
 ·rcases List.mem_cons.1 hp_ with rfl|hp_
  ·exact sli_of17 HLZ.out
  ·cases hp_
end
section
open Go.RowKit
def many (k:Nat)(last:Int):Nat:=if k=0 then last.toNat else if last=1 then 1 else if k=2/\last=2 then 1 else 0
def repS (f:WS->WS):Nat->WS->WS
 |0,s=>s
 |m+1,s=>if s.e≠0 then s else repS f m (f s)
mutual
def runN:Nd->Int->WS->Int×WS
 | .v n,_,s=>oneS n s
 | .g k b,last,s=>(last,repS (fun s=>runL b 0 s) (many k last) s)
def runL:List Nd->Int->WS->WS
 |[],_,s=>s
 |x::l,last,s=>if s.e≠0 then s else runL l (runN x last s).1 (runN x last s).2
end
mutual
def noN:Nd->Bool
 | .v n=>decide (n≠7)
 | .g _ b=>noL b
def noL:List Nd->Bool
 |[]=>true
 |x::l=>noN x &&noL l
end
mutual
def goodN:Nd->Bool
 | .v n=>decide (n<96)
 | .g k b=>decide (k<3) &&(goodL b &&noL b)
def goodL:List Nd->Bool
 |[]=>true
 |x::l=>goodN x &&goodL l
end
def c7:List Nd->Nat
 |[]=>0
 | .v n::l=>(if n=7 then 1 else 0)+c7 l
 | .g _ _::l=>c7 l
theorem qgd (n:Nat):isOpen (nameV n)=false/\isClose (nameV n)=false:=by
 by_cases h:n<96
 ·have:=List.all_eq_true.1 (show(List.range 96).all (fun n=>!isOpen (nameV n) &&!isClose (nameV n))=true from by kernel_rfl) n (List.mem_range.2 h)
  simpa using this
 ·have e:nameV n=vnone.name:=by
   unfold nameV;rw[List.getD_eq_getElem?_getD,List.getElem?_eq_none (by have:=qbY;omega)];rfl
  rw[e];exact⟨by kernel_rfl,by kernel_rfl⟩
theorem open_deep (k:Nat)(d:Int):qcz (openW k) d=d+1:=by
 unfold openW;split
 ·unfold qcz;rw[if_pos (by decide),if_neg (by decide)];omega
 ·split
  ·unfold qcz;rw[if_pos (by decide),if_neg (by decide)];omega
  ·unfold qcz;rw[if_pos (by decide),if_neg (by decide)];omega
theorem qfY (k:Nat)(d:Int):qcz (qbb k) d=d-1:=by
 unfold qbb;split
 ·unfold qcz;rw[if_neg (by decide),if_pos (by decide)]
 ·unfold qcz;rw[if_neg (by decide),if_pos (by decide)]
theorem name_deep (n:Nat)(d:Int):qcz (nameV n) d=d:=by
 obtain⟨h1,h2⟩:=qgd n;unfold qcz;rw[h1,h2,if_neg (by decide),if_neg (by decide)];omega
theorem qd3 (pre:List ByteArray)(x:ByteArray)(post:List ByteArray):(pre++x::post).getD pre.length ⟨#[]⟩=x:=by simp[List.getD_eq_getElem?_getD]
theorem qdu {L:List ByteArray}{i:Nat}{x:ByteArray}(h:L.getD i ⟨#[]⟩=x)(f:Nat){d d':Int}(hd:qcz x d=d')(h0:d'≠0):qba L (f+1) i d=qba L f (i+1) d':=by
 rw[qba,h,hd,if_neg h0]
mutual
theorem close_node: ∀(x:Nd) (pre post:List ByteArray) (f:Nat) (d:Int),1<=d->qba (pre++qa7 x++post) (f+(qa7 x).length) pre.length d=qba (pre++qa7 x++post) f (pre.length+(qa7 x).length) d
 | .v n,pre,post,f,d,hd=>by
  simp only[qa7,List.length_singleton];rw[List.append_assoc,List.singleton_append];exact qdu (qd3 pre _ post) f (name_deep n d) (by omega)
 | .g k b,pre,post,f,d,hd=>by
  simp only[qa7];have e:pre++openW k::(qai b++[qbb k])++post=(pre++[openW k])++qai b++(qbb k::post):=by simp
  have e2:pre++openW k::(qai b++[qbb k])++post=pre++openW k::(qai b++qbb k::post):=by simp
  have e3:pre++openW k::(qai b++[qbb k])++post=(pre++[openW k]++qai b)++qbb k::post:=by simp
  have hl:(openW k::(qai b++[qbb k])).length=(qai b).length+1+1:=by simp
  rw[hl];have s1:qba (pre++openW k::(qai b++[qbb k])++post) (f+1+(qai b).length+1) pre.length d=qba (pre++openW k::(qai b++[qbb k])++post) (f+1+(qai b).length) (pre.length+1) (d+1):=by
   refine qdu (x:=openW k) ?_ _ (open_deep k d) (by omega);rw[e2];exact qd3 _ _ _
  have s2:=qeu b (pre++[openW k]) (qbb k::post) (f+1) (d+1) (by omega);rw[<-e,show(pre++[openW k]).length=pre.length+1 by simp]at s2;have s3:qba (pre++openW k::(qai b++[qbb k])++post) (f+1) (pre.length+1+(qai b).length) (d+1)=qba (pre++openW k::(qai b++[qbb k])++post) f (pre.length+1+(qai b).length+1) d:=by
   refine qdu (x:=qbb k) ?_ _ (by rw[qfY];omega) (by omega);rw[e3,show pre.length+1+(qai b).length=(pre++[openW k]++qai b).length by rw[List.length_append,List.length_append,List.length_singleton]];exact qd3 _ _ _
  rw[show f+((qai b).length+1+1)=f+1+(qai b).length+1 by omega,s1,s2,s3]
  congr 1
  omega
theorem qeu: ∀(b:List Nd) (pre post:List ByteArray) (f:Nat) (d:Int),1<=d->qba (pre++qai b++post) (f+(qai b).length) pre.length d=qba (pre++qai b++post) f (pre.length+(qai b).length) d
 |[],pre,post,f,d,_=>by simp[qai]
 |x::l,pre,post,f,d,hd=>by
  simp only[qai];have e1:pre++(qa7 x++qai l)++post=pre++qa7 x++(qai l++post):=by simp
  have e2:pre++(qa7 x++qai l)++post=(pre++qa7 x)++qai l++post:=by simp
  have s1:=close_node x pre (qai l++post) (f+(qai l).length) d hd;have s2:=qeu l (pre++qa7 x) post f d hd;rw[<-e1]at s1;rw[<-e2,List.length_append]at s2;rw[List.length_append,show f+((qa7 x).length+(qai l).length)=f+(qai l).length+(qa7 x).length by omega,s1,s2]
  congr 1
  omega
end
theorem close_group (k:Nat)(b:List Nd)(pre post:List ByteArray)(n:Nat)(hn:n=(pre++qa7 (.g k b)++post).length):qba (pre++qa7 (.g k b)++post) (n-pre.length) pre.length 0=pre.length+1+(qai b).length:=by
 simp only[qa7]at*;have e:pre++openW k::(qai b++[qbb k])++post=(pre++[openW k])++qai b++(qbb k::post):=by simp
 have e2:pre++openW k::(qai b++[qbb k])++post=pre++openW k::(qai b++qbb k::post):=by simp
 have e3:pre++openW k::(qai b++[qbb k])++post=(pre++[openW k]++qai b)++qbb k::post:=by simp
 have hf:n-pre.length=post.length+1+(qai b).length+1:=by rw[hn];simp;omega
 rw[hf];have s1:qba (pre++openW k::(qai b++[qbb k])++post) (post.length+1+(qai b).length+1) pre.length 0=qba (pre++openW k::(qai b++[qbb k])++post) (post.length+1+(qai b).length) (pre.length+1) 1:=by
  refine qdu (x:=openW k) ?_ _ (by rw[open_deep];rfl) (by omega);rw[e2];exact qd3 _ _ _
 have s2:=qeu b (pre++[openW k]) (qbb k::post) (post.length+1) 1 (by omega);rw[<-e,show(pre++[openW k]).length=pre.length+1 by simp]at s2;rw[s1,s2,qba];have hx:(pre++openW k::(qai b++[qbb k])++post).getD (pre.length+1+(qai b).length) ⟨#[]⟩=qbb k:=by
  rw[e3,show pre.length+1+(qai b).length=(pre++[openW k]++qai b).length by rw[List.length_append,List.length_append,List.length_singleton]];exact qd3 _ _ _
 rw[hx,qfY,if_pos (by omega)]
structure Inv (s:WS) (slack:Nat):Prop where
 b:s.bits.length<=1000000
 v:s.V.length<=1000000
 g:s.got.length<=s.out.length
 o:s.out.length+(if s.rd=true then s.bits.length else s.V.length)+slack<=1000000
theorem inv_keep (v n:Int)(s:WS)(k:Nat)(h:Inv s (k+1)):Inv (keep v n s) k:=by
 obtain⟨h1,h2,h3,h4⟩:=h;unfold keep;split
 ·exact⟨h1,h2,by simp;omega,by simp only[List.length_append,List.length_singleton];omega⟩
 ·split
  ·exact⟨h1,h2,by simp;omega,by simp only[List.length_append,List.length_singleton];omega⟩
  ·exact⟨h1,h2,by simp;omega,by simp only[List.length_append,List.length_singleton];omega⟩
theorem qcr {s:WS}{k k':Nat}(h:Inv s k)(hk:k'<=k):Inv s k':=⟨h.b,h.v,h.g,by have:=h.o;omega⟩
theorem inv_err {s:WS}{k:Nat}(h:Inv s k)(e:Int):Inv {s with e:=e} k:=⟨h.b,h.v,h.g,h.o⟩
theorem inv_fetch (v:Int)(hv0:0<=v)(hv1:v<96)(s:WS)(k:Nat)(h:Inv s (k+if v=7 then 1 else 0))(he:(fetch v s).2.e=0):Inv (fetch v s).2 (k+1):=by
 obtain⟨w1,w2⟩:=qfN v hv0 hv1;obtain⟨h1,h2,h3,h4⟩:=h
 revert he
 unfold fetch;by_cases hr:s.rd=true
 ·rw[if_pos hr]
  rw[if_pos hr]at h4;by_cases hs:s.bits.length<qak v
  ·rw[if_pos hs]
   intro he;exact absurd he (by show(10:Int)≠0;decide)
  ·rw[if_neg hs]
   have hl:(s.bits.drop (qak v)).length+1<=s.bits.length:=by rw[List.length_drop];omega
   exact fun _=>⟨by show(s.bits.drop (qak v)).length<=_;omega,h2,h3,by show s.out.length+(if s.rd=true then(s.bits.drop (qak v)).length else s.V.length)+(k+1)<=_;rw[if_pos hr];omega⟩
 ·rw[if_neg hr]
  rw[if_neg hr]at h4;by_cases h7:v=7
  ·rw[if_pos h7]
   rw[if_pos h7]at h4;exact fun _=>⟨h1,h2,h3,by show s.out.length+(if s.rd=true then s.bits.length else s.V.length)+(k+1)<=_;rw[if_neg hr];omega⟩
  ·rw[if_neg h7]
   rw[if_neg h7]at h4;by_cases hV:s.V=[]
   ·rw[if_pos hV]
    intro he;exact absurd he (by show(20:Int)≠0;decide)
   ·rw[if_neg hV]
    obtain⟨V0,VT,hVc⟩:=List.exists_cons_of_ne_nil hV;have hl:s.V.tail.length+1=s.V.length:=by rw[hVc];simp
    exact fun _=>⟨h1,by show s.V.tail.length<=_;omega,h3,by show s.out.length+(if s.rd=true then s.bits.length else s.V.tail.length)+(k+1)<=_;rw[if_neg hr];omega⟩
theorem inv_fetch_bad (v:Int)(s:WS)(k:Nat)(h:Inv s k)(he:(fetch v s).2.e≠0)(h0:s.e=0):Inv (fetch v s).2 k:=by
 revert he
 unfold fetch;split
 ·split
  ·exact fun _=>inv_err h _
  ·exact fun he=>absurd h0 he
 ·split
  ·exact fun he=>absurd h0 he
  ·split
   ·exact fun _=>inv_err h _
   ·exact fun he=>absurd h0 he
theorem inv_one (v:Int)(hv0:0<=v)(hv1:v<96)(s:WS)(k:Nat)(h:Inv s (k+if v=7 then 1 else 0)):Inv (oneS v s).2 k:=by
 unfold oneS;by_cases he:s.e≠0
 ·rw[if_pos he]
  exact qcr h (by omega)
 ·rw[if_neg he]
  by_cases hf:(fetch v s).2.e≠0
  ·rw[if_pos hf]
   exact qcr (inv_fetch_bad v s _ h hf (by omega)) (by omega)
  ·rw[if_neg hf]
   have hi:=inv_fetch v hv0 hv1 s k h (by omega);split
   ·exact inv_err (qcr hi (by omega)) _
   ·exact inv_keep v _ _ k hi
theorem inv_rep (f:WS->WS)(k:Nat)(hf: ∀s,Inv s k->Inv (f s) k): ∀(m:Nat) (s:WS),Inv s k->Inv (repS f m s) k
 |0,s,h=>h
 |m+1,s,h=>by
  rw[repS];split
  ·exact h
  ·exact inv_rep f k hf m _ (hf s h)
theorem qge: ∀b:List Nd,noL b=true->c7 b=0
 |[],_=>rfl
 | .v n::l,h=>by
  simp only[noL,noN,Bool.and_eq_true,decide_eq_true_eq]at h;rw[c7,if_neg h.1,qge l h.2]
 | .g _ _::l,h=>by
  simp only[noL,Bool.and_eq_true]at h;rw[c7,qge l h.2]
theorem inv_oneN (n:Nat)(hn:n<96)(s:WS)(k:Nat)(h:Inv s (k+if n=7 then 1 else 0)):Inv (oneS n s).2 k:=by
 refine inv_one n (by omega) (by omega) s k ?_;by_cases h7:n=7
 ·subst h7;exact h
 ·rw[if_neg (by omega)];rw[if_neg h7]at h;exact h
mutual
theorem inv_runN: ∀(x:Nd) (l:List Nd) (last:Int) (s:WS) (k:Nat),goodN x=true->Inv s (k+c7 (x::l))->Inv (runN x last s).2 (k+c7 l)
 | .v n,l,last,s,k,hg,h=>by
  simp only[goodN,decide_eq_true_eq]at hg;rw[c7]at h;simp only[runN];exact inv_oneN n hg s _ (qcr h (by omega))
 | .g kk b,l,last,s,k,hg,h=>by
  simp only[goodN,Bool.and_eq_true,decide_eq_true_eq]at hg;rw[c7]at h;simp only[runN];refine inv_rep _ _ (fun s hs=>?_) _ _ h;exact qcs b 0 s _ hg.2.1 (by rw[qge b hg.2.2];exact hs)
theorem qcs: ∀(b:List Nd) (last:Int) (s:WS) (k:Nat),goodL b=true->Inv s (k+c7 b)->Inv (runL b last s) k
 |[],last,s,k,hg,h=>by simp only[runL];exact qcr h (by omega)
 |x::l,last,s,k,hg,h=>by
  simp only[goodL,Bool.and_eq_true]at hg;simp only[runL];split
  ·exact qcr h (by omega)
  ·exact qcs l _ _ k hg.2 (inv_runN x l last s k hg.1 h)
end
theorem find_name (n:Nat)(h:n<96):findOf (nameV n)=n:=by
 have:=List.all_eq_true.1 (show(List.range 96).all (fun n=>decide (findOf (nameV n)=(n:Int)))=true from by kernel_rfl) n (List.mem_range.2 h)
 simpa using this
theorem one_any (base g n:Nat)(hn:n<96)(s:WS)(w:World)(k:Nat)(h:WkAt base g w s)(hB:base<=w.heap.size)(hi:Inv s k):
  Calls Tryz.prog 188 #[.pointer (some ⟨g,0,none⟩),.int .i64 (n:Nat)] w fun e w'=>e= .returned (.int .i64 (oneS n s).1)/\WkAt base g w' (oneS n s).2/\Fr base w w':=by
 by_cases he:s.e=0
 ·have h1:=hi.b
  have h2:=hi.v;have h3:=hi.g;have h4:=hi.o;exact one_live base g n s w h hB he (by omega) (by omega) (by omega) (by omega) (by omega) (by omega)
 ·refine(one_done base g n s w h he).mono ?_
  rintro e w' ⟨rfl,rfl⟩;rw[oneS,if_pos he];exact⟨rfl,h,Fr.refl _ _⟩
end
section
open Go.RowKit
theorem cut_both {P:Program}(t e:TypeId)(h:P.underlying t=some (.slice e))(_he:P.elem t=e)(hs:(P.info? e).map (·.size)=some 1)(A:Option Addr)(n c p q:Nat)(hp:p<=q)(hq:q<=c)(w:World):
  (Instr.sliceAt t (.slice A n c) (some (.int .i64 (p:Nat))) (some (.int .i64 (q:Nat))) none).run P w= .ok (.slice (if c=p then A else A.map (·.add (p*1))) (q-p) (c-p)) w:=by
 have e1:(sizeOf e).run P w= .ok 1 w:=by
  cases hi:P.info? e with
  |none=>rw[hi]at hs;cases hs
  |some i=>
   rw[hi]at hs;simp only[Option.map_some,Option.some.injEq]at hs;simp[sizeOf,run_typeInfo _ hi,hs]
 have h0:(0:Int)<=(p:Nat):=by omega
 have h1:((p:Nat):Int)<=(q:Nat):=by omega
 have h2:(0:Int)<=(q:Nat):=by omega
 have h3:((q:Nat):Int)<=(c:Nat):=by omega
 simp[Instr.sliceAt,Instr.slice,run_underlying h,Instr.sliceBounds,run_sliceBound,h0,h1,h2,h3,e1]
structure StrSl (w:World) (A:Option Addr) (n c:Nat) (l:List ByteArray):Prop where
 len:l.length=n
 cap:n<=c
 sl:Sl w 1 A n c (strs l)
 row: ∀a,A=some a-> ∃cs fr,w.heap[a.block]?=some (.cells cs 9 fr)
theorem StrSl.keep {w w':World}{A:Option Addr}{n c:Nat}{l:List ByteArray}(h:StrSl w A n c l)(k:qgz w w'):StrSl w' A n c l:=by
 refine⟨h.len,h.cap,⟨h.sl.1,h.sl.2.1,fun ad ha j u hu=>?_⟩,fun a ha=>?_⟩
 ·obtain⟨cs,fr,hr⟩:=h.row ad ha
  have h0:=h.sl.2.2 ad ha j u hu;rw[World.cell?_of_block (w:=w) (by rw[qfa,hr];exact k _ _ _ hr)];exact h0
 ·obtain⟨cs,fr,hr⟩:=h.row a ha
  exact⟨cs,fr,k _ _ _ hr⟩
theorem StrSl.slw {w:World}{A:Option Addr}{n c:Nat}{l:List ByteArray}(h:StrSl w A n c l):SlW w A n c l:=⟨h.len,h.sl⟩
theorem StrSl.of_own {base:Nat}{w:World}{A:Option Addr}{n c:Nat}{l:List ByteArray}(h:OwS base w A n c l):StrSl w A n c l:=by
 have hs:=Sl.of_own h;refine⟨by have:=hs.1;rw[qfH]at this;omega,?_,hs,fun a ha=>?_⟩
 ·rcases h.2 with⟨e,e2⟩|⟨g,cap,cur,e,_,_,e2,_⟩
  ·omega
  ·injection e with _ _ e3;omega
 ·rcases h.2 with⟨e,_⟩|⟨g,cap,cur,e,_,hh,_⟩
  ·injection e with e;rw[e]at ha;cases ha
  ·injection e with e
   rw[e]at ha;injection ha with ha
   subst ha;exact⟨_,_,hh⟩
theorem StrSl.part {w:World}{A:Option Addr}{n c:Nat}{pre mid post:List ByteArray}(h:StrSl w A n c (pre++mid++post)):StrSl w (if c=pre.length then A else A.map (·.add (pre.length*1))) mid.length (c-pre.length) mid:=by
 have hl:=h.len;have hc:=h.cap;simp only[List.length_append]at hl;have h1:=h.sl.from_ hc (p:=pre.length) (by omega);have e1:(strs (pre++mid++post)).drop pre.length=strs mid++strs post:=by simp[strs]
 rw[e1]at h1;refine⟨rfl,by omega,⟨by rw[qfH];omega,fun e=>?_,fun ad ha j u hu=>?_⟩,fun a ha=>?_⟩
 ·have:=h1.2.1 e;omega
 ·refine h1.2.2 ad ha j u ?_
  have hj:=(List.getElem?_eq_some_iff.1 hu).1;rw[List.getElem?_append_left hj];exact hu
 ·obtain⟨a0,h2,h3⟩:=qew a ha
  rw[h3];exact h.row a0 h2
theorem qc1 (a b:List Nd):qai (a++b)=qai a++qai b:=by
 induction a with
 |nil=>simp[qai]
 |cons x l ih=>simp[qai,ih]
mutual
def szN:Nd->Nat
 | .v _=>1
 | .g _ b=>1+szL b
def szL:List Nd->Nat
 |[]=>0
 |x::l=>szN x+szL l
end
theorem qgt (a b:List Nd):szL (a++b)=szL a+szL b:=by
 induction a with
 |nil=>simp[szL]
 |cons x l ih=>simp[szL,ih];omega
theorem qc0 {W T:ByteArray}(l:List UInt8)(hT:T.toList=l)(h:W≠T):(W.toList==l)=false/\(W.toList !=l)=true:=by
 have:=qby W T;rw[hT,decide_eq_false h]at this;exact⟨this,by rw[bne,this];rfl⟩
theorem is_word {W T:ByteArray}(l:List UInt8)(hT:T.toList=l)(h:W=T):(W.toList==l)=true/\(W.toList !=l)=false:=by
 have:=qby W T;rw[hT,decide_eq_true h]at this;exact⟨this,by rw[bne,this];rfl⟩
theorem may_small (v:Nat)(hv:v<96)(n:Int)(h:mayOf v n=true):n<=4294967296:=by
 have h1:=List.all_eq_true.1 (show(List.range 96).all (fun v=>decide (qbn (v:Int)<=4294967296) &&decide (qa8 (v:Int)<=4294967296))=true from by kernel_rfl) v (List.mem_range.2 hv);simp only[Bool.and_eq_true,decide_eq_true_eq]at h1;unfold mayOf at h;simp only[Bool.and_eq_true,Bool.or_eq_true,decide_eq_true_eq]at h;omega
theorem one_small (v:Nat)(hv:v<96)(s:WS):(oneS v s).1<=4294967296:=by
 unfold oneS;split
 ·show(0:Int)<=4294967296;decide
 ·split
  ·show(0:Int)<=4294967296;decide
  ·by_cases h:mayOf v (fetch v s).1=false
   ·rw[if_pos h];show(0:Int)<=4294967296;decide
   ·rw[if_neg h]
    exact may_small v hv _ (by simpa using h)
theorem run_any: ∀(N:Nat) (b:List Nd),szL b<N->goodL b=true-> ∀(base g:Nat) (s:WS) (w:World) (A:Option Addr) (n c k:Nat),WkAt base g w s->base<=w.heap.size->Inv s (k+c7 b)->n<=1048576->StrSl w A n c (qai b)->
  Calls Tryz.prog 133 #[.pointer (some ⟨g,0,none⟩),.slice A n c] w fun e w'=>e= .returned (.tuple #[])/\WkAt base g w' (runL b 0 s)/\Fr base w w':=by
 intro N
 induction N with
 |zero=>intro b h;exact absurd h (by omega)
 |succ N ih=>
  intro b hsz hgood base g s w A n c k hwk hB hinv hn hstr;have IH:=zq ih;clear ih;obtain⟨R,hR⟩:=geZ (runL b 0 s);rw[hR];have hlen:=hstr.len;have HW0:=zq hwk;have HS0:=zq hstr;have HI0:=zq hinv;have HG0:=zq hgood;have HR:=zq hR;have HSZ:=zq hsz;have HLEN:=zq hlen;clear hwk hstr hinv hgood hR hsz hlen;go_enter Tryz.func133,Tryz.ntmps133;go_wp2;go_loopg [4,5] n (fun kk lv iv wl=> ∃(done rest:List Nd) (last:Int) (s':WS),b=done++rest/\(qai rest).length<=kk/\iv= .int .i64 (qai done).length/\lv= .int .i64 last/\last<=4294967296/\WkAt base g wl s'/\Fr base w wl/\Inv s' (k+c7 rest)/\goodL rest=true/\runL rest last s'=R)
  case atStart=>exact⟨[],b,0,s,rfl,by rw[HLEN.out];exact Nat.le_refl _,by simp[qai],rfl,by omega,HW0.out,Fr.refl _ _,HI0.out,HG0.out,HR.out⟩
  obtain⟨done,rest,last,s',hb,hkk,rfl,rfl,hlast,hwk,hfr,hinv,hgood,hrun⟩:=hrel;obtain⟨w1,hw1⟩: ∃w1,w1=wr:=⟨_,rfl⟩
  subst hw1;obtain⟨g1,hg1⟩: ∃g1,g1=gk:=⟨_,rfl⟩
  subst hg1;have hwl:qai b=qai done++qai rest:=by rw[hb,qc1]
  have hnl:n=(qai done).length+(qai rest).length:=by rw[<-HLEN.out,hwl,List.length_append]
  have HB:=zq hb;have HFR:=zq hfr;have HINV:=zq hinv;have HGD:=zq hgood;have HRUN:=zq hrun;have HWK:=zq hwk;have HWL:=zq hwl;clear hb hfr hinv hgood hrun hwl;have hB1:base<=w1.heap.size:=Nat.le_trans hB HFR.out.size;obtain⟨hg,AV,nV,cV,AB,nB,cB,AO,nO,cO,AG,nG,cG,hh,hr⟩:=hwk;have q5:w1.cell? ⟨g,5,none⟩=some (.int .i64 s'.e):=hh.cell 5;clear hh hr;have HS1:=zq (HS0.out.keep HFR.out.k);obtain⟨i,hi⟩:=geZ ((qai done).length);rw[hi]at hnl⊢;have HI:=zq hi;clear hi
  cases rest with
  |nil=>
   have hin: ¬(i:Int)<n:=by simp[qai]at hnl;omega
   clear hnl;have hR2:R=s':=by have:=HRUN.out;simp only[runL]at this;exact this.symm
   subst hR2;go_wp2;refine bodyPost_end (results_none rfl _ _ _) rfl ?_;exact⟨rfl,HWK.out,HFR.out⟩
  |cons x l=>
   have hx1:0<(qa7 x).length:=by cases x<;>simp[qa7]
   have hk1:1<=g1/\(qai l).length<=g1-1:=by
    rw[show(qai (x::l)).length=(qa7 x).length+(qai l).length by simp[qai]]at hkk;omega
   obtain⟨hk1,hk2⟩:=hk1;clear hkk;have hnl2:n=i+((qa7 x).length+(qai l).length):=by rw[hnl];simp[qai]
   have hin:(i:Int)<n:=by omega
   have hi0:(0:Int)<=i:=by omega
   obtain⟨sb,soff,rfl,hcell⟩:=HS1.out.slw.at_ (j:=i) (by omega);have HNL:=zq hnl2;clear hnl hnl2;by_cases he:s'.e=0
   ·have hee:(s'.e==0)=true:=by rw[he];rfl
    have hrun:=HRUN.out;simp only[runL]at hrun;rw[if_neg (by simp[he])]at hrun;have hinv:=HINV.out;have hgood:=HGD.out;simp only[goodL,Bool.and_eq_true]at hgood;have hW:(qai b).getD i ⟨#[]⟩=(qa7 x++qai l).getD 0 ⟨#[]⟩:=by
     rw[HWL.out,<-HI.out];simp only[qai];rw[List.getD_eq_getElem?_getD,List.getElem?_append_right (Nat.le_refl _),Nat.sub_self,<-List.getD_eq_getElem?_getD]
    clear he HRUN HINV HGD
    cases x with
    |v m=>
     have hm:m<96:=by simpa[goodN]using hgood.1
     have hW2:(qai b).getD i ⟨#[]⟩=nameV m:=by rw[hW];simp[qa7,List.getD_eq_getElem?_getD]
     rw[hW2]at hcell;obtain⟨p1,p2⟩:=qgd m;simp only[isOpen,Bool.or_eq_false_iff,decide_eq_false_iff_not]at p1;obtain⟨f1,f1'⟩:=qc0 [123] (by kernel_rfl) p1.1.1;obtain⟨f2,f2'⟩:=qc0 [60] (by kernel_rfl) p1.1.2;obtain⟨f3,f3'⟩:=qc0 [40,49,50] (by kernel_rfl) p1.2;have hrN:runN (.v m) last s'=oneS m s':=by simp only[runN]
     have hiN:=inv_runN (.v m) l last s' k (by simp[goodN,hm]) hinv;rw[hrN]at hrun hiN;have cf:=ref_find (nameV m);rw[find_name m hm]at cf;have HRN:=zq hrun;have HIN:=zq hiN;have HCF:=zq cf;have HGL:=zq hgood.2;have HI2:=zq (qcr hinv (Nat.le_add_right _ _:k<=k+c7 (.v m::l)));clear hrun hiN hrN cf hinv hgood hW hW2 p1 p2;generalize nameV m=W at*;go_wp2_with fail;refine(HCF.out _).mono ?_;rintro e w2 ⟨rfl,b2⟩;have HF2:=zq (fr_call b2 hB1);have hB2:base<=w2.heap.size:=Nat.le_trans hB1 b2.size;have hwk2:WkAt base g w2 s':=by
      obtain⟨hg,AV,nV,cV,AB,nB,cB,AO,nO,cO,AG,nG,cG,hh,hr⟩:=HWK.out;exact⟨hg,AV,nV,cV,AB,nB,cB,AO,nO,cO,AG,nG,cG,hh.u b2,hr.under b2 hB1⟩
     have c2:=one_any base g m hm s' w2 k hwk2 hB2 HI2.out;clear b2 hwk2;go_wp2_with fail;refine c2.mono ?_;clear c2;rintro e w3 ⟨rfl,hwk3,hf3⟩;have HWK3:=zq hwk3;have HF3:=zq (HF2.out.trans hf3);clear hwk3 hf3;go_wp2;go_roundg (g1-1)
     case measure=>omega
     case rel=>exact⟨done++[.v m],l,(oneS m s').1,(oneS m s').2,by rw[HB.out];simp,hk2,by rw[qc1,List.length_append,HI.out];simp[qai,qa7],rfl,one_small m hm s',HWK3.out,HFR.out.trans HF3.out,HIN.out,HGL.out,HRN.out⟩
    |g kk body=>
     have hgx:=hgood.1;simp only[goodN,Bool.and_eq_true,decide_eq_true_eq]at hgx;obtain⟨hk3,hgb,hnb⟩:=hgx;have hW2:(qai b).getD i ⟨#[]⟩=openW kk:=by rw[hW];simp[qa7,List.getD_eq_getElem?_getD]
     rw[hW2]at hcell;have hsplit:qai b=qai done++qa7 (.g kk body)++qai l:=by rw[HWL.out];simp[qai]
     have hcl:=close_group kk body (qai done) (qai l) n (by rw[<-hsplit,HLEN.out]);rw[<-hsplit,HI.out]at hcl;have cc:=closing_any (some ⟨sb,soff,none⟩) n c (qai b) i (by omega) hn w1 HS1.out.slw;rw[hcl]at cc;obtain⟨en,hen⟩:=geZ (i+1+(qai body).length);rw[hen]at cc;have hnl3:=HNL.out;rw[show(qa7 (.g kk body)).length=(qai body).length+2 by simp[qa7]]at hnl3;have hen2:en+1<=n:=by omega
     have hie:i+1<=en:=by omega
     have hstr2:StrSl w1 (some ⟨sb,soff,none⟩) n c ((qai done++[openW kk])++qai body++(qbb kk::qai l)):=by
      have h0:=HS1.out;rw[hsplit]at h0
      simpa[qa7]using h0
     have hpart:=hstr2.part;have hcap:=hstr2.cap;rw[List.length_append,List.length_singleton,HI.out]at hpart;have hbl:(qai body).length=en-(i+1):=by omega
     rw[hbl]at hpart;obtain⟨Ab,hAb⟩:=geZ ((if c=i+1 then some (⟨sb,soff,none⟩:Addr)else(some (⟨sb,soff,none⟩:Addr)).map (·.add ((i+1)*1))));have e1: ∀w,(Instr.sliceAt 190 (.slice (some ⟨sb,soff,none⟩) n c) (some (.int .i64 ((i:Int)+1))) (some (.int .i64 (en:Nat))) none).run Tryz.prog w= .ok (.slice Ab (en-(i+1)) (c-(i+1))) w:=by
      intro w;have:=cut_both 190 9 Tryz.underlying190 (by kernel_rfl) (by kernel_rfl) (some ⟨sb,soff,none⟩) n c (i+1) en (by omega) (by omega) w;rw[hAb]at this;exact this
     rw[hAb]at hpart;have hszb:szL body<N:=by
      have h0:=HSZ.out;rw[HB.out,qgt]at h0;simp only[szL,szN]at h0;omega
     have hc70:=qge body hnb;have hrN:runN (.g kk body) last s'=(last,repS (fun s=>runL body 0 s) (many kk last) s'):=by simp only[runN]
     have hinv2:Inv s' (k+c7 l):=by have:=hinv;rwa [show c7 (.g kk body::l)=c7 l by rw[c7]]at this
     rw[hrN]at hrun;obtain⟨M,hMn⟩: ∃M,M=many kk last:=⟨_,rfl⟩
     rw[<-hMn]at hrun;have hfin:(qai (done++[.g kk body])).length=en+1:=by rw[qc1,List.length_append,HI.out];simp[qai,qa7];omega
     have HMN:=zq hMn;have HRN:=zq hrun;have HCC:=zq cc;have HGL:=zq hgood.2;have HIV:=zq hinv2;have HPT:=zq hpart;have HZB:=zq hszb;have HGB:=zq hgb;have HC7:=zq hc70;have HFIN:=zq hfin;have HEN:=zq hen2;have HIE:=zq hie;have hen0:(0:Int)<=en:=by omega
     have hen9:(en:Int)<=1048576:=by omega
     clear hMn hrun cc hgood hinv hinv2 hpart hszb hgb hnb hc70 hrN hfin hW hW2 hsplit hcl hstr2 hbl hAb hnl3 hen2 hie hcap;obtain rfl|rfl|rfl:kk=0\/kk=1\/kk=2:=by omega
     ·obtain⟨f1,f1'⟩:=is_word [123] (by kernel_rfl) (show(openW 0)=⟨#[123]⟩from rfl)
      go_wp2_with fail;refine HCC.out.mono ?_;rintro e w' ⟨rfl,rfl⟩;go_upto_if 55 with fail;go_cut [7] (fun m7 wx=> ∃mv:Int,m7= .int .i64 mv/\mv.toNat=M/\mv<=4294967296/\wx=w1)
      case first=>
       go_wp2;go_meet
       exact⟨last,rfl,by rw[HMN.out];simp[many],hlast,rfl⟩
      obtain⟨mv,rfl,hmv,hmv9,hwx⟩:=hcut;subst hwx;go_wp2_with fail;go_loopg [8] M (fun kq jv wl=> ∃(j:Nat) (s2:WS),j<=M/\M-j<=kq/\jv= .int .i64 j/\WkAt base g wl s2/\Fr base wc wl/\Inv s2 (k+c7 l)/\repS (fun s=>runL body 0 s) (M-j) s2=repS (fun s=>runL body 0 s) M s')
      case atStart=>exact⟨0,s',by omega,by omega,rfl,HWK.out,Fr.refl _ _,HIV.out,rfl⟩
      obtain⟨j,s2,hj,hjq,rfl,hwk2,hf2,hi2,hrep⟩:=hrel;have HWK2:=zq hwk2;have HF2:=zq hf2;have HI2:=zq hi2;have HREP:=zq hrep;obtain⟨_,AV2,nV2,cV2,AB2,nB2,cB2,AO2,nO2,cO2,AG2,nG2,cG2,hh2,_⟩:=hwk2;have r5:wr.cell? ⟨g,5,none⟩=some (.int .i64 s2.e):=hh2.cell 5;have hB2:base<=wr.heap.size:=Nat.le_trans hB1 hf2.size;clear hh2 hf2 hi2 hrep;have hexit:(j=M\/s2.e≠0)->runL l last s2=R:=by
       intro h;have h0:=HRN.out;have h1:repS (fun s=>runL body 0 s) (M-j) s2=s2:=by
        rcases h with h|h
        ·rw[h,Nat.sub_self];rfl
        ·cases M-j with
         |zero=>rfl
         |succ q=>rw[repS,if_pos h]
       rw[<-HREP.out,h1]at h0;exact h0
      have HEX:=zq hexit;clear hexit;by_cases hjM:j<M
      ·have hjm:(j:Int)<mv:=by omega
       by_cases he2:s2.e=0
       ·have hee2:(s2.e==0)=true:=by rw[he2];rfl
        have c3:=IH.out body HZB.out HGB.out base g s2 wr Ab (en-(i+1)) (c-(i+1)) (k+c7 l) HWK2.out hB2 (by rw[HC7.out];exact HI2.out) (by have:=HEN.out;omega) (HPT.out.keep HF2.out.k);have HE2:=zq he2;clear he2;have C3:=zq c3;clear c3;go_wp2_with fail;refine C3.out.mono ?_;rintro e w4 ⟨rfl,hwk4,hf4⟩;have HWK4:=zq hwk4;have HF4:=zq (HF2.out.trans hf4);clear hwk4 hf4;go_wp2;go_roundg (gk-1)
        case measure=>omega
        case rel=>
         refine⟨j+1,runL body 0 s2,by omega,by omega,by go_num,HWK4.out,HF4.out,qcs body 0 s2 _ HGB.out (by rw[HC7.out];exact HI2.out),?_⟩;rw[<-HREP.out,show M-j=(M-(j+1))+1 by omega]
         conv=>rhs;rw[repS,if_neg (by simp[HE2.out])]
       ·have hee2:(s2.e==0)=false:=by rw[beq_eq_false_iff_ne];exact he2
        have HX:=zq (HEX.out (.inr he2));clear he2;go_wp2;go_roundg (g1-1)
        case measure=>omega
        case rel=>exact⟨done++[.g 0 body],l,last,s2,by rw[HB.out];simp,hk2,by rw[HFIN.out];go_num,rfl,hlast,HWK2.out,HFR.out.trans HF2.out,HI2.out,HGL.out,HX.out⟩
      ·have hjm: ¬(j:Int)<mv:=by omega
       have HX:=zq (HEX.out (.inl (by omega)));go_wp2;go_roundg (g1-1)
       case measure=>omega
       case rel=>exact⟨done++[.g 0 body],l,last,s2,by rw[HB.out];simp,hk2,by rw[HFIN.out];go_num,rfl,hlast,HWK2.out,HFR.out.trans HF2.out,HI2.out,HGL.out,HX.out⟩
     ·obtain⟨f1,f1'⟩:=qc0 (W:=openW 1) [123] (T:=⟨#[123]⟩) (by kernel_rfl) (by decide)
      obtain⟨f2,f2'⟩:=is_word [60] (by kernel_rfl) (show(openW 1)=⟨#[60]⟩from rfl);obtain⟨f3,f3'⟩:=qc0 (W:=openW 1) [40,49,50] (T:=⟨#[40,49,50]⟩) (by kernel_rfl) (by decide);go_wp2_with fail;refine HCC.out.mono ?_;rintro e w' ⟨rfl,rfl⟩;go_upto_if 55 with fail;go_cut [7] (fun m7 wx=> ∃mv:Int,m7= .int .i64 mv/\mv.toNat=M/\mv<=4294967296/\wx=w1)
      case first=>
       by_cases h1:last=1
       ·have h11:(last==1)=true:=by simp[h1]
        have hm1:(1:Int).toNat=M:=by rw[HMN.out,many,if_neg (by decide),if_pos h1];rfl
        have HM1:=zq hm1;clear hm1 h1;go_wp2;go_meet
        exact⟨1,rfl,HM1.out,by omega,rfl⟩
       ·have h11:(last==1)=false:=by simp[h1]
        have hm1:(0:Int).toNat=M:=by rw[HMN.out,many,if_neg (by decide),if_neg h1,if_neg (fun q=>absurd q.1 (by decide))];rfl
        have HM1:=zq hm1;clear hm1 h1;go_wp2;go_meet
        exact⟨0,rfl,HM1.out,by omega,rfl⟩
      obtain⟨mv,rfl,hmv,hmv9,hwx⟩:=hcut;subst hwx;go_wp2_with fail;go_loopg [8] M (fun kq jv wl=> ∃(j:Nat) (s2:WS),j<=M/\M-j<=kq/\jv= .int .i64 j/\WkAt base g wl s2/\Fr base wc wl/\Inv s2 (k+c7 l)/\repS (fun s=>runL body 0 s) (M-j) s2=repS (fun s=>runL body 0 s) M s')
      case atStart=>exact⟨0,s',by omega,by omega,rfl,HWK.out,Fr.refl _ _,HIV.out,rfl⟩
      obtain⟨j,s2,hj,hjq,rfl,hwk2,hf2,hi2,hrep⟩:=hrel;have HWK2:=zq hwk2;have HF2:=zq hf2;have HI2:=zq hi2;have HREP:=zq hrep;obtain⟨_,AV2,nV2,cV2,AB2,nB2,cB2,AO2,nO2,cO2,AG2,nG2,cG2,hh2,_⟩:=hwk2;have r5:wr.cell? ⟨g,5,none⟩=some (.int .i64 s2.e):=hh2.cell 5;have hB2:base<=wr.heap.size:=Nat.le_trans hB1 hf2.size;clear hh2 hf2 hi2 hrep;have hexit:(j=M\/s2.e≠0)->runL l last s2=R:=by
       intro h;have h0:=HRN.out;have h1:repS (fun s=>runL body 0 s) (M-j) s2=s2:=by
        rcases h with h|h
        ·rw[h,Nat.sub_self];rfl
        ·cases M-j with
         |zero=>rfl
         |succ q=>rw[repS,if_pos h]
       rw[<-HREP.out,h1]at h0;exact h0
      have HEX:=zq hexit;clear hexit;by_cases hjM:j<M
      ·have hjm:(j:Int)<mv:=by omega
       by_cases he2:s2.e=0
       ·have hee2:(s2.e==0)=true:=by rw[he2];rfl
        have c3:=IH.out body HZB.out HGB.out base g s2 wr Ab (en-(i+1)) (c-(i+1)) (k+c7 l) HWK2.out hB2 (by rw[HC7.out];exact HI2.out) (by have:=HEN.out;omega) (HPT.out.keep HF2.out.k);have HE2:=zq he2;clear he2;have C3:=zq c3;clear c3;go_wp2_with fail;refine C3.out.mono ?_;rintro e w4 ⟨rfl,hwk4,hf4⟩;have HWK4:=zq hwk4;have HF4:=zq (HF2.out.trans hf4);clear hwk4 hf4;go_wp2;go_roundg (gk-1)
        case measure=>omega
        case rel=>
         refine⟨j+1,runL body 0 s2,by omega,by omega,by go_num,HWK4.out,HF4.out,qcs body 0 s2 _ HGB.out (by rw[HC7.out];exact HI2.out),?_⟩;rw[<-HREP.out,show M-j=(M-(j+1))+1 by omega]
         conv=>rhs;rw[repS,if_neg (by simp[HE2.out])]
       ·have hee2:(s2.e==0)=false:=by rw[beq_eq_false_iff_ne];exact he2
        have HX:=zq (HEX.out (.inr he2));clear he2;go_wp2;go_roundg (g1-1)
        case measure=>omega
        case rel=>exact⟨done++[.g 1 body],l,last,s2,by rw[HB.out];simp,hk2,by rw[HFIN.out];go_num,rfl,hlast,HWK2.out,HFR.out.trans HF2.out,HI2.out,HGL.out,HX.out⟩
      ·have hjm: ¬(j:Int)<mv:=by omega
       have HX:=zq (HEX.out (.inl (by omega)));go_wp2;go_roundg (g1-1)
       case measure=>omega
       case rel=>exact⟨done++[.g 1 body],l,last,s2,by rw[HB.out];simp,hk2,by rw[HFIN.out];go_num,rfl,hlast,HWK2.out,HFR.out.trans HF2.out,HI2.out,HGL.out,HX.out⟩
     ·obtain⟨f1,f1'⟩:=qc0 (W:=openW 2) [123] (T:=⟨#[123]⟩) (by kernel_rfl) (by decide)
      obtain⟨f2,f2'⟩:=qc0 (W:=openW 2) [60] (T:=⟨#[60]⟩) (by kernel_rfl) (by decide);obtain⟨f3,f3'⟩:=is_word [40,49,50] (by kernel_rfl) (show(openW 2)=⟨#[40,49,50]⟩from rfl);go_wp2_with fail;refine HCC.out.mono ?_;rintro e w' ⟨rfl,rfl⟩;go_upto_if 55 with fail;go_cut [7] (fun m7 wx=> ∃mv:Int,m7= .int .i64 mv/\mv.toNat=M/\mv<=4294967296/\wx=w1)
      case first=>
       by_cases h1:last=1
       ·have h11:(last==1)=true:=by simp[h1]
        have hm1:(1:Int).toNat=M:=by rw[HMN.out,many,if_neg (by decide),if_pos h1];rfl
        have HM1:=zq hm1;clear hm1 h1;go_wp2;go_meet
        exact⟨1,rfl,HM1.out,by omega,rfl⟩
       ·have h11:(last==1)=false:=by simp[h1]
        by_cases h2:last=2
        ·have h21:(last==2)=true:=by simp[h2]
         have hm1:(1:Int).toNat=M:=by rw[HMN.out,many,if_neg (by decide),if_neg h1,if_pos ⟨rfl,h2⟩];rfl
         have HM1:=zq hm1;clear hm1 h1 h2;go_wp2;go_meet
         exact⟨1,rfl,HM1.out,by omega,rfl⟩
        ·have h21:(last==2)=false:=by simp[h2]
         have hm1:(0:Int).toNat=M:=by rw[HMN.out,many,if_neg (by decide),if_neg h1,if_neg (fun q=>h2 q.2)];rfl
         have HM1:=zq hm1;clear hm1 h1 h2;go_wp2;go_meet
         exact⟨0,rfl,HM1.out,by omega,rfl⟩
      obtain⟨mv,rfl,hmv,hmv9,hwx⟩:=hcut;subst hwx;go_wp2_with fail;go_loopg [8] M (fun kq jv wl=> ∃(j:Nat) (s2:WS),j<=M/\M-j<=kq/\jv= .int .i64 j/\WkAt base g wl s2/\Fr base wc wl/\Inv s2 (k+c7 l)/\repS (fun s=>runL body 0 s) (M-j) s2=repS (fun s=>runL body 0 s) M s')
      case atStart=>exact⟨0,s',by omega,by omega,rfl,HWK.out,Fr.refl _ _,HIV.out,rfl⟩
      obtain⟨j,s2,hj,hjq,rfl,hwk2,hf2,hi2,hrep⟩:=hrel;have HWK2:=zq hwk2;have HF2:=zq hf2;have HI2:=zq hi2;have HREP:=zq hrep;obtain⟨_,AV2,nV2,cV2,AB2,nB2,cB2,AO2,nO2,cO2,AG2,nG2,cG2,hh2,_⟩:=hwk2;have r5:wr.cell? ⟨g,5,none⟩=some (.int .i64 s2.e):=hh2.cell 5;have hB2:base<=wr.heap.size:=Nat.le_trans hB1 hf2.size;clear hh2 hf2 hi2 hrep;have hexit:(j=M\/s2.e≠0)->runL l last s2=R:=by
       intro h;have h0:=HRN.out;have h1:repS (fun s=>runL body 0 s) (M-j) s2=s2:=by
        rcases h with h|h
        ·rw[h,Nat.sub_self];rfl
        ·cases M-j with
         |zero=>rfl
         |succ q=>rw[repS,if_pos h]
       rw[<-HREP.out,h1]at h0;exact h0
      have HEX:=zq hexit;clear hexit;by_cases hjM:j<M
      ·have hjm:(j:Int)<mv:=by omega
       by_cases he2:s2.e=0
       ·have hee2:(s2.e==0)=true:=by rw[he2];rfl
        have c3:=IH.out body HZB.out HGB.out base g s2 wr Ab (en-(i+1)) (c-(i+1)) (k+c7 l) HWK2.out hB2 (by rw[HC7.out];exact HI2.out) (by have:=HEN.out;omega) (HPT.out.keep HF2.out.k);have HE2:=zq he2;clear he2;have C3:=zq c3;clear c3;go_wp2_with fail;refine C3.out.mono ?_;rintro e w4 ⟨rfl,hwk4,hf4⟩;have HWK4:=zq hwk4;have HF4:=zq (HF2.out.trans hf4);clear hwk4 hf4;go_wp2;go_roundg (gk-1)
        case measure=>omega
        case rel=>
         refine⟨j+1,runL body 0 s2,by omega,by omega,by go_num,HWK4.out,HF4.out,qcs body 0 s2 _ HGB.out (by rw[HC7.out];exact HI2.out),?_⟩;rw[<-HREP.out,show M-j=(M-(j+1))+1 by omega]
         conv=>rhs;rw[repS,if_neg (by simp[HE2.out])]
       ·have hee2:(s2.e==0)=false:=by rw[beq_eq_false_iff_ne];exact he2
        have HX:=zq (HEX.out (.inr he2));clear he2;go_wp2;go_roundg (g1-1)
        case measure=>omega
        case rel=>exact⟨done++[.g 2 body],l,last,s2,by rw[HB.out];simp,hk2,by rw[HFIN.out];go_num,rfl,hlast,HWK2.out,HFR.out.trans HF2.out,HI2.out,HGL.out,HX.out⟩
      ·have hjm: ¬(j:Int)<mv:=by omega
       have HX:=zq (HEX.out (.inl (by omega)));go_wp2;go_roundg (g1-1)
       case measure=>omega
       case rel=>exact⟨done++[.g 2 body],l,last,s2,by rw[HB.out];simp,hk2,by rw[HFIN.out];go_num,rfl,hlast,HWK2.out,HFR.out.trans HF2.out,HI2.out,HGL.out,HX.out⟩
   ·have hee:(s'.e==0)=false:=by rw[beq_eq_false_iff_ne];exact he
    have hR2:R=s':=by have:=HRUN.out;simp only[runL]at this;rw[if_pos he]at this;exact this.symm
    subst hR2;clear hcell he;go_wp2;refine bodyPost_end (results_none rfl _ _ _) rfl ?_;exact⟨rfl,HWK.out,HFR.out⟩
end
section
open Go.RowKit
structure SlP (w:World) (A:Option Addr) (m c:Nat) (l:List (Int×Int)):Prop where
 len:l.length=m
 sl:Sl w 2 A m c (pairs l)
theorem SlP.under {w w':World}{A:Option Addr}{m c:Nat}{l:List (Int×Int)}(h:SlP w A m c l)(hb:Below w.heap.size w w'):SlP w' A m c l:=⟨h.len,h.sl.under hb⟩
theorem qe6: ∀(l:List (Int×Int)) (j:Nat),j<l.length->(pairs l)[j*2]?=some (.int .i64 (l.getD j (0,0)).1)/\(pairs l)[j*2+1]?=some (.int .i64 (l.getD j (0,0)).2)
 |[],j,h=>absurd h (by simp)
 |x::l,0,_=>⟨rfl,rfl⟩
 |x::l,j+1,h=>by
  have e:pairs (x::l)= .int .i64 x.1:: .int .i64 x.2::pairs l:=rfl;have ih:=qe6 l j (by simpa using h);rw[e,show(j+1)*2=j*2+1+1 by omega,List.getElem?_cons_succ,List.getElem?_cons_succ,List.getElem?_cons_succ,List.getElem?_cons_succ];exact ih
theorem SlP.at_ {w:World}{A:Option Addr}{m c:Nat}{l:List (Int×Int)}(h:SlP w A m c l){j:Nat}(hj:j<m):
  ∃b off,A=some ⟨b,off,none⟩/\w.cell? ⟨b,off+j*2,none⟩=some (.int .i64 (l.getD j (0,0)).1)/\w.cell? ⟨b,off+j*2+1,none⟩=some (.int .i64 (l.getD j (0,0)).2):=by
 obtain⟨p1,p2⟩:=qe6 l j (by have:=h.len;omega);obtain⟨b,off,e,h1⟩:=h.sl.at_ p1;obtain⟨b',off',e',h2⟩:=h.sl.at_ p2;subst e;simp only[Option.some.injEq,Addr.mk.injEq,and_true]at e';obtain⟨rfl,rfl⟩:=e';exact⟨b,off,rfl,h1,by rw[Nat.add_assoc];exact h2⟩
def qar (l:List (Int×Int)):Int:=l.foldl (fun n x=>n+x.2) 0
theorem qdD (l:List (Int×Int))(x:Int×Int):qar (l++[x])=qar l+x.2:=by simp[qar]
theorem total_step (l:List (Int×Int))(j:Nat)(h:j<l.length):qar (l.take (j+1))=qar (l.take j)+(l.getD j (0,0)).2:=by
 rw[List.take_succ_eq_append_getElem h,qdD];simp[List.getD_eq_getElem?_getD,List.getElem?_eq_getElem h]
theorem total_any (A:Option Addr)(m c:Nat)(l:List (Int×Int))(w:World)(hl:SlP w A m c l)(hm:m<=1048576)(hw: ∀x∈l,0<=x.2/\x.2<=64):
  Calls Tryz.prog 136 #[.slice A m c] w fun e w'=>e= .returned (.int .i64 (qar l))/\w=w':=by
 have hlen:=hl.len;obtain⟨R,hR⟩:=geZ (qar l);rw[hR];have HL:=zq hl;have HW:=zq hw;have HR:=zq hR;clear hl hw hR;go_enter Tryz.func136,Tryz.ntmps136;go_wp2;go_loop [3,4] (fun nv iv=> ∃(j:Nat) (t:Int),j<=m/\iv= .int .i64 j/\nv= .int .i64 t/\qar (l.take j)=t/\0<=t/\t<=64*(j:Int)) (fun _ iv=>m-(intOf iv).toNat)
 case atStart=>exact⟨0,0,by omega,rfl,rfl,rfl,by omega,by omega⟩
 obtain⟨j,t,hj,rfl,rfl,ht,h0,h1⟩:=hrel;have HT:=zq ht;clear ht;by_cases hlt:j<m
 ·obtain⟨b,off,rfl,hc1,hc2⟩:=HL.out.at_ hlt
  have hjl:j<l.length:=by omega
  have hb:=HW.out (l.getD j (0,0)) (by rw[List.getD_eq_getElem?_getD,List.getElem?_eq_getElem hjl];exact List.getElem_mem hjl);have hst:=total_step l j hjl;rw[HT.out]at hst;generalize (l.getD j (0,0)).2=x at*;have HST:=zq hst;clear hst hc1 hjl;have x0:(0:Int)<=j:=by omega
  have x1:(j:Int)<m:=by omega
  obtain⟨b0,b1⟩:=hb;go_wp2;go_round
  case rel=>exact⟨j+1,t+x,by omega,by go_num,by go_num,HST.out,by omega,by omega⟩
  case measure=>simp[intOf];omega
 ·obtain rfl:j=m:=by omega
  have e:l.take j=l:=by rw[<-hlen,List.take_length]
  have ht:=HT.out;rw[e,HR.out]at ht;subst ht;go_wp2;go_ret
  exact⟨rfl,rfl⟩
end
section
open Go.RowKit
structure SlN (w:World) (A:Option Addr) (m c:Nat) (l:List Int):Prop where
 len:l.length=m
 sl:Sl w 1 A m c (ints l)
theorem SlN.under {w w':World}{A:Option Addr}{m c:Nat}{l:List Int}(h:SlN w A m c l)(hb:Below w.heap.size w w'):SlN w' A m c l:=⟨h.len,h.sl.under hb⟩
theorem SlN.draws {w:World}{A:Option Addr}{m c:Nat}{l:List Int}(h:SlN w A m c l)(n:Nat):SlN (w.drewN n) A m c l:=⟨h.len,h.sl.draws n⟩
theorem ints_at {l:List Int}{j:Nat}(h:j<l.length):(ints l)[j]?=some (.int .i64 (l.getD j 0)):=by
 simp[ints,List.getD_eq_getElem?_getD,List.getElem?_eq_getElem h]
theorem SlN.at_ {w:World}{A:Option Addr}{m c:Nat}{l:List Int}(h:SlN w A m c l){j:Nat}(hj:j<m): ∃b off,A=some ⟨b,off,none⟩/\w.cell? ⟨b,off+j,none⟩=some (.int .i64 (l.getD j 0)):=
 h.sl.at_ (ints_at (by have:=h.len;omega))
end
section
open Go.RowKit
def pkV (id:Int)(A:Option Addr)(n c:Nat):Value:= .agg #[.int .i64 id,.slice A n c]
theorem SlP.draws {w:World}{A:Option Addr}{m c:Nat}{l:List (Int×Int)}(h:SlP w A m c l)(n:Nat):SlP (w.drewN n) A m c l:=⟨h.len,h.sl.draws n⟩
end
section
open Go.RowKit
open BitsM
def qaz (l:List (Int×Int)):List Bool:=l.flatMap fun x=>wbits x.1.toNat x.2.toNat x.2.toNat
def FitP (x:Int×Int):Prop:=0<=x.1/\x.1<4294967296/\1<=x.2/\x.2<=32
end
end Go.Proofs.YtahadmeilajdgaaGreatDoor
