/-
  Our own text, joined.
-/
import Derived.Test.YtahadmeilajdgaaGreatDoorMsaj
import Derived.Test.YtahadmeilajdgaaGreatDoorMsaa
import Derived.BigQuiet
import Derived.IntWalk
import Derived.Deep.QuietTactic
import Derived.Test.YtahadmeilajdgaaGreatDoorMsae
import Derived.Test.YtahadmeilajdgaaGreatDoorMsab
namespace Go.Proofs.YtahadmeilajdgaaGreatDoor
set_option maxRecDepth 100000
set_option maxHeartbeats 80000000
section
open Go.RowKit
structure PkE where
 id:Int
 A:Option Addr
 n:Nat
 c:Nat
 V:List Int
def pkCells (l:List PkE):List Value:=l.flatMap fun p=>[.int .i64 p.id,.slice p.A p.n p.c]
def pkPlain (l:List PkE):List (Int×List Int):=l.map fun p=>(p.id,p.V)
theorem pkCells_at: ∀(l:List PkE) (j:Nat) (h:j<l.length),(pkCells l)[j*2]?=some (.int .i64 l[j].id)/\(pkCells l)[j*2+1]?=some (.slice l[j].A l[j].n l[j].c)
 |p::l,0,_=>⟨rfl,rfl⟩
 |p::l,j+1,h=>by
  have:=pkCells_at l j (by simpa using h);rw[show pkCells (p::l)= .int .i64 p.id:: .slice p.A p.n p.c::pkCells l from rfl,show(j+1)*2=j*2+1+1 by omega];exact this
structure SlK (w:World) (A:Option Addr) (m c:Nat) (l:List PkE):Prop where
 len:l.length=m
 cap:m<=c
 sl:Sl w 2 A m c (pkCells l)
 each: ∀p∈l,SlI w.heap.size w p.A p.n p.c p.V
theorem sliUnder {w w':World}{A:Option Addr}{n c:Nat}{V:List Int}(h:SlI w.heap.size w A n c V)(hb:Below w.heap.size w w'):SlI w'.heap.size w' A n c V:=by
 have h2:=h.below hb;exact⟨h2.len,h2.cap,h2.sl,fun hc a ha=>Nat.lt_of_lt_of_le (h2.low hc a ha) hb.size⟩
theorem SlK.under {w w':World}{A:Option Addr}{m c:Nat}{l:List PkE}(h:SlK w A m c l)(hb:Below w.heap.size w w'):SlK w' A m c l:=
 ⟨h.len,h.cap,h.sl.under hb,fun p hp=>sliUnder (h.each p hp) hb⟩
theorem SlK.at_ {w:World}{A:Option Addr}{m c:Nat}{l:List PkE}(h:SlK w A m c l){j:Nat}(hj:j<l.length):
  ∃b off,A=some ⟨b,off,none⟩/\w.cell? ⟨b,off+j*2,none⟩=some (.int .i64 l[j].id)/\w.cell? ⟨b,off+j*2+1,none⟩=some (.slice l[j].A l[j].n l[j].c):=by
 obtain⟨h1,h2⟩:=pkCells_at l j hj;obtain⟨b,off,hA,hc⟩:=h.sl.at_ h1;obtain⟨b',off',hA',hc'⟩:=h.sl.at_ h2;rw[hA]at hA';simp only[Option.some.injEq,Addr.mk.injEq,and_true]at hA';obtain⟨rfl,rfl⟩:=hA';exact⟨b,off,hA,hc,by rw[<-Nat.add_assoc]at hc';exact hc'⟩
end
section
open Go.RowKit
open Go.Great
theorem flat_ints17 (V:List Int):V.flatMap inC=ints V:=by
 induction V with
 |nil=>rfl
 |cons x r ih=>rw[List.flatMap_cons,ih];rfl
theorem sli_of17 {base:Nat}{w:World}{A:Option Addr}{n c:Nat}{V:List Int}(h:OwR inC 1 3 base w A n c V):SlI w.heap.size w A n c V:=
 ⟨h.2,h.cap,by rw[<-flat_ints17];exact h.sl.2,fun _ a ha=>h.lt ha⟩
def pkC17 (p:PkE):List Value:=[.int .i64 p.id,.slice p.A p.n p.c]
theorem one_pk17 (p:PkE): ∀u∈pkC17 p,u.oneCell'=true:=by
 intro u hu;simp only[pkC17,List.mem_cons,List.not_mem_nil,or_false]at hu
 rcases hu with rfl|rfl<;>rfl
theorem info_pk17:(Tryz.prog.info? 98).map (fun i=>(i.zero,i.size,i.bytes))=some (some (.agg #[.int .i64 0,.slice none 0 0]),2,32):=by kernel_rfl
theorem slk_of17 {base:Nat}{w:World}{A:Option Addr}{n c:Nat}{L:List PkE}(h:OwR pkC17 2 98 base w A n c L)(he: ∀p∈L,SlI w.heap.size w p.A p.n p.c p.V):SlK w A n c L:=⟨h.2,h.cap,h.sl.2,he⟩
theorem slk_nil17 (w:World):SlK w none 0 0 []:=⟨rfl,Nat.le_refl _,sl_nil _ _,fun _ h=>by cases h⟩
theorem end_sum17 {t:Tp3}{m:Ma3}(h:mayM t m=true):0<=endM m+m.gap/\endM m+m.gap<=41000000:=by
 have h1:=mayM_iff.1 h;have h2:=len_ok h1.len;have h3:=(sum_ok (check_routes h1.check).1 h2.2.2.1).2;have h4:0<=endM m:=secs_last h1.secs;have h5:=h1.gap0;have h6:=h1.fits;have h7:=(on_bnd17 t m.path (placeM t m)).1;have h8:behindM t m=(onE t m.path (placeM t m)).1:=rfl;omega
theorem tell_none17 {m:Ma3}{u:Int}(h:fifteenE m u=none):secsT m u=([],7):=by
 unfold fifteenE at h;unfold secsT
 cases hq:secsV u 0 m.sects with
 |none=>rfl
 |some w=>rw[hq]at h;cases h
theorem tell_some17 {m:Ma3}{u:Int}{v:List Int}(h:fifteenE m u=some v):(secsT m u).2=0/\v=[dirB m.rev,u]++(secsT m u).1:=by
 unfold fifteenE at h;unfold secsT
 cases hq:secsV u 0 m.sects with
 |none=>rw[hq]at h;cases h
 |some w=>
  rw[hq]at h;injection h with h
  rw[<-h];exact⟨rfl,rfl⟩
theorem opn_packets (t:Tp3)(a:TpA)(m:Ma3)(b:MaA)(w:World)(ht:TopR w t a)(hl:lightT t=true)(hcj:t.joints.length<=a.cj)(hm:MaR w m b)(hn:m.path.length<=100)(hk:m.sects.length<=100):Calls Tryz.prog 25 #[.agg (tpC t a),.agg (maC m b)] w fun r w'=> ∃(B:Option Addr) (k c:Nat) (L:List PkE),r= .returned (.tuple #[.slice B k c,.int .i64 (packetsE t m).2])/\SlK w' B k c L/\pkPlain L=(packetsE t m).1/\Below w.heap.size w w':=by
 have HMY:=zq (fun W (hW:Below w.heap.size w W)=>opn_may t a m b W (ht.under hW) hl hcj (hm.under hW) hn hk);obtain⟨R,hR⟩:=geZ (packetsE t m);rw[hR];have HR:=zq hR;have HTL:=zq (fun(hmay:mayM t m=true) u W (hW:Below w.heap.size w W)=>optellinks_any t a m b u W (ht.under hW) hl hcj (hm.under hW) hmay);have HTS:=zq (fun u W (hW:Below w.heap.size w W)=>optellsecs_any m b u W (hm.under hW) hk);have HED:=zq (fun W (hW:Below w.heap.size w W) h1=>opend_any m b W (hm.under hW).sects h1 (by omega));obtain⟨my,hmy⟩: ∃x,mayM t m=x:=⟨_,rfl⟩
 rw[hmy]at HMY;have HMB:=zq hmy;clear hmy hR hm hn hk;obtain⟨wa,hwa,hbwa,HWA,HBWA,h0,h1⟩:=bx2Z w 27 (tpC t a) 38 (maC m b);have H0:=zH h0;have H1:=zH h1;have HUP:=zq (fun W (hW:Below wa.heap.size wa W)=>HBWA.out.trans (hW.mono HBWA.out.size));clear hwa hbwa h0 h1 ht hl hcj;go_enter Tryz.func25,Tryz.ntmps25;go_upto_region 1 with fail;rw[HWA.out];clear HWA;go_wp2_with (first|(with_reducible refine ldZ 11 (H0.out wa (Below.refl _ _)) ?_)|(with_reducible refine ldZ 12 (H1.out wa (Below.refl _ _)) ?_));refine(HMY.out wa HBWA.out).mono ?_;rintro e_ w1 ⟨rfl,hb1⟩;have HB1:=zq hb1;clear hb1 HMY
 cases my with
 |false=>
  have HF:=zq (show R=([],1)from by rw[<-HR.out];unfold packetsE;rw[if_pos HMB.out]);go_wp2;go_ret2
  exact⟨none,0,0,[],by rw[HF.out];rfl,slk_nil17 _,by rw[HF.out];rfl,HUP.out _ HB1.out⟩
 |true=>
 have HP:=zq (may_path17 HMB.out);obtain⟨S,hS⟩:=geZ (endM m+m.gap);have HSB:=zq (show 0<=S/\S<=41000000 from by rw[<-hS];exact end_sum17 HMB.out);have HS:=zq hS;have hw1:IntKind.i64.wrap (endM m+m.gap)=S:=by rw[IntKind.wrap_i64];have:=HSB.out;omega
 have HW1:=zq hw1;obtain⟨B,hB⟩:=geZ (bestOf S);have HBE:Hid (∀W,Calls Tryz.prog 29 #[.int .i64 S] W fun e w'=>e= .returned (.int .i64 B)/\Below W.heap.size W w'):=zq (fun W=>(best_any S W).mono (fun e w' h=>⟨by rw[h.1,hB],by rw[<-h.2];exact Below.refl _ _⟩));have HBQ:=zq hB;clear hS hw1 hB;go_upto_region 3 with fail;refine wp_region_held_drew (S:=(fun W_=>(Has W_ (w.heap.size+1) 38 (maC m b))/\(Below wa.heap.size wa W_))) (by kernel_rfl) ?_ (fun hHeld=>?_)
 ·exact⟨(H1.out _ HB1.out).draw,below_dr11 HB1.out⟩
 refine tlZ 0 15 (w.heap.size+1) (maC m b) (fun _ ⟨h_,_⟩=>h_) (h:=?_);simp only[lyZ];refine tkZ 2 17 (h:=?_);simp only[lyZ];refine tqZ 3 18 (fun w_ ⟨s0,s1⟩=>(show w_.cell? ⟨w.heap.size+1,4,none⟩=some (.int .i64 m.gap:Value)from s0.cell 4)) (h:=?_);simp only[lyZ];refine aoZ 1 (some 16) (fun K hK=>?_);go_simp;obtain⟨s0,s1⟩:=hHeld;refine(HED.out _ (HUP.out _ s1) HP.out.2.2.1).mono ?_;rintro e_ q1 ⟨rfl,hb_⟩;go_wp2_with fail;refine hK.out _ _ ?_ (fun hHeld=>?_)
 ·exact⟨s0.u hb_,bu s1 hb_⟩
 clear hK K s0 s1
 try simp only[lyZ]
 refine tqZ 4 19 (fun w_ ⟨s0,s1⟩=>HW1.out) (h:=?_);simp only[lyZ];refine aoZ 5 (some 20) (fun K hK=>?_);go_simp;obtain⟨s0,s1⟩:=hHeld;refine(HBE.out _).mono ?_;rintro e_ q2 ⟨rfl,hb2_⟩;go_wp2_with fail;refine hK.out _ _ ?_ (fun hHeld=>?_)
 ·exact⟨s0.u hb2_,bu s1 hb2_⟩
 clear hK K s0 s1
 try simp only[lyZ]
 refine tkZ 6 6 (h:=?_);simp only[lyZ];refine dnZ ?_;obtain⟨w3,hw3⟩: ∃u,u=q2:=⟨_,rfl⟩
 subst hw3;have HB3:=zq hHeld.2;clear hHeld HBE HED;by_cases z:B<0
 ·have q1:decide (B<0)=true:=decide_eq_true z
  have HZ:=zq z;clear z;have HF:=zq (show R=([],7)from by rw[<-HR.out];unfold packetsE;rw[if_neg (by rw[HMB.out];decide),HS.out,HBQ.out,if_pos HZ.out]);go_wp2;go_ret2
  exact⟨none,0,0,[],by rw[HF.out];rfl,slk_nil17 _,by rw[HF.out];rfl,HUP.out _ HB3.out⟩
 have q1:decide (B<0)=false:=decide_eq_false z;have HR:=zq (show(match fifteenE m B with|none=>(([],7):List (Int×List Int)×Int)|some v=>if m.path.length=1 then([(15,v)],0)else if(linksV t m B (behindM t m) true (m.path.drop 1)).2≠0 then([],(linksV t m B (behindM t m) true (m.path.drop 1)).2)else([(15,v),(5,dirB m.rev::B::(linksV t m B (behindM t m) true (m.path.drop 1)).1)],0))=R from by rw[<-HR.out];unfold packetsE;rw[if_neg (by rw[HMB.out];decide),HS.out,HBQ.out,if_neg z];rfl);have HTSB:=zq (HTS.out B w3 (HUP.out _ HB3.out));obtain⟨ST15,hst⟩: ∃q,secsT m B=q:=⟨_,rfl⟩
 rw[hst]at HTSB;obtain⟨S1,S2⟩:=ST15;dsimp only at HTSB;have HST:=zq hst;clear z hst HTS HBQ;go_upto_region 6 with fail;clear q1;go_wp2_with (with_reducible refine ldZ 24 (H1.out w3 HB3.out) ?_);refine HTSB.out.mono ?_;rintro e_ w4 ⟨A4,n4,c4,rfl,hs4,hn4,hb4⟩;have HB4:=tB HB3 hb4;have HS4:=zq hs4;have HN4:=zq hn4;clear hb4 hs4 hn4 HTSB HB3
 cases hfi:fifteenE m B with
 |none=>
  obtain⟨rfl,rfl⟩:S1=[]/\S2=7:=by have h_:=HST.out;rw[tell_none17 hfi]at h_;injection h_ with h1_ h2_;exact⟨h1_.symm,h2_.symm⟩
  rw[hfi]at HR;clear hfi;have q1:((7:Int) !=0)=true:=rfl;have HF:=zq (HR.out.symm);go_wp2;go_ret2
  exact⟨none,0,0,[],by rw[HF.out];rfl,slk_nil17 _,by rw[HF.out];rfl,HUP.out _ HB4.out⟩
 |some v=>
 obtain⟨h1_,hv⟩:=tell_some17 hfi;rw[HST.out]at h1_ hv;dsimp only at h1_ hv;subst h1_;rw[hfi]at HR;dsimp only at HR;have HV:=zq hv;have q1:((0:Int) !=0)=false:=rfl;clear hfi hv HST;have m1:w4.cell? ⟨w.heap.size+1,1,none⟩=some (.bool m.rev):=(H1.out w4 HB4.out).cell 1;obtain⟨DR,hDR⟩: ∃d,dirB m.rev=d:=⟨_,rfl⟩
 have HDI:=zq (fun W=>opdir_any m.rev W);rw[hDR]at HDI HR HV;clear hDR;go_upto_region 9 with fail;clear q1;go_wp2_with fail;refine(HDI.out w4).mono ?_;rintro e_ w4' ⟨rfl,hq4⟩;subst hq4;obtain⟨hO,hSL,h1,hBD⟩:=pourR 8 (base:=w4'.heap.size) (e:=3) (w:=w4'.alloc (.cells #[.int .i64 DR,.int .i64 B] 3)) (A:=some ⟨w4'.heap.size,0,none⟩) (n:=2) (c:=2) (l:=[DR,B]) (⟨World.ownsRow_lit (base:=w4'.heap.size) (e:=3) (size:=1) w4' #[.int .i64 DR,.int .i64 B] 2 (Nat.le_refl _) (by unfold maxLen;omega) rfl,rfl⟩:OwR inC 1 3 w4'.heap.size (w4'.alloc (.cells #[.int .i64 DR,.int .i64 B] 3)) (some ⟨w4'.heap.size,0,none⟩) 2 2 [DR,B]) (HS4.out.under ((Below.refl _ _).alloc (Nat.le_refl _) (.cells #[.int .i64 DR,.int .i64 B] 3))) one_in15 (by simp) (by have:=HN4.out;omega) (by omega);go_wp2_with (with_reducible refine wpList_pour (o:=⟨some 38,_,_,_,_,_⟩) rfl (.tmp 36) (.tmp 37) 22 rfl w4'.heap.size 3 (.int .i64 0) 1 8 Tryz.underlying22 info_int15 ?hz1 (by decide) (some ⟨w4'.heap.size,0,none⟩) 2 2 _ ?hs1 hO A4 n4 c4 _ ?hx1 hSL h1 hBD ?next1)
 all_goals try rfl
 intro A5 c5 w5 ho5 hg5;have HO5:=zq (show OwR inC 1 3 w4'.heap.size w5 A5 (2+n4) c5 v from by rw[HV.out];exact OwR.poured (l:=[DR,B]) rfl HS4.out.1 ho5.out);have HB5:=zq (below_own (HB4.out.trans ((bA).mono HB4.out.size)) (Nat.le_trans HB4.out.size (by simp)) hO.out HB4.out.size rfl hg5.out);have HSZ:=zq (show wa.heap.size<=w4'.heap.size from HB4.out.size);clear ho5 hg5 hO hSL h1 hBD HB4 m1 HS4;obtain⟨w6,hw6⟩: ∃u,w5.alloc (.cells #[.int .i64 15,.slice A5 (2+n4) c5] 98)=u:=⟨_,rfl⟩
 have hb6:Below w5.heap.size w5 w6:=by rw[<-hw6];exact bA
 have HB6:=tB HB5 hb6;have HO6:=zq (HO5.out.under hb6);have HK6:=zq (show OwR pkC17 2 98 w5.heap.size w6 (some ⟨w5.heap.size,0,none⟩) 1 1 [⟨15,A5,2+n4,c5,v⟩]from by rw[<-hw6];exact⟨World.ownsRow_lit (base:=w5.heap.size) (e:=98) (size:=2) w5 #[.int .i64 15,.slice A5 (2+n4) c5] 1 (Nat.le_refl _) (by unfold maxLen;omega) rfl,rfl⟩);have HW6:=zq hw6;obtain⟨g5,hg5⟩: ∃g,w5.heap.size=g:=⟨_,rfl⟩
 have HG5:=zq hg5;rw[hg5]at HK6;have HS5:=zq (show wa.heap.size<=g5 from by rw[<-hg5];exact HB5.out.size);clear hw6 hb6 hg5 HB5 HO5;go_upto_region 10 with fail;rw[HW6.out];simp only[HG5.out];clear HW6 HG5;obtain⟨pn,hpn⟩: ∃n,m.path.length=n:=⟨_,rfl⟩
 have m2:w6.cell? ⟨w.heap.size+1,2,none⟩=some (.slice b.ap pn b.cp):=by rw[<-hpn];exact(H1.out w6 HB6.out).cell 2
 have HPN:=zq hpn;rw[hpn]at HR HP;clear hpn;by_cases z:pn=1
 ·have q1:((pn:Int)==1)=true:=by simp[z]
  have q2:(pn:Int)=1:=by omega
  have HF:=zq (HR.out.symm.trans (if_pos z));have HZ:=zq z;clear z;go_wp2;go_ret2
  refine⟨some ⟨g5,0,none⟩,1,1,[⟨15,A5,2+n4,c5,v⟩],by rw[HF.out];rfl,slk_of17 HK6.out (fun p_ hp_=>?_),by rw[HF.out];rfl,HUP.out _ HB6.out⟩;rw[List.mem_singleton]at hp_;subst hp_;exact sli_of17 HO6.out
 have q1:((pn:Int)==1)=false:=by simp;omega
 have q2: ¬(pn:Int)=1:=by omega
 have HR:=zq ((if_neg z).symm.trans HR.out);have HTLB:=zq (HTL.out HMB.out B w6 (HUP.out _ HB6.out));obtain⟨LV,hLV⟩: ∃q,(linksV t m B (behindM t m) true (m.path.drop 1))=q:=⟨_,rfl⟩
 rw[hLV]at HTLB HR;obtain⟨L1,L2⟩:=LV;dsimp only at HTLB HR;clear z hLV HTL;go_upto_region 12 with fail;clear q1 q2 m2;go_wp2_with (first|(with_reducible refine ldZ 47 (H0.out w6 HB6.out) ?_)|(with_reducible refine ldZ 48 (H1.out w6 HB6.out) ?_));refine HTLB.out.mono ?_;rintro e_ w8 ⟨A8,n8,c8,rfl,hs8,hn8,hb8⟩;have HB8:=tB HB6 hb8;have HS8:=zq hs8;have HN8:=zq hn8;have HO8:=zq (HO6.out.under hb8);have HK8:=zq (HK6.out.under hb8);clear hb8 hs8 hn8 HTLB HB6 HO6 HK6;by_cases z:L2=0;rotate_left
 ·have q1:(L2 !=0)=true:=by simp[z]
  have HZ:=zq z;clear z;have HF:=zq (HR.out.symm.trans (if_pos HZ.out));go_wp2;go_ret2
  exact⟨none,0,0,[],by rw[HF.out];rfl,slk_nil17 _,by rw[HF.out];rfl,HUP.out _ HB8.out⟩
 subst z;have q1:((0:Int) !=0)=false:=rfl;have HF:=zq (HR.out.symm.trans (if_neg (by simp)));clear HR;have m1:w8.cell? ⟨w.heap.size+1,1,none⟩=some (.bool m.rev):=(H1.out w8 HB8.out).cell 1;go_upto_region 15 with fail;clear q1;go_wp2_with fail;refine(HDI.out w8).mono ?_;rintro e_ w8' ⟨rfl,hq8⟩;subst hq8;obtain⟨hO,hSL,h1,hBD⟩:=pourR 8 (base:=w8'.heap.size) (e:=3) (w:=w8'.alloc (.cells #[.int .i64 DR,.int .i64 B] 3)) (A:=some ⟨w8'.heap.size,0,none⟩) (n:=2) (c:=2) (l:=[DR,B]) (⟨World.ownsRow_lit (base:=w8'.heap.size) (e:=3) (size:=1) w8' #[.int .i64 DR,.int .i64 B] 2 (Nat.le_refl _) (by unfold maxLen;omega) rfl,rfl⟩:OwR inC 1 3 w8'.heap.size (w8'.alloc (.cells #[.int .i64 DR,.int .i64 B] 3)) (some ⟨w8'.heap.size,0,none⟩) 2 2 [DR,B]) (HS8.out.under ((Below.refl _ _).alloc (Nat.le_refl _) (.cells #[.int .i64 DR,.int .i64 B] 3))) one_in15 (by simp) (by have:=HN8.out;omega) (by omega);go_wp2_with (with_reducible refine wpList_pour (o:=⟨some 63,_,_,_,_,_⟩) rfl (.tmp 61) (.tmp 62) 22 rfl w8'.heap.size 3 (.int .i64 0) 1 8 Tryz.underlying22 info_int15 ?hz2 (by decide) (some ⟨w8'.heap.size,0,none⟩) 2 2 _ ?hs2 hO A8 n8 c8 _ ?hx2 hSL h1 hBD ?next2)
 all_goals try rfl
 intro A9 c9 w9 ho9 hg9;have HO9:=zq (show OwR inC 1 3 w8'.heap.size w9 A9 (2+n8) c9 ([DR,B]++L1)from OwR.poured (l:=[DR,B]) rfl HS8.out.1 ho9.out);have hbz:Below w8'.heap.size w8' w9:=below_own (bA) (by simp) hO.out (Nat.le_refl _) rfl hg9.out;have HB9:=tB HB8 hbz;have HX9:=zq (HO8.out.under hbz);have HK9:=zq (HK8.out.under hbz);clear ho9 hg9 hO hSL h1 hBD HB8 m1 HS8 hbz HO8 HK8;have hbq:Below w9.heap.size w9 (w9.alloc (.cells #[.int .i64 5,.slice A9 (2+n8) c9] 98)):=bA;have HBQ:=tB HB9 hbq;have HOQ:=zq (HO9.out.under hbq);have HXQ:=zq (HX9.out.under hbq);obtain⟨hO,hSL,h1,hBD⟩:=pourR 32 (HK9.out.under hbq) (⟨rfl,sl_hasR (Has.made _ _ _) rfl⟩:SlO pkC17 2 (w9.alloc (.cells #[.int .i64 5,.slice A9 (2+n8) c9] 98)) (some ⟨w9.heap.size,0,none⟩) 1 1 [⟨5,A9,2+n8,c9,[DR,B]++L1⟩]) one_pk17 (Nat.le_trans (Nat.le_of_lt (HK9.out.lt rfl)) (by simp)) (by omega) (by omega);go_wp2_with (with_reducible refine wpList_pour (o:=⟨some 66,_,_,_,_,_⟩) rfl (.tmp 56) (.tmp 65) 44 rfl g5 98 (.agg #[.int .i64 0,.slice none 0 0]) 2 32 Tryz.underlying44 info_pk17 ?hz3 (by decide) (some ⟨g5,0,none⟩) 1 1 _ ?hs3 hO (some ⟨w9.heap.size,0,none⟩) 1 1 _ ?hx3 hSL h1 hBD ?next3)
 all_goals try rfl
 intro AZ cz wz hoz hgz;have HOZ:=zq (show OwR pkC17 2 98 g5 wz AZ (1+1) cz (([⟨15,A5,2+n4,c5,v⟩]:List PkE)++([⟨5,A9,2+n8,c9,[DR,B]++L1⟩]:List PkE))from OwR.poured (l:=([⟨15,A5,2+n4,c5,v⟩]:List PkE)) (l':=([⟨5,A9,2+n8,c9,[DR,B]++L1⟩]:List PkE)) rfl rfl hoz.out);have HBZ:=zq (below_own HBQ.out HBQ.out.size hO.out HS5.out rfl hgz.out);have HVZ:=zq (HXQ.out.kept hgz.out (OwR.two HXQ.out (HK9.out.under hbq) (by decide)));have HLZ:=zq (HOQ.out.kept hgz.out (OwR.two HOQ.out (HK9.out.under hbq) (by decide)));clear hoz hgz hO hSL h1 hBD HK9 HX9 HO9 HB9 HXQ HOQ HBQ hbq;go_wp2;go_ret2
 refine⟨AZ,1+1,cz,_,by rw[HF.out];rfl,slk_of17 HOZ.out (fun p_ hp_=>?_),by rw[HF.out];rfl,HUP.out _ HBZ.out⟩
 rcases List.mem_cons.1 hp_ with rfl|hp_
 ·exact sli_of17 HVZ.out
 ·rcases List.mem_cons.1 hp_ with rfl|hp_
  ·exact sli_of17 HLZ.out
  ·cases hp_
end
section
open Go.RowKit
def many (k:Nat)(last:Int):Nat:=if k=0 then last.toNat else if last=1 then 1 else if k=2/\last=2 then 1 else 0
def repS (f:WS->WS):Nat->WS->WS
 |0,s=>s
 |m+1,s=>if s.e≠0 then s else repS f m (f s)
mutual
def runN:Nd->Int->WS->Int×WS
 | .v n,_,s=>oneS n s
 | .g k b,last,s=>(last,repS (fun s=>runL b 0 s) (many k last) s)
def runL:List Nd->Int->WS->WS
 |[],_,s=>s
 |x::l,last,s=>if s.e≠0 then s else runL l (runN x last s).1 (runN x last s).2
end
mutual
def noN:Nd->Bool
 | .v n=>decide (n≠7)
 | .g _ b=>noL b
def noL:List Nd->Bool
 |[]=>true
 |x::l=>noN x &&noL l
end
mutual
def goodN:Nd->Bool
 | .v n=>decide (n<96)
 | .g k b=>decide (k<3) &&(goodL b &&noL b)
def goodL:List Nd->Bool
 |[]=>true
 |x::l=>goodN x &&goodL l
end
def c7:List Nd->Nat
 |[]=>0
 | .v n::l=>(if n=7 then 1 else 0)+c7 l
 | .g _ _::l=>c7 l
structure Inv (s:WS) (slack:Nat):Prop where
 b:s.bits.length<=1000000
 v:s.V.length<=1000000
 g:s.got.length<=s.out.length
 o:s.out.length+(if s.rd=true then s.bits.length else s.V.length)+slack<=1000000
theorem inv_keep (v n:Int)(s:WS)(k:Nat)(h:Inv s (k+1)):Inv (keep v n s) k:=by
 obtain⟨h1,h2,h3,h4⟩:=h;unfold keep;split
 ·exact⟨h1,h2,by simp;omega,by simp only[List.length_append,List.length_singleton];omega⟩
 ·split
  ·exact⟨h1,h2,by simp;omega,by simp only[List.length_append,List.length_singleton];omega⟩
  ·exact⟨h1,h2,by simp;omega,by simp only[List.length_append,List.length_singleton];omega⟩
theorem inv_less {s:WS}{k k':Nat}(h:Inv s k)(hk:k'<=k):Inv s k':=⟨h.b,h.v,h.g,by have:=h.o;omega⟩
theorem inv_err {s:WS}{k:Nat}(h:Inv s k)(e:Int):Inv {s with e:=e} k:=⟨h.b,h.v,h.g,h.o⟩
theorem inv_fetch (v:Int)(hv0:0<=v)(hv1:v<96)(s:WS)(k:Nat)(h:Inv s (k+if v=7 then 1 else 0))(he:(fetch v s).2.e=0):Inv (fetch v s).2 (k+1):=by
 obtain⟨w1,w2⟩:=width_one v hv0 hv1;obtain⟨h1,h2,h3,h4⟩:=h
 revert he
 unfold fetch;by_cases hr:s.rd=true
 ·rw[if_pos hr]
  rw[if_pos hr]at h4;by_cases hs:s.bits.length<widthOf v
  ·rw[if_pos hs]
   intro he;exact absurd he (by show(10:Int)≠0;decide)
  ·rw[if_neg hs]
   have hl:(s.bits.drop (widthOf v)).length+1<=s.bits.length:=by rw[List.length_drop];omega
   exact fun _=>⟨by show(s.bits.drop (widthOf v)).length<=_;omega,h2,h3,by show s.out.length+(if s.rd=true then(s.bits.drop (widthOf v)).length else s.V.length)+(k+1)<=_;rw[if_pos hr];omega⟩
 ·rw[if_neg hr]
  rw[if_neg hr]at h4;by_cases h7:v=7
  ·rw[if_pos h7]
   rw[if_pos h7]at h4;exact fun _=>⟨h1,h2,h3,by show s.out.length+(if s.rd=true then s.bits.length else s.V.length)+(k+1)<=_;rw[if_neg hr];omega⟩
  ·rw[if_neg h7]
   rw[if_neg h7]at h4;by_cases hV:s.V=[]
   ·rw[if_pos hV]
    intro he;exact absurd he (by show(20:Int)≠0;decide)
   ·rw[if_neg hV]
    obtain⟨V0,VT,hVc⟩:=List.exists_cons_of_ne_nil hV;have hl:s.V.tail.length+1=s.V.length:=by rw[hVc];simp
    exact fun _=>⟨h1,by show s.V.tail.length<=_;omega,h3,by show s.out.length+(if s.rd=true then s.bits.length else s.V.tail.length)+(k+1)<=_;rw[if_neg hr];omega⟩
theorem inv_fetch_bad (v:Int)(s:WS)(k:Nat)(h:Inv s k)(he:(fetch v s).2.e≠0)(h0:s.e=0):Inv (fetch v s).2 k:=by
 revert he
 unfold fetch;split
 ·split
  ·exact fun _=>inv_err h _
  ·exact fun he=>absurd h0 he
 ·split
  ·exact fun he=>absurd h0 he
  ·split
   ·exact fun _=>inv_err h _
   ·exact fun he=>absurd h0 he
theorem inv_one (v:Int)(hv0:0<=v)(hv1:v<96)(s:WS)(k:Nat)(h:Inv s (k+if v=7 then 1 else 0)):Inv (oneS v s).2 k:=by
 unfold oneS;by_cases he:s.e≠0
 ·rw[if_pos he]
  exact inv_less h (by omega)
 ·rw[if_neg he]
  by_cases hf:(fetch v s).2.e≠0
  ·rw[if_pos hf]
   exact inv_less (inv_fetch_bad v s _ h hf (by omega)) (by omega)
  ·rw[if_neg hf]
   have hi:=inv_fetch v hv0 hv1 s k h (by omega);split
   ·exact inv_err (inv_less hi (by omega)) _
   ·exact inv_keep v _ _ k hi
theorem inv_rep (f:WS->WS)(k:Nat)(hf: ∀s,Inv s k->Inv (f s) k): ∀(m:Nat) (s:WS),Inv s k->Inv (repS f m s) k
 |0,s,h=>h
 |m+1,s,h=>by
  rw[repS];split
  ·exact h
  ·exact inv_rep f k hf m _ (hf s h)
theorem noL_c7: ∀b:List Nd,noL b=true->c7 b=0
 |[],_=>rfl
 | .v n::l,h=>by
  simp only[noL,noN,Bool.and_eq_true,decide_eq_true_eq]at h;rw[c7,if_neg h.1,noL_c7 l h.2]
 | .g _ _::l,h=>by
  simp only[noL,Bool.and_eq_true]at h;rw[c7,noL_c7 l h.2]
theorem inv_oneN (n:Nat)(hn:n<96)(s:WS)(k:Nat)(h:Inv s (k+if n=7 then 1 else 0)):Inv (oneS n s).2 k:=by
 refine inv_one n (by omega) (by omega) s k ?_;by_cases h7:n=7
 ·subst h7;exact h
 ·rw[if_neg (by omega)];rw[if_neg h7]at h;exact h
mutual
theorem inv_runN: ∀(x:Nd) (l:List Nd) (last:Int) (s:WS) (k:Nat),goodN x=true->Inv s (k+c7 (x::l))->Inv (runN x last s).2 (k+c7 l)
 | .v n,l,last,s,k,hg,h=>by
  simp only[goodN,decide_eq_true_eq]at hg;rw[c7]at h;simp only[runN];exact inv_oneN n hg s _ (inv_less h (by omega))
 | .g kk b,l,last,s,k,hg,h=>by
  simp only[goodN,Bool.and_eq_true,decide_eq_true_eq]at hg;rw[c7]at h;simp only[runN];refine inv_rep _ _ (fun s hs=>?_) _ _ h;exact inv_runL b 0 s _ hg.2.1 (by rw[noL_c7 b hg.2.2];exact hs)
theorem inv_runL: ∀(b:List Nd) (last:Int) (s:WS) (k:Nat),goodL b=true->Inv s (k+c7 b)->Inv (runL b last s) k
 |[],last,s,k,hg,h=>by simp only[runL];exact inv_less h (by omega)
 |x::l,last,s,k,hg,h=>by
  simp only[goodL,Bool.and_eq_true]at hg;simp only[runL];split
  ·exact inv_less h (by omega)
  ·exact inv_runL l _ _ k hg.2 (inv_runN x l last s k hg.1 h)
end
end
section
open Go.RowKit
structure StrSl (w:World) (A:Option Addr) (n c:Nat) (l:List ByteArray):Prop where
 len:l.length=n
 cap:n<=c
 sl:Sl w 1 A n c (strs l)
 row: ∀a,A=some a-> ∃cs fr,w.heap[a.block]?=some (.cells cs 9 fr)
theorem StrSl.keep {w w':World}{A:Option Addr}{n c:Nat}{l:List ByteArray}(h:StrSl w A n c l)(k:KeepStr w w'):StrSl w' A n c l:=by
 refine⟨h.len,h.cap,⟨h.sl.1,h.sl.2.1,fun ad ha j u hu=>?_⟩,fun a ha=>?_⟩
 ·obtain⟨cs,fr,hr⟩:=h.row ad ha
  have h0:=h.sl.2.2 ad ha j u hu;rw[World.cell?_of_block (w:=w) (by rw[add_block,hr];exact k _ _ _ hr)];exact h0
 ·obtain⟨cs,fr,hr⟩:=h.row a ha
  exact⟨cs,fr,k _ _ _ hr⟩
theorem StrSl.of_own {base:Nat}{w:World}{A:Option Addr}{n c:Nat}{l:List ByteArray}(h:OwS base w A n c l):StrSl w A n c l:=by
 have hs:=Sl.of_own h;refine⟨by have:=hs.1;rw[strs_length]at this;omega,?_,hs,fun a ha=>?_⟩
 ·rcases h.2 with⟨e,e2⟩|⟨g,cap,cur,e,_,_,e2,_⟩
  ·omega
  ·injection e with _ _ e3;omega
 ·rcases h.2 with⟨e,_⟩|⟨g,cap,cur,e,_,hh,_⟩
  ·injection e with e;rw[e]at ha;cases ha
  ·injection e with e
   rw[e]at ha;injection ha with ha
   subst ha;exact⟨_,_,hh⟩
theorem StrSl.part {w:World}{A:Option Addr}{n c:Nat}{pre mid post:List ByteArray}(h:StrSl w A n c (pre++mid++post)):StrSl w (if c=pre.length then A else A.map (·.add (pre.length*1))) mid.length (c-pre.length) mid:=by
 have hl:=h.len;have hc:=h.cap;simp only[List.length_append]at hl;have h1:=h.sl.from_ hc (p:=pre.length) (by omega);have e1:(strs (pre++mid++post)).drop pre.length=strs mid++strs post:=by simp[strs]
 rw[e1]at h1;refine⟨rfl,by omega,⟨by rw[strs_length];omega,fun e=>?_,fun ad ha j u hu=>?_⟩,fun a ha=>?_⟩
 ·have:=h1.2.1 e;omega
 ·refine h1.2.2 ad ha j u ?_
  have hj:=(List.getElem?_eq_some_iff.1 hu).1;rw[List.getElem?_append_left hj];exact hu
 ·obtain⟨a0,h2,h3⟩:=from_block a ha
  rw[h3];exact h.row a0 h2
mutual
def szN:Nd->Nat
 | .v _=>1
 | .g _ b=>1+szL b
def szL:List Nd->Nat
 |[]=>0
 |x::l=>szN x+szL l
end
theorem szL_append (a b:List Nd):szL (a++b)=szL a+szL b:=by
 induction a with
 |nil=>simp[szL]
 |cons x l ih=>simp[szL,ih];omega
theorem may_small (v:Nat)(hv:v<96)(n:Int)(h:mayOf v n=true):n<=4294967296:=by
 have h1:=List.all_eq_true.1 (show(List.range 96).all (fun v=>decide (mostOf (v:Int)<=4294967296) &&decide (greatestOf (v:Int)<=4294967296))=true from by kernel_rfl) v (List.mem_range.2 hv);simp only[Bool.and_eq_true,decide_eq_true_eq]at h1;unfold mayOf at h;simp only[Bool.and_eq_true,Bool.or_eq_true,decide_eq_true_eq]at h;omega
end
section
open Go.RowKit
structure SlP (w:World) (A:Option Addr) (m c:Nat) (l:List (Int×Int)):Prop where
 len:l.length=m
 sl:Sl w 2 A m c (pairs l)
theorem SlP.under {w w':World}{A:Option Addr}{m c:Nat}{l:List (Int×Int)}(h:SlP w A m c l)(hb:Below w.heap.size w w'):SlP w' A m c l:=⟨h.len,h.sl.under hb⟩
theorem pairs_at: ∀(l:List (Int×Int)) (j:Nat),j<l.length->(pairs l)[j*2]?=some (.int .i64 (l.getD j (0,0)).1)/\(pairs l)[j*2+1]?=some (.int .i64 (l.getD j (0,0)).2)
 |[],j,h=>absurd h (by simp)
 |x::l,0,_=>⟨rfl,rfl⟩
 |x::l,j+1,h=>by
  have e:pairs (x::l)= .int .i64 x.1:: .int .i64 x.2::pairs l:=rfl;have ih:=pairs_at l j (by simpa using h);rw[e,show(j+1)*2=j*2+1+1 by omega,List.getElem?_cons_succ,List.getElem?_cons_succ,List.getElem?_cons_succ,List.getElem?_cons_succ];exact ih
theorem SlP.at_ {w:World}{A:Option Addr}{m c:Nat}{l:List (Int×Int)}(h:SlP w A m c l){j:Nat}(hj:j<m):
  ∃b off,A=some ⟨b,off,none⟩/\w.cell? ⟨b,off+j*2,none⟩=some (.int .i64 (l.getD j (0,0)).1)/\w.cell? ⟨b,off+j*2+1,none⟩=some (.int .i64 (l.getD j (0,0)).2):=by
 obtain⟨p1,p2⟩:=pairs_at l j (by have:=h.len;omega);obtain⟨b,off,e,h1⟩:=h.sl.at_ p1;obtain⟨b',off',e',h2⟩:=h.sl.at_ p2;subst e;simp only[Option.some.injEq,Addr.mk.injEq,and_true]at e';obtain⟨rfl,rfl⟩:=e';exact⟨b,off,rfl,h1,by rw[Nat.add_assoc];exact h2⟩
def totalOf (l:List (Int×Int)):Int:=l.foldl (fun n x=>n+x.2) 0
theorem total_snoc (l:List (Int×Int))(x:Int×Int):totalOf (l++[x])=totalOf l+x.2:=by simp[totalOf]
end
section
open Go.RowKit
structure SlN (w:World) (A:Option Addr) (m c:Nat) (l:List Int):Prop where
 len:l.length=m
 sl:Sl w 1 A m c (ints l)
theorem SlN.under {w w':World}{A:Option Addr}{m c:Nat}{l:List Int}(h:SlN w A m c l)(hb:Below w.heap.size w w'):SlN w' A m c l:=⟨h.len,h.sl.under hb⟩
theorem ints_at {l:List Int}{j:Nat}(h:j<l.length):(ints l)[j]?=some (.int .i64 (l.getD j 0)):=by
 simp[ints,List.getD_eq_getElem?_getD,List.getElem?_eq_getElem h]
theorem SlN.at_ {w:World}{A:Option Addr}{m c:Nat}{l:List Int}(h:SlN w A m c l){j:Nat}(hj:j<m): ∃b off,A=some ⟨b,off,none⟩/\w.cell? ⟨b,off+j,none⟩=some (.int .i64 (l.getD j 0)):=
 h.sl.at_ (ints_at (by have:=h.len;omega))
end
section
open Go.RowKit
def pkV (id:Int)(A:Option Addr)(n c:Nat):Value:= .agg #[.int .i64 id,.slice A n c]
end
section
open Go.RowKit
open BitsM
def laidOf (l:List (Int×Int)):List Bool:=l.flatMap fun x=>wbits x.1.toNat x.2.toNat x.2.toNat
def FitP (x:Int×Int):Prop:=0<=x.1/\x.1<4294967296/\1<=x.2/\x.2<=32
end
section
open Go.RowKit
open BitsM
def adv (s:WS)(D:List (Int×Int))(R:List Int):WS:= {s with V:=R,out:=s.out++D,got:=s.got++D.map Prod.fst}
def advB (s:WS)(D:List (Int×Int))(R:List Bool):WS:= {s with bits:=R,out:=s.out++D,got:=s.got++D.map Prod.fst}
structure Pk (f:WS->Int×WS) (last:Int) (D:List (Int×Int)):Prop where
 fit: ∀x∈D,FitP x
 items: ∀s R,s.rd=false->s.e=0->s.V=D.map Prod.fst++R->f s=(last,adv s D R)
 get: ∀s R,s.rd=true->s.e=0->s.bits=laidOf D++R->f s=(last,advB s D R)
 cut: ∀s,s.rd=true->s.e=0->s.bits.length<(laidOf D).length->s.bits=(laidOf D).take s.bits.length->(f s).2.e=10
theorem laid_append (a b:List (Int×Int)):laidOf (a++b)=laidOf a++laidOf b:=by simp[laidOf]
theorem laid_one (x:Int×Int):laidOf [x]=wbits x.1.toNat x.2.toNat x.2.toNat:=by simp[laidOf]
theorem may_fit (v:Nat)(hv:v<96)(n:Int)(h:mayOf v n=true):0<=n/\n<2^widthOf v:=by
 have h1:=List.all_eq_true.1 (show(List.range 96).all (fun v=>decide (mostOf (v:Int)<2^widthOf (v:Int)) &&decide (greatestOf (v:Int)<2^widthOf (v:Int)))=true from by kernel_rfl) v (List.mem_range.2 hv);simp only[Bool.and_eq_true,decide_eq_true_eq]at h1;unfold mayOf at h;simp only[Bool.and_eq_true,Bool.or_eq_true,decide_eq_true_eq]at h;omega
theorem fit_may (v:Nat)(hv:v<96)(n:Int)(h:mayOf v n=true):FitP (n,(widthOf v:Int)):=by
 have h1:=may_fit v hv n h;have h2:=width_one v (by omega) (by omega);have h3:(2:Int)^widthOf v<=2^32:=by
  have:(2:Nat)^widthOf v<=2^32:=Nat.pow_le_pow_right (by omega) h2.2
  exact_mod_cast this
 exact⟨h1.1,by omega,by simp only;omega,by simp only;omega⟩
theorem pk_v (v:Nat)(hv:v<96)(h5:v≠5)(h7:v≠7)(n:Int)(h:mayOf v n=true):Pk (fun s=>oneS v s) n [(n,(widthOf v:Int))]:=by
 have hf:=may_fit v hv n h;have hl:laidOf [(n,(widthOf v:Int))]=wbits n.toNat (widthOf v) (widthOf v):=by rw[laid_one];simp
 have hlen:(laidOf [(n,(widthOf v:Int))]).length=widthOf v:=by rw[hl,wbits_length]
 have hnum:(num (wbits n.toNat (widthOf v) (widthOf v)):Int)=n:=by
  rw[num_wbits _ _ (by
   have e:((n.toNat:Nat):Int)<((2^widthOf v:Nat):Int):=by rw[Int.toNat_of_nonneg hf.1];exact_mod_cast hf.2
   exact_mod_cast e)]
  exact Int.toNat_of_nonneg hf.1
 have k5: ¬((v:Int)=5):=by omega
 have k7: ¬((v:Int)=7):=by omega
 have hkeep: ∀s,keep v n s= {s with got:=s.got++[n],out:=s.out++[(n,(widthOf v:Int))]} :=fun s=>by rw[keep,if_neg k7,if_neg k5]
 refine⟨?_,?_,?_,?_⟩
 ·intro x hx
  simp only[List.mem_singleton]at hx;subst hx;exact fit_may v hv n h
 ·intro s R hrd he hV
  have hV':s.V=n::R:=by simpa using hV
  have hfe:fetch v s=(n, {s with V:=R}):=by
   rw[fetch,hrd,if_neg (by decide),if_neg k7,hV',if_neg (by simp)];rfl
  show oneS v s=_
  rw[oneS,if_neg (by omega),hfe,if_neg (by simp only;omega),if_neg (by simp only[h];decide),hkeep]
  rfl
 ·intro s R hrd he hb
  rw[hl]at hb;have hfe:fetch v s=(n, {s with bits:=R}):=by
   have e1:s.bits.take (widthOf v)=wbits n.toNat (widthOf v) (widthOf v):=by rw[hb];exact List.take_left' (wbits_length _ _ _)
   have e2:s.bits.drop (widthOf v)=R:=by rw[hb];exact List.drop_left' (wbits_length _ _ _)
   rw[fetch,hrd,if_pos rfl,if_neg (by rw[hb,List.length_append,wbits_length];omega),e1,e2,hnum]
  show oneS v s=_
  rw[oneS,if_neg (by omega),hfe,if_neg (by simp only;omega),if_neg (by simp only[h];decide),hkeep]
  rfl
 ·intro s hrd he hlt _
  rw[hlen]at hlt;have hfe:fetch v s=(0, {s with e:=10}):=by rw[fetch,hrd,if_pos rfl,if_pos hlt]
  show(oneS v s).2.e=10
  rw[oneS,if_neg (by omega),hfe,if_pos (by simp only;omega)]
theorem pk_nil (last:Int):Pk (fun s=>(last,s)) last []:=by
 refine⟨fun x h=>(by cases h),?_,?_,?_⟩
 ·intro s R _ _ hV
  have e:s.V=R:=by simpa using hV
  rw[adv,<-e];simp
 ·intro s R _ _ hb
  have e:s.bits=R:=by simpa[laidOf]using hb
  rw[advB,<-e];simp
 ·intro s _ _ h _
  simp[laidOf]at h
theorem pk_then {f g:WS->Int×WS}{l1 l2:Int}{D1 D2:List (Int×Int)}(h:WS->Int×WS)(hh: ∀s,s.e=0->(f s).1=l1->h s=g (f s).2)(hc: ∀s,s.e=0->(f s).2.e≠0->(h s).2=(f s).2)(p1:Pk f l1 D1)(p2:Pk g l2 D2):Pk h l2 (D1++D2):=by
 refine⟨?_,?_,?_,?_⟩
 ·intro x hx
  rw[List.mem_append]at hx;exact hx.elim (p1.fit x) (p2.fit x)
 ·intro s R hrd he hV
  rw[List.map_append,List.append_assoc]at hV;have e1:=p1.items s _ hrd he hV;rw[hh s he (by rw[e1]),e1];show g (adv s D1 (D2.map Prod.fst++R))=_
  rw[p2.items (adv s D1 (D2.map Prod.fst++R)) R hrd he rfl];simp[adv,List.append_assoc]
 ·intro s R hrd he hb
  rw[laid_append,List.append_assoc]at hb;have e1:=p1.get s _ hrd he hb;rw[hh s he (by rw[e1]),e1];show g (advB s D1 (laidOf D2++R))=_
  rw[p2.get (advB s D1 (laidOf D2++R)) R hrd he rfl];simp[advB,List.append_assoc]
 ·intro s hrd he hlt hb
  rw[laid_append]at hlt hb;rw[List.length_append]at hlt;by_cases h1:s.bits.length<(laidOf D1).length
  ·have hb1:s.bits=(laidOf D1).take s.bits.length:=by
    rw[List.take_append_of_le_length (by omega)]at hb;exact hb
   have he1:=p1.cut s hrd he h1 hb1;rw[hc s he (by rw[he1];decide)];exact he1
  ·have hb1:s.bits=laidOf D1++(laidOf D2).take (s.bits.length-(laidOf D1).length):=by
    rw[List.take_append,List.take_of_length_le (by omega)]at hb;exact hb
   have hl:((laidOf D2).take (s.bits.length-(laidOf D1).length)).length=s.bits.length-(laidOf D1).length:=by
    rw[List.length_take];omega
   have e1:=p1.get s _ hrd he hb1;rw[hh s he (by rw[e1]),e1];exact p2.cut (advB s D1 _) hrd he (by show((laidOf D2).take _).length<_;rw[hl];omega) (by
    show(laidOf D2).take _=(laidOf D2).take ((laidOf D2).take _).length
    rw[hl])
theorem runL_err (b:List Nd)(last:Int){s:WS}(h:s.e≠0):runL b last s=s:=by
 cases b with
 |nil=>rfl
 |cons x l=>rw[runL,if_pos h]
theorem repS_err (f:WS->WS)(m:Nat){s:WS}(h:s.e≠0):repS f m s=s:=by
 cases m with
 |zero=>rfl
 |succ m=>rw[repS,if_pos h]
mutual
def plainN:Nd->Bool
 | .v n=>decide (n<96) &&decide (n≠5) &&decide (n≠7)
 | .g _ b=>plainL b
def plainL:List Nd->Bool
 |[]=>true
 |x::l=>plainN x &&plainL l
end
def Took (s:WS)(D:List (Int×Int)):Prop:=(s.rd=false-> ∃R,s.V=D.map Prod.fst++R)/\(s.rd=true-> ∃R,s.bits=laidOf D++R)
theorem took_then {f:WS->Int×WS}{l:Int}{s:WS}{D1 D2:List (Int×Int)}(p:Pk f l D1)(he:s.e=0)(h1:Took s D1)(h2:Took (f s).2 D2):Took s (D1++D2):=by
 constructor
 ·intro hrd
  obtain⟨R,hR⟩:=h1.1 hrd;have e:=p.items s R hrd he hR;rw[e]at h2;obtain⟨R2,hR2⟩:=h2.1 hrd;exact⟨R2,by rw[hR,show R=_ from hR2,List.map_append,List.append_assoc]⟩
 ·intro hrd
  obtain⟨R,hR⟩:=h1.2 hrd;have e:=p.get s R hrd he hR;rw[e]at h2;obtain⟨R2,hR2⟩:=h2.2 hrd;exact⟨R2,by rw[hR,show R=_ from hR2,laid_append,List.append_assoc]⟩
theorem took_nil (s:WS):Took s []:=⟨fun _=>⟨s.V,rfl⟩,fun _=>⟨s.bits,rfl⟩⟩
theorem took_e {f:WS->Int×WS}{l:Int}{s:WS}{D:List (Int×Int)}(p:Pk f l D)(he:s.e=0)(h:Took s D):(f s).2.e=0/\(f s).1=l:=by
 cases hrd:s.rd
 ·obtain⟨R,hR⟩:=h.1 hrd
  rw[p.items s R hrd he hR];exact⟨he,rfl⟩
 ·obtain⟨R,hR⟩:=h.2 hrd
  rw[p.get s R hrd he hR];exact⟨he,rfl⟩
theorem one_took (v:Nat)(_hv:v<96)(_h5:v≠5)(h7:v≠7)(s:WS)(he:s.e=0)(h:(oneS v s).2.e=0): ∃n,mayOf v n=true/\(oneS v s).1=n/\Took s [(n,(widthOf v:Int))]:=by
 have k7: ¬((v:Int)=7):=by omega
 rw[oneS,if_neg (by omega)]at h⊢;by_cases hf:(fetch v s).2.e≠0
 ·rw[if_pos hf]at h;exact absurd h hf
 ·rw[if_neg hf]at h⊢
  by_cases hm:mayOf v (fetch v s).1=false
  ·rw[if_pos hm]at h;exact absurd (show(20:Int)=0 from h) (by decide)
  ·rw[if_neg hm]at h⊢
   have hm':mayOf v (fetch v s).1=true:=by simpa using hm
   refine⟨_,hm',rfl,?_,?_⟩
   ·intro hrd
    have e0:fetch v s=if s.V=[]then(0, {s with e:=20})else(s.V.headD 0, {s with V:=s.V.tail}):=by rw[fetch,hrd,if_neg (by decide),if_neg k7]
    rw[e0]at hf⊢;by_cases hV:s.V=[]
    ·rw[if_pos hV]at hf;exact absurd (show(20:Int)≠0 by decide) hf
    ·rw[if_neg hV]
     cases hc:s.V with
     |nil=>exact absurd hc hV
     |cons a r=>exact⟨r,rfl⟩
   ·intro hrd
    have e0:fetch v s=if s.bits.length<widthOf v then(0, {s with e:=10})else(((num (s.bits.take (widthOf v)):Nat):Int), {s with bits:=s.bits.drop (widthOf v)}):=by rw[fetch,hrd,if_pos rfl]
    rw[e0]at hf⊢;by_cases hb:s.bits.length<widthOf v
    ·rw[if_pos hb]at hf;exact absurd (show(10:Int)≠0 by decide) hf
    ·rw[if_neg hb]
     refine⟨s.bits.drop (widthOf v),?_⟩;rw[laid_one];simp only[Int.toNat_natCast];have hlen:(s.bits.take (widthOf v)).length=widthOf v:=by rw[List.length_take];omega
     have hw:wbits (num (s.bits.take (widthOf v))) (widthOf v) (widthOf v)=s.bits.take (widthOf v):=by
      apply List.ext_getElem (by rw[wbits_length,hlen])
      intro i h1 h2;have g1:=wbits_getD (num (s.bits.take (widthOf v))) (widthOf v) (widthOf v) i (by rw[wbits_length]at h1;exact h1);have hi:i<widthOf v:=by rw[wbits_length]at h1;exact h1
      rw[num_testBit,hlen,decide_eq_true (by omega),Bool.true_and,show widthOf v-1-(widthOf v-1-i)=i by omega]at g1
      simpa[List.getD_eq_getElem?_getD,List.getElem?_eq_getElem h1,List.getElem?_eq_getElem h2]using g1
     rw[hw,List.take_append_drop]
theorem rep_took (b:List Nd)(hL: ∀(last:Int) (s:WS),s.e=0->(runL b last s).e=0-> ∃D,Pk (fun s=>(0,runL b last s)) 0 D/\Took s D):
  ∀(m:Nat) (s:WS),s.e=0->(repS (fun s=>runL b 0 s) m s).e=0-> ∃D,Pk (fun s=>(0,repS (fun s=>runL b 0 s) m s)) 0 D/\Took s D
 |0,s,_,_=>⟨[],pk_nil 0,took_nil s⟩
 |m+1,s,he,h=>by
  rw[repS,if_neg (by omega)]at h;have h1:(runL b 0 s).e=0:=by
   by_cases k:(runL b 0 s).e=0
   ·exact k
   ·rw[repS_err _ _ k]at h;exact h
  obtain⟨D1,p1,t1⟩:=hL 0 s he h1;obtain⟨D2,p2,t2⟩:=rep_took b hL m _ h1 h;exact⟨D1++D2,pk_then (f:=fun s=>(0,runL b 0 s)) (g:=fun s=>(0,repS (fun s=>runL b 0 s) m s)) _ (fun s hs _=>by rw[repS,if_neg (by omega)]) (fun s hs h2=>by show repS _ (m+1) s=_;rw[repS,if_neg (by omega)];exact repS_err _ _ h2) p1 p2,took_then p1 he t1 t2⟩
theorem run_took: ∀(N:Nat) (b:List Nd),szL b<N->plainL b=true-> ∀(last:Int) (s:WS),s.e=0->(runL b last s).e=0-> ∃D,Pk (fun s=>(0,runL b last s)) 0 D/\Took s D
 |0,_,h,_,_,_,_,_=>by omega
 |N+1,[],_,_,last,s,_,_=>⟨[],pk_nil 0,took_nil s⟩
 |N+1,x::l,hN,hp,last,s,he,h=>by
  rw[plainL,Bool.and_eq_true]at hp;rw[runL,if_neg (by omega)]at h;have h1:(runN x last s).2.e=0:=by
   by_cases k:(runN x last s).2.e=0
   ·exact k
   ·rw[runL_err _ _ k]at h;exact h
  have hx: ∃l1 D1,Pk (fun s=>runN x last s) l1 D1/\Took s D1:=by
   cases x with
   |v n=>
    have hq:=hp.1;rw[plainN,Bool.and_eq_true,Bool.and_eq_true,decide_eq_true_eq,decide_eq_true_eq,decide_eq_true_eq]at hq;obtain⟨k,hm,_,ht⟩:=one_took n hq.1.1 hq.1.2 hq.2 s he h1;exact⟨k,_,pk_v n hq.1.1 hq.1.2 hq.2 k hm,ht⟩
   |g k b=>
    obtain⟨D,pd,td⟩:=rep_took b (fun last s he h=>run_took N b (by have:szL (Nd.g k b::l)=szL b+1+szL l\/True:= .inr trivial;simp only[szL,szN]at hN;omega) hp.1 last s he h) (many k last) s he h1;refine⟨last,D,⟨pd.fit,?_,?_,?_⟩,td⟩
    ·intro s R a1 a2 a3
     have:=pd.items s R a1 a2 a3;simp only[Prod.mk.injEq]at this;show(last,repS _ _ _)=_
     rw[this.2]
    ·intro s R a1 a2 a3
     have:=pd.get s R a1 a2 a3;simp only[Prod.mk.injEq]at this;show(last,repS _ _ _)=_
     rw[this.2]
    ·intro s a1 a2 a3 a4
     exact pd.cut s a1 a2 a3 a4
  obtain⟨l1,D1,p1,t1⟩:=hx;have hl1:=(took_e p1 he t1).2;rw[hl1]at h;have hz:0<szN x:=by
   cases x<;>simp only[szN]<;>omega
  obtain⟨D2,p2,t2⟩:=run_took N l (by simp only[szL]at hN;omega) hp.2 l1 _ h1 h;refine⟨D1++D2,pk_then (f:=fun s=>runN x last s) (g:=fun s=>(0,runL l l1 s)) _ ?_ ?_ p1 p2,took_then p1 he t1 t2⟩
  ·intro s hs h2
   have h3:(runN x last s).1=l1:=h2;rw[runL,if_neg (by omega),h3]
  ·intro s hs h2
   show runL (x::l) last s=_
   rw[runL,if_neg (by omega)];exact runL_err _ _ h2
end
section
open Go.RowKit
open BitsM
theorem known_cases {id:Int}(h:knownB id=true):id=0\/id=1\/id=3\/id=5\/id=11\/id=15\/id=21\/id=27\/id=42\/id=57\/id=58\/id=80:=by
 unfold knownB at h;simp only[Bool.or_eq_true,decide_eq_true_eq]at h;omega
structure Shape (id:Int) (pre:List Nd) (a:Nat) (post:List Nd):Prop where
 ast:astOf id=pre++ .v 7:: .v a::post
 pre:pre=[]\/pre=[.v 6]
 plain:plainL (.v a::post)=true
 words:wordsOf (gramOf id)=wordsL (astOf id)
 size:(gramOf id).size<=65536
 good:goodL (astOf id)=true
 seven:c7 (astOf id)=1
 may:mayOf 5 id=true
theorem shape_of {id:Int}(h:knownB id=true): ∃pre a post,Shape id pre a post:=by
 rcases known_cases h with rfl|rfl|rfl|rfl|rfl|rfl|rfl|rfl|rfl|rfl|rfl|rfl
 ·exact⟨[],8,[.v 4,.v 13,.v 14,.v 15,.v 16,.v 17,.v 18,.g 2 [.v 19],.v 20,.v 21,.v 22,.v 23,.g 1 [.v 24]],rfl,.inl rfl,by kernel_rfl,words0,Nat.le_of_ble_eq_true (by kernel_rfl),by kernel_rfl,by kernel_rfl,by kernel_rfl⟩
 ·exact⟨[],8,[.v 4,.v 74,.v 13,.v 14,.v 15,.v 16,.v 17,.v 18,.g 2 [.v 19],.v 20,.v 21,.v 22,.v 23,.g 1 [.v 24]],rfl,.inl rfl,by kernel_rfl,words1,Nat.le_of_ble_eq_true (by kernel_rfl),by kernel_rfl,by kernel_rfl,by kernel_rfl⟩
 ·exact⟨[.v 6],8,[.v 84,.v 27,.g 0 [.v 10],.v 85,.v 87,.v 86],rfl,.inr rfl,by kernel_rfl,words3,Nat.le_of_ble_eq_true (by kernel_rfl),by kernel_rfl,by kernel_rfl,by kernel_rfl⟩
 ·exact⟨[.v 6],8,[.v 44,.v 12,.g 1 [.v 10],.v 11,.v 45,.v 46,.v 47,.v 27,.g 0 [.v 44,.v 12,.g 1 [.v 10],.v 11,.v 45,.v 46,.v 47]],rfl,.inr rfl,by kernel_rfl,words5,Nat.le_of_ble_eq_true (by kernel_rfl),by kernel_rfl,by kernel_rfl,by kernel_rfl⟩
 ·exact⟨[],75,[.v 76,.v 77,.v 78,.v 79,.v 80,.v 81,.v 27,.g 0 [.v 82],.v 27,.g 0 [.v 83]],rfl,.inl rfl,by kernel_rfl,words11,Nat.le_of_ble_eq_true (by kernel_rfl),by kernel_rfl,by kernel_rfl,by kernel_rfl⟩
 ·exact⟨[.v 6],8,[.v 25,.v 26,.v 27,.g 0 [.v 28,.v 29,.g 1 [.v 30,.v 31]],.v 32,.v 29,.g 1 [.v 30,.v 31],.v 33,.g 1 [.v 34,.v 35],.v 36,.g 1 [.v 37,.v 38],.v 39,.g 1 [.v 40,.v 41,.v 42,.v 43]],rfl,.inr rfl,by kernel_rfl,words15,Nat.le_of_ble_eq_true (by kernel_rfl),by kernel_rfl,by kernel_rfl,by kernel_rfl⟩
 ·exact⟨[.v 6],8,[.v 48,.v 49,.v 50,.v 27,.g 0 [.v 48,.v 49,.v 50]],rfl,.inr rfl,by kernel_rfl,words21,Nat.le_of_ble_eq_true (by kernel_rfl),by kernel_rfl,by kernel_rfl,by kernel_rfl⟩
 ·exact⟨[.v 6],8,[.v 51,.v 52,.v 53,.v 27,.g 0 [.v 54,.v 55],.v 27,.g 0 [.v 51,.v 52,.v 53,.v 27,.g 0 [.v 54,.v 55]]],rfl,.inr rfl,by kernel_rfl,words27,Nat.le_of_ble_eq_true (by kernel_rfl),by kernel_rfl,by kernel_rfl,by kernel_rfl⟩
 ·exact⟨[.v 6],62,[.v 10,.v 63,.v 64,.v 64,.v 65],rfl,.inr rfl,by kernel_rfl,words42,Nat.le_of_ble_eq_true (by kernel_rfl),by kernel_rfl,by kernel_rfl,by kernel_rfl⟩
 ·exact⟨[.v 6],66,[.v 67,.v 68],rfl,.inr rfl,by kernel_rfl,words57,Nat.le_of_ble_eq_true (by kernel_rfl),by kernel_rfl,by kernel_rfl,by kernel_rfl⟩
 ·exact⟨[.v 6],8,[.v 69,.v 70,.v 71,.v 27,.g 0 [.v 72,.v 73]],rfl,.inr rfl,by kernel_rfl,words58,Nat.le_of_ble_eq_true (by kernel_rfl),by kernel_rfl,by kernel_rfl,by kernel_rfl⟩
 ·exact⟨[.v 6],8,[.v 56,.v 57,.v 58,.v 59,.v 60,.v 61,.v 27,.g 0 [.v 56,.v 57,.v 58,.v 59,.v 60,.v 61]],rfl,.inr rfl,by kernel_rfl,words80,Nat.le_of_ble_eq_true (by kernel_rfl),by kernel_rfl,by kernel_rfl,by kernel_rfl⟩
theorem w7:widthOf 7=13:=by kernel_rfl
theorem w5:widthOf 5=8:=by kernel_rfl
theorem may70:mayOf 7 0=true:=by kernel_rfl
theorem run_last (a:Nat)(l:List Nd)(last:Int)(s:WS):runL (.v a::l) last s=runL (.v a::l) 0 s:=by
 rw[runL,runL,runN,runN]
theorem seven_items {s:WS}(hrd:s.rd=false)(he:s.e=0):oneS 7 s=(0, {s with place:=s.out.length,out:=s.out++[(0,13)]}):=by
 have hf:fetch 7 s=(0,s):=by rw[fetch,hrd,if_neg (by decide),if_pos rfl]
 rw[oneS,if_neg (by omega),hf,if_neg (by simp only;omega),if_neg (by simp only[may70];decide),keep,if_pos rfl,w7];rfl
theorem seven_get {s:WS}{n:Int}{R:List Bool}(hrd:s.rd=true)(he:s.e=0)(hm:mayOf 7 n=true)(hb:s.bits=laidOf [(n,13)]++R):oneS 7 s=(n, {s with bits:=R,place:=s.out.length,out:=s.out++[(n,13)]}):=by
 have hn:=may_fit 7 (by decide) n hm;rw[show widthOf ((7:Nat):Int)=13 from w7]at hn;have hl:laidOf [(n,13)]=wbits n.toNat 13 13:=by rw[laid_one];rfl
 rw[hl]at hb;have hnum:(num (wbits n.toNat 13 13):Int)=n:=by
  rw[num_wbits _ _ (by omega)];exact Int.toNat_of_nonneg hn.1
 have hf:fetch 7 s=(n, {s with bits:=R}):=by
  have e1:s.bits.take 13=wbits n.toNat 13 13:=by rw[hb];exact List.take_left' (wbits_length _ _ _)
  have e2:s.bits.drop 13=R:=by rw[hb];exact List.drop_left' (wbits_length _ _ _)
  rw[fetch,hrd,if_pos rfl,w7,if_neg (by rw[hb,List.length_append,wbits_length];omega),e1,e2,hnum]
 rw[oneS,if_neg (by omega),hf,if_neg (by simp only;omega),if_neg (by simp only[hm];decide),keep,if_pos rfl,w7];rfl
theorem seven_cut {s:WS}(hrd:s.rd=true)(he:s.e=0)(hb:s.bits.length<13):(oneS 7 s).2.e=10:=by
 have hf:fetch 7 s=(0, {s with e:=10}):=by rw[fetch,hrd,if_pos rfl,w7,if_pos hb]
 rw[oneS,if_neg (by omega),hf,if_pos (by simp only;omega)]
theorem seven_took {s:WS}(he:s.e=0)(h:(oneS 7 s).2.e=0)(hrd:s.rd=true): ∃n R,mayOf 7 n=true/\s.bits=laidOf [(n,13)]++R:=by
 rw[oneS,if_neg (by omega)]at h;have e0:fetch 7 s=if s.bits.length<13 then(0, {s with e:=10})else(((num (s.bits.take 13):Nat):Int), {s with bits:=s.bits.drop 13}):=by rw[fetch,hrd,if_pos rfl,w7]
 by_cases hb:s.bits.length<13
 ·rw[e0,if_pos hb,if_pos (by simp only;omega)]at h;exact absurd (show(10:Int)=0 from h) (by decide)
 ·rw[if_neg hb]at e0
  rw[e0,if_neg (by simp only;omega)]at h;by_cases hm:mayOf 7 ((num (s.bits.take 13):Nat):Int)=true
  ·refine⟨_,s.bits.drop 13,hm,?_⟩
   rw[laid_one];simp only[Int.toNat_natCast];have hlen:(s.bits.take 13).length=13:=by rw[List.length_take];omega
   have hw:wbits (num (s.bits.take 13)) 13 13=s.bits.take 13:=by
    apply List.ext_getElem (by rw[wbits_length,hlen])
    intro i h1 h2;have hi:i<13:=by rw[wbits_length]at h1;exact h1
    have g1:=wbits_getD (num (s.bits.take 13)) 13 13 i hi;rw[num_testBit,hlen,decide_eq_true (by omega),Bool.true_and,show 13-1-(13-1-i)=i by omega]at g1
    simpa[List.getD_eq_getElem?_getD,List.getElem?_eq_getElem h1,List.getElem?_eq_getElem h2]using g1
   show s.bits=wbits (num (s.bits.take 13)) 13 13++s.bits.drop 13
   rw[hw,List.take_append_drop]
  ·rw[if_pos (by simpa using hm)]at h;exact absurd (show(20:Int)=0 from h) (by decide)
structure Wh (id:Int) (D1 D2:List (Int×Int)):Prop where
 fit: ∀x∈D1++D2,FitP x
 items: ∀s R,s.rd=false->s.e=0->s.V=(D1++D2).map Prod.fst++R->runL (astOf id) 0 s= {s with V:=R,out:=s.out++D1++(0,13)::D2,got:=s.got++(D1++D2).map Prod.fst,place:=(s.out++D1).length}
 get: ∀s R n,s.rd=true->s.e=0->mayOf 7 n=true->s.bits=laidOf (D1++(n,13)::D2)++R->runL (astOf id) 0 s= {s with bits:=R,out:=s.out++D1++(n,13)::D2,got:=s.got++(D1++D2).map Prod.fst,place:=(s.out++D1).length}
 cut: ∀s n,s.rd=true->s.e=0->mayOf 7 n=true->s.bits.length<(laidOf (D1++(n,13)::D2)).length->s.bits=(laidOf (D1++(n,13)::D2)).take s.bits.length->(runL (astOf id) 0 s).e=10
end
section
open Go.RowKit
open BitsM
theorem run_pre {pre:List Nd}{a:Nat}{post:List Nd}(hp:pre=[]\/pre=[.v 6])(s:WS)(he:s.e=0):
  runL (pre++ .v 7:: .v a::post) 0 s=if(runL pre 0 s).e≠0 then runL pre 0 s else runL (.v a::post) 0 (oneS 7 (runL pre 0 s)).2:=by
 have h7: ∀last t,runL (.v 7:: .v a::post) last t=if t.e≠0 then t else runL (.v a::post) 0 (oneS 7 t).2:=by
  intro last t;rw[runL,runN];split
  ·rfl
  ·exact run_last a post _ _
 rcases hp with rfl|rfl
 ·exact h7 0 s
 ·have e1:runL [.v 6] 0 s=(oneS 6 s).2:=by rw[runL,if_neg (by omega),runN,runL];rfl
  show runL (.v 6::(.v 7:: .v a::post)) 0 s=_
  rw[e1,runL,if_neg (by omega),runN];exact h7 _ _
theorem wh_make {id:Int}{pre:List Nd}{a:Nat}{post:List Nd}{D1 D2:List (Int×Int)}(sh:Shape id pre a post)(p1:Pk (fun s=>(0,runL pre 0 s)) 0 D1)(p2:Pk (fun s=>(0,runL (.v a::post) 0 s)) 0 D2):Wh id D1 D2:=by
 have ei: ∀s R,s.rd=false->s.e=0->s.V=D1.map Prod.fst++R->runL pre 0 s=adv s D1 R:=fun s R h1 h2 h3=>congrArg Prod.snd (p1.items s R h1 h2 h3);have eg: ∀s R,s.rd=true->s.e=0->s.bits=laidOf D1++R->runL pre 0 s=advB s D1 R:=fun s R h1 h2 h3=>congrArg Prod.snd (p1.get s R h1 h2 h3);have fi: ∀s R,s.rd=false->s.e=0->s.V=D2.map Prod.fst++R->runL (.v a::post) 0 s=adv s D2 R:=fun s R h1 h2 h3=>congrArg Prod.snd (p2.items s R h1 h2 h3);have fg: ∀s R,s.rd=true->s.e=0->s.bits=laidOf D2++R->runL (.v a::post) 0 s=advB s D2 R:=fun s R h1 h2 h3=>congrArg Prod.snd (p2.get s R h1 h2 h3);have e3: ∀n,laidOf (D1++(n,13)::D2)=laidOf D1++(laidOf [(n,13)]++laidOf D2):=fun n=>by
  rw[show D1++(n,(13:Int))::D2=D1++([(n,13)]++D2)from rfl,laid_append,laid_append]
 refine⟨?_,?_,?_,?_⟩
 ·intro x hx
  rw[List.mem_append]at hx;exact hx.elim (p1.fit x) (p2.fit x)
 ·intro s R hrd he hV
  rw[List.map_append,List.append_assoc]at hV;rw[sh.ast,run_pre sh.pre s he,ei s _ hrd he hV,if_neg (show¬(adv s D1 (D2.map Prod.fst++R)).e≠0 from fun k=>k he),seven_items (s:=adv s D1 _) hrd he];refine Eq.trans (fi _ R ?_ ?_ ?_) ?_
  ·exact hrd
  ·exact he
  ·rfl
  simp[adv,List.append_assoc]
 ·intro s R n hrd he hm hb
  rw[e3,List.append_assoc,List.append_assoc]at hb;rw[sh.ast,run_pre sh.pre s he,eg s _ hrd he hb,if_neg (show¬(advB s D1 (laidOf [(n,13)]++(laidOf D2++R))).e≠0 from fun k=>k he),seven_get (s:=advB s D1 _) (R:=laidOf D2++R) hrd he hm rfl];refine Eq.trans (fg _ R ?_ ?_ ?_) ?_
  ·exact hrd
  ·exact he
  ·rfl
  simp[advB,List.append_assoc]
 ·intro s n hrd he hm hlt hb
  rw[e3]at hlt hb;rw[List.length_append]at hlt;rw[sh.ast,run_pre sh.pre s he];by_cases h1:s.bits.length<(laidOf D1).length
  ·have hb1:s.bits=(laidOf D1).take s.bits.length:=by
    rw[List.take_append_of_le_length (by omega)]at hb;exact hb
   have he1:(runL pre 0 s).e=10:=p1.cut s hrd he h1 hb1;rw[if_pos (by rw[he1];decide)];exact he1
  ·obtain⟨B,hB⟩:=geZ ((laidOf [(n,13)]++laidOf D2).take (s.bits.length-(laidOf D1).length))
   have hb1:s.bits=laidOf D1++B:=by
    rw[List.take_append,List.take_of_length_le (by omega),hB]at hb;exact hb
   have hBl:B.length=s.bits.length-(laidOf D1).length:=by
    rw[<-hB,List.length_take];omega
   have h13:(laidOf [(n,13)]).length=13:=by rw[laid_one,wbits_length];rfl
   rw[eg s B hrd he hb1,if_neg (show¬(advB s D1 B).e≠0 from fun k=>k he)];rw[List.length_append]at hlt;by_cases h2:B.length<13
   ·have he7:=seven_cut (s:=advB s D1 B) hrd he h2
    rw[runL_err _ _ (by rw[he7];decide)];exact he7
   ·obtain⟨C,hC⟩:=geZ ((laidOf D2).take (B.length-13))
    have hB2:B=laidOf [(n,13)]++C:=by
     rw[<-hB,List.take_append,List.take_of_length_le (by omega),h13,<-hBl,hC]
    have hCl:C.length=B.length-13:=by rw[<-hC,List.length_take];omega
    rw[seven_get (s:=advB s D1 B) (R:=C) hrd he hm hB2];exact p2.cut _ hrd he (by show C.length<_;omega) (by show C=(laidOf D2).take C.length;rw[hCl,hC])
theorem wh_of_run {id:Int}(hk:knownB id=true){s:WS}(he:s.e=0)(h:(runL (astOf id) 0 s).e=0):
  ∃D1 D2,Wh id D1 D2/\(s.rd=false-> ∃R,s.V=(D1++D2).map Prod.fst++R)/\(s.rd=true-> ∃n R,mayOf 7 n=true/\s.bits=laidOf (D1++(n,13)::D2)++R):=by
 obtain⟨pre,a,post,sh⟩:=shape_of hk;rw[sh.ast,run_pre sh.pre s he]at h;have h1:(runL pre 0 s).e=0:=by
  by_cases k:(runL pre 0 s).e=0
  ·exact k
  ·rw[if_pos k]at h;exact absurd h k
 rw[if_neg (by omega)]at h;have hpp:plainL pre=true:=by rcases sh.pre with rfl|rfl<;>rfl
 obtain⟨D1,p1,t1⟩:=run_took _ pre (Nat.lt_succ_self _) hpp 0 s he h1;have h7:(oneS 7 (runL pre 0 s)).2.e=0:=by
  by_cases k:(oneS 7 (runL pre 0 s)).2.e=0
  ·exact k
  ·rw[runL_err _ _ k]at h;exact absurd h k
 obtain⟨D2,p2,t2⟩:=run_took _ (.v a::post) (Nat.lt_succ_self _) sh.plain 0 _ h7 h;refine⟨D1,D2,wh_make sh p1 p2,?_,?_⟩
 ·intro hrd
  obtain⟨R,hR⟩:=t1.1 hrd;have e1:runL pre 0 s=adv s D1 R:=congrArg Prod.snd (p1.items s R hrd he hR);rw[e1,seven_items (s:=adv s D1 R) hrd he]at t2;obtain⟨R2,hR2⟩:=t2.1 hrd;exact⟨R2,by rw[hR,show R=_ from hR2,List.map_append,List.append_assoc]⟩
 ·intro hrd
  obtain⟨R,hR⟩:=t1.2 hrd;have e1:runL pre 0 s=advB s D1 R:=congrArg Prod.snd (p1.get s R hrd he hR);rw[e1]at h7 t2;obtain⟨n,R2,hm,hb2⟩:=seven_took (s:=advB s D1 R) he h7 hrd;rw[seven_get (s:=advB s D1 R) (R:=R2) hrd he hm hb2]at t2;obtain⟨R3,hR3⟩:=t2.2 hrd;refine⟨n,R3,hm,?_⟩;rw[show D1++(n,(13:Int))::D2=D1++([(n,13)]++D2)from rfl,laid_append,laid_append,hR,show R=_ from hb2,show R2=_ from hR3];simp[List.append_assoc]
def startS (id:Int)(V:List Int):WS:=⟨V,false,[],[(id,8)],[],0,0⟩
def itemsF (id:Int)(V:List Int):List (Int×Int)×Int:=
 if knownB id=false then([],50)else
 if(runL (astOf id) 0 (startS id V)).e≠0 then([],(runL (astOf id) 0 (startS id V)).e)else
 if(runL (astOf id) 0 (startS id V)).V≠[]then([],20)else
 if 8184<totalOf (runL (astOf id) 0 (startS id V)).out then([],2)else
 ((runL (astOf id) 0 (startS id V)).out.set (runL (astOf id) 0 (startS id V)).place.toNat (totalOf (runL (astOf id) 0 (startS id V)).out,13),0)
theorem total_append (a b:List (Int×Int)):totalOf (a++b)=totalOf a+totalOf b:=by
 have h: ∀(l:List (Int×Int)) (n:Int),l.foldl (fun n x=>n+x.2) n=n+totalOf l:=by
  intro l
  induction l with
  |nil=>intro n;simp[totalOf]
  |cons x l ih=>
   intro n;have e:totalOf (x::l)=l.foldl (fun n x=>n+x.2) (0+x.2):=rfl;rw[List.foldl_cons,ih,e,ih];omega
 rw[totalOf,List.foldl_append,h,<-totalOf]
theorem total_cons (x:Int×Int)(l:List (Int×Int)):totalOf (x::l)=x.2+totalOf l:=by
 rw[show x::l=[x]++l from rfl,total_append];simp[totalOf]
theorem items_form {id:Int}{V:List Int}(hk:knownB id=true)(h:(runL (astOf id) 0 (startS id V)).e=0):
  ∃D1 D2 R,Wh id D1 D2/\V=(D1++D2).map Prod.fst++R/\runL (astOf id) 0 (startS id V)= {startS id V with V:=R,out:=[(id,8)]++D1++(0,13)::D2,got:=(D1++D2).map Prod.fst,place:=([(id,(8:Int))]++D1).length} :=by
 obtain⟨D1,D2,w,hi,_⟩:=wh_of_run hk (s:=startS id V) rfl h;obtain⟨R,hR⟩:=hi rfl;exact⟨D1,D2,R,w,hR,w.items (startS id V) R rfl rfl hR⟩
end
section
open Go.RowKit
open BitsM
theorem getD_mid2 (id:Int)(D1 D2:List (Int×Int))(x:Int×Int):([(id,(8:Int))]++D1++x::D2).getD ([(id,(8:Int))]++D1).length (0,0)=x:=by
 rw[List.getD_eq_getElem?_getD,List.getElem?_append_right (Nat.le_refl _),Nat.sub_self];rfl
end
section
open Go.RowKit
open BitsM
structure LnOk (x:(Int×Int)×(Int×Int)):Prop where
 n0:0<=x.1.1
 n1:x.1.1<=32767
 c0:0<=x.1.2
 c1:x.1.2<=1023
 b0:0<=x.2.1
 b1:x.2.1<=16383
 o0:0<=x.2.2
 o1:x.2.2<=1
def itemsOk (p:Int×List Int):Bool:=decide ((itemsF p.1 p.2).2=0)
end
section
open Go.RowKit
open BitsM
theorem one_inv17 {v:Nat}{s:WS}(hrd:s.rd=false)(h7:v≠7)(h:(oneS v s).2.e=0):s.e=0/\s.V=(oneS v s).1::(oneS v s).2.V/\mayOf v (oneS v s).1=true/\(oneS v s).2.rd=false:=by
 have h7': ¬((v:Int)=7):=by omega
 unfold oneS at h⊢;by_cases h0:s.e≠0
 ·rw[if_pos h0]at h
  exact absurd h h0
 ·rw[if_neg h0]at h⊢
  have he:s.e=0:=by simpa using h0
  cases hV:s.V with
  |nil=>
   have hf:fetch v s=(0, {s with e:=20}):=by unfold fetch;rw[if_neg (by rw[hrd];decide),if_neg h7',if_pos hV]
   rw[hf,if_pos (show({s with e:=20} :WS).e≠0 from by show(20:Int)≠0;decide)]at h;exact absurd h (by show¬((20:Int)=0);decide)
  |cons x r=>
   have hf:fetch v s=(x, {s with V:=r}):=by
    unfold fetch;rw[if_neg (by rw[hrd];decide),if_neg h7',if_neg (by rw[hV];simp),hV]
    rfl
   rw[hf]at h⊢;rw[if_neg (by dsimp only;exact h0)]at h⊢;by_cases hm:mayOf v x=false
   ·rw[if_pos hm]at h
    exact absurd h (by show¬((20:Int)=0);decide)
   ·rw[if_neg hm]
    have hm':mayOf v x=true:=by simpa using hm
    refine⟨he,?_,hm',?_⟩
    ·unfold keep
     dsimp only;rw[if_neg h7'];split<;>rfl
    ·unfold keep
     dsimp only;rw[if_neg h7'];split<;>exact hrd
theorem seven_inv17 {s:WS}(hrd:s.rd=false)(h:(oneS 7 s).2.e=0):s.e=0/\(oneS 7 s).2.V=s.V/\(oneS 7 s).2.rd=false:=by
 unfold oneS at h⊢;by_cases h0:s.e≠0
 ·rw[if_pos h0]at h
  exact absurd h h0
 ·have hf:fetch 7 s=(0,s):=by unfold fetch;rw[if_neg (by rw[hrd];decide),if_pos rfl]
  have he:s.e=0:=by simpa using h0
  rw[if_neg h0,hf]at h⊢;rw[if_neg h0]at h⊢;by_cases hm:mayOf 7 0=false
  ·rw[if_pos hm]at h
   exact absurd h (by show¬((20:Int)=0);decide)
  ·rw[if_neg hm]
   exact⟨he,rfl,hrd⟩
def ShRep (P:List Int->List Int->Prop):Nat->List Int->List Int->Prop
 |0,V,U=>U=V
 |m+1,V,U=> ∃W,P V W/\ShRep P m W U
theorem ShRep.snoc {P:List Int->List Int->Prop}{m:Nat}{V W U:List Int}(h:ShRep P m V W)(hp:P W U):ShRep P (m+1) V U:=by
 induction m generalizing V with
 |zero=>
  have h:W=V:=h;subst h;exact⟨U,hp,rfl⟩
 |succ m ih=>
  obtain⟨X,h1,h2⟩:=h;exact⟨X,h1,ih h2⟩
theorem ShRep.imp {P Q:List Int->List Int->Prop}(hPQ: ∀V U,P V U->Q V U){m:Nat}{V U:List Int}(h:ShRep P m V U):ShRep Q m V U:=by
 induction m generalizing V with
 |zero=>exact h
 |succ m ih=>
  obtain⟨X,h1,h2⟩:=h;exact⟨X,hPQ _ _ h1,ih h2⟩
mutual
def ShN:Nd->Int->List Int->Int->List Int->Prop
 | .v n,_,V,l1,U=>if n=7 then U=V else V=l1::U/\mayOf n l1=true
 | .g k b,last,V,l1,U=>l1=last/\ShRep (fun V U=>ShL b 0 V U) (many k last) V U
def ShL:List Nd->Int->List Int->List Int->Prop
 |[],_,V,U=>U=V
 |x::l,last,V,U=> ∃l1 W,ShN x last V l1 W/\ShL l l1 W U
end
theorem rep_inv17 {P:List Int->List Int->Prop}{f:WS->WS}(hf: ∀s:WS,s.rd=false->(f s).e=0->s.e=0/\P s.V (f s).V/\(f s).rd=false)(m:Nat){s:WS}(hrd:s.rd=false)(h:(repS f m s).e=0):s.e=0/\ShRep P m s.V (repS f m s).V/\(repS f m s).rd=false:=by
 induction m generalizing s with
 |zero=>exact⟨h,rfl,hrd⟩
 |succ m ih=>
  rw[repS]at h⊢;by_cases h0:s.e≠0
  ·rw[if_pos h0]at h
   exact absurd h h0
  ·rw[if_neg h0]at h⊢
   have he:s.e=0:=by simpa using h0
   have h1:(f s).e=0:=by
    by_cases h2:(f s).e≠0
    ·rw[repS_err _ _ h2]at h
     exact absurd h h2
    ·simpa using h2
   obtain⟨g1,g2,g3⟩:=hf s hrd h1;obtain⟨k1,k2,k3⟩:=ih g3 h;exact⟨he,⟨_,g2,k2⟩,k3⟩
mutual
theorem shN_inv17: ∀(x:Nd) (last:Int) (s:WS),s.rd=false->(runN x last s).2.e=0->s.e=0/\ShN x last s.V (runN x last s).1 (runN x last s).2.V/\(runN x last s).2.rd=false
 | .v n,last,s,hrd,h=>by
  simp only[runN]at h⊢;by_cases h7:n=7
  ·subst h7
   obtain⟨h1,h2,h3⟩:=seven_inv17 hrd h;refine⟨h1,?_,h3⟩;rw[ShN,if_pos rfl];exact h2
  ·obtain⟨h1,h2,h3,h4⟩:=one_inv17 hrd h7 h
   refine⟨h1,?_,h4⟩;rw[ShN,if_neg h7];exact⟨h2,h3⟩
 | .g k b,last,s,hrd,h=>by
  simp only[runN]at h⊢;obtain⟨h1,h2,h3⟩:=rep_inv17 (P:=fun V U=>ShL b 0 V U) (fun s hs h=>shL_inv17 b 0 s hs h) (many k last) hrd h;refine⟨h1,?_,h3⟩;rw[ShN];exact⟨rfl,h2⟩
theorem shL_inv17: ∀(b:List Nd) (last:Int) (s:WS),s.rd=false->(runL b last s).e=0->s.e=0/\ShL b last s.V (runL b last s).V/\(runL b last s).rd=false
 |[],last,s,hrd,h=>by
  simp only[runL]at h⊢;refine⟨h,?_,hrd⟩;rw[ShL]
 |x::l,last,s,hrd,h=>by
  simp only[runL]at h⊢;by_cases h0:s.e≠0
  ·rw[if_pos h0]at h
   exact absurd h h0
  ·rw[if_neg h0]at h⊢
   have he:s.e=0:=by simpa using h0
   have h1:(runN x last s).2.e=0:=by
    by_cases h2:(runN x last s).2.e≠0
    ·rw[runL_err _ _ h2]at h
     exact absurd h h2
    ·simpa using h2
   obtain⟨g1,g2,g3⟩:=shN_inv17 x last s hrd h1;obtain⟨k1,k2,k3⟩:=shL_inv17 l _ _ g3 h;refine⟨he,?_,k3⟩;rw[ShL];exact⟨_,_,g2,k2⟩
end
theorem items_shape17 {id:Int}{V:List Int}(h:itemsOk (id,V)=true):ShL (astOf id) 0 V []:=by
 unfold itemsOk itemsF at h;rw[decide_eq_true_eq]at h;dsimp only at h;split at h
 ·exact absurd h (by show¬((50:Int)=0);decide)
 ·split at h
  ·rename_i h2
   exact absurd h h2
  ·rename_i h2
   split at h
   ·exact absurd h (by show¬((20:Int)=0);decide)
   ·rename_i h3
    have h4:=shL_inv17 (astOf id) 0 (startS id V) rfl (by simpa using h2);have h5:(runL (astOf id) 0 (startS id V)).V=[]:=by simpa using h3
    rw[h5]at h4;exact h4.2.1
theorem may_in17 {v:Nat}{x M:Int}(h:mayOf v x=true)(hM:mostOf v=M)(hs:specialOf v=0):0<=x/\x<=M:=by
 unfold mayOf at h;rw[hM,hs]at h;simp only[Bool.and_eq_true,Bool.or_eq_true,decide_eq_true_eq]at h;refine⟨h.1.2,?_⟩
 rcases h.2 with h|h
 ·exact h
 ·exact absurd rfl h.1.1
/-! ## Packet 15 -/
def SecSh (V U:List Int):Prop:= ∃x q,(0<=x/\x<=32767)/\((q=0/\V=x::q::U)\/(q=1/\ ∃a b,(0<=a/\a<=1023)/\V=x::q::a::b::U))
def GapSh (V:List Int):Prop:= ∃q p R,(0<=p/\p<=1)/\((q=0/\V=q::p::R)\/(q=1/\ ∃a b,V=q::a::b::p::R))/\(p=1-> ∃g z S,(0<=g/\g<=32767)/\R=g::z::S)
theorem pair_inv17 {last:Int}{a b:Nat}{V U:List Int}(ha:a≠7)(hb:b≠7)(hl:0<=last/\last<=1)(h: ∃l1 W,ShN (.g 1 [.v a,.v b]) last V l1 W/\(l1=last/\U=W)):(last=0/\V=U)\/(last=1/\ ∃x y,mayOf a x=true/\mayOf b y=true/\V=x::y::U):=by
 obtain⟨l1,W,h1,rfl,rfl⟩:=h;rw[ShN]at h1;obtain⟨-,h1⟩:=h1
 rcases(by omega:l1=0\/l1=1)with rfl|rfl
 ·exact .inl ⟨rfl,(show U=V from h1).symm⟩
 ·refine .inr ⟨rfl,?_⟩
  obtain⟨X,h2,h3⟩:=h1;have h3:U=X:=h3;subst h3;simp only[ShL,ShN,if_neg ha,if_neg hb]at h2;obtain⟨x,W1,⟨rfl,m1⟩,y,W2,⟨rfl,m2⟩,h2⟩:=h2;subst h2;exact⟨x,y,m1,m2,rfl⟩
theorem sec_inv17 {v:Nat}(hv:v≠7)(hm:mostOf v=32767)(hs:specialOf v=0){V U:List Int}(h: ∃l1 W,ShN (.v v) 0 V l1 W/\ ∃l2 W2,ShN (.v 29) l1 W l2 W2/\ ∃l3 W3,ShN (.g 1 [.v 30,.v 31]) l2 W2 l3 W3/\U=W3):SecSh V U:=by
 obtain⟨x,W,h1,q,W2,h2,l3,W3,h3,rfl⟩:=h;rw[ShN,if_neg hv]at h1;rw[ShN,if_neg (by decide)]at h2;obtain⟨rfl,m1⟩:=h1;obtain⟨rfl,m2⟩:=h2;have b1:=may_in17 m1 hm hs;have b2:=may_in17 m2 (show mostOf (29:Nat)=1 from by kernel_rfl) (by kernel_rfl);have h4:l3=q:=by rw[ShN]at h3;exact h3.1
 rcases pair_inv17 (by decide) (by decide) b2 ⟨l3,_,h3,h4,rfl⟩with⟨rfl,rfl⟩|⟨rfl,a,b,ma,_,rfl⟩
 ·exact⟨x,0,b1,.inl ⟨rfl,rfl⟩⟩
 ·exact⟨x,1,b1,.inr ⟨rfl,a,b,may_in17 ma (show mostOf (30:Nat)=1023 from by kernel_rfl) (by kernel_rfl),rfl⟩⟩
theorem fifteen_shape17 {V:List Int}(h:itemsOk (15,V)=true): ∃d u a b n R0 R1,V=d::u::a::b::n::R0/\(0<=d/\d<=2)/\(0<=u/\u<=2)/\(0<=n/\n<=31)/\ShRep SecSh (n.toNat+1) R0 R1/\GapSh R1:=by
 have h1:=items_shape17 h;rw[show astOf 15=ast15 from rfl]at h1;unfold ast15 at h1;rw[ShL]at h1;obtain⟨d,W1,m1,h1⟩:=h1;rw[ShN,if_neg (by decide)]at m1;obtain⟨rfl,m1⟩:=m1;rw[ShL]at h1;obtain⟨l2,W2,m2,h1⟩:=h1;rw[ShN,if_pos rfl]at m2;subst m2;rw[ShL]at h1;obtain⟨u,W3,m3,h1⟩:=h1;rw[ShN,if_neg (by decide)]at m3;obtain⟨rfl,m3⟩:=m3;rw[ShL]at h1;obtain⟨a,W4,m4,h1⟩:=h1;rw[ShN,if_neg (by decide)]at m4;obtain⟨rfl,m4⟩:=m4;rw[ShL]at h1;obtain⟨b,W5,m5,h1⟩:=h1;rw[ShN,if_neg (by decide)]at m5;obtain⟨rfl,m5⟩:=m5;rw[ShL]at h1;obtain⟨n,W6,m6,h1⟩:=h1;rw[ShN,if_neg (by decide)]at m6;obtain⟨rfl,m6⟩:=m6;rw[ShL]at h1;obtain⟨n2,W7,m7,h1⟩:=h1;rw[ShN]at m7;obtain⟨rfl,m7⟩:=m7;have hmany:many 0 n2=n2.toNat:=rfl;rw[hmany]at m7;have m7:ShRep SecSh n2.toNat W6 W7:=m7.imp fun V U hVU=>by
  simp only[ShL]at hVU;exact sec_inv17 (by decide) (by kernel_rfl) (by kernel_rfl) hVU
 rw[ShL]at h1;obtain⟨x,W8,m8,h1⟩:=h1;rw[ShL]at h1;obtain⟨q,W9,m9,h1⟩:=h1;rw[ShL]at h1;obtain⟨q2,W10,m10,h1⟩:=h1;have s1:SecSh W7 W10:=by
  refine sec_inv17 (v:=32) (by decide) (by kernel_rfl) (by kernel_rfl) ⟨x,W8,?_,q,W9,m9,q2,W10,m10,rfl⟩;rw[ShN]at m8⊢;exact m8
 rw[ShL]at h1;obtain⟨q3,W11,m11,h1⟩:=h1;rw[ShN,if_neg (by decide)]at m11;obtain⟨rfl,m11⟩:=m11;rw[ShL]at h1;obtain⟨q4,W12,m12,h1⟩:=h1;have e12:q4=q3:=by rw[ShN]at m12;exact m12.1
 have s2:=pair_inv17 (by decide) (by decide) (may_in17 m11 (show mostOf (33:Nat)=1 from by kernel_rfl) (by kernel_rfl)) ⟨q4,W12,m12,e12,rfl⟩;rw[ShL]at h1;obtain⟨p,W13,m13,h1⟩:=h1;rw[ShN,if_neg (by decide)]at m13;obtain⟨rfl,m13⟩:=m13;rw[ShL]at h1;obtain⟨p2,W14,m14,h1⟩:=h1;have e14:p2=p:=by rw[ShN]at m14;exact m14.1
 have bp:=may_in17 m13 (show mostOf (36:Nat)=1 from by kernel_rfl) (by kernel_rfl);have s3:=pair_inv17 (by decide) (by decide) bp ⟨p2,W14,m14,e14,rfl⟩;refine⟨d,u,a,b,n2,W6,q3::W11,rfl,may_in17 m1 (show mostOf (6:Nat)=2 from by kernel_rfl) (by kernel_rfl),may_in17 m3 (show mostOf (8:Nat)=2 from by kernel_rfl) (by kernel_rfl),may_in17 m6 (show mostOf (27:Nat)=31 from by kernel_rfl) (by kernel_rfl),m7.snoc s1,?_⟩;refine⟨q3,p,W13,bp,?_,?_⟩
 ·rcases s2 with⟨rfl,rfl⟩|⟨rfl,x1,y1,_,_,rfl⟩
  ·exact .inl ⟨rfl,rfl⟩
  ·exact .inr ⟨rfl,x1,y1,rfl⟩
 ·intro hp
  rcases s3 with⟨e,_⟩|⟨_,g,z,mg,_,rfl⟩
  ·omega
  ·exact⟨g,z,W14,may_in17 mg (show mostOf (37:Nat)=32767 from by kernel_rfl) (by kernel_rfl),rfl⟩
/-! ## Packet 5 -/
structure Lk17 where
 told:Bool
 group:Int
 rev:Bool
def LnkSh (k:Lk17)(V U:List Int):Prop:= ∃d b o r a,(0<=b/\b<=16383)/\((∃c,(0<=c/\c<=1023)/\V=d::1::c::b::o::r::a::U/\k=⟨true,c*16384+b,o==0⟩)\/(V=d::0::b::o::r::a::U/\k=⟨false,b,o==0⟩))
def LnksSh:List Lk17->List Int->List Int->Prop
 |[],V,U=>U=V
 |k::r,V,U=> ∃W,LnkSh k V W/\LnksSh r W U
theorem lnk_inv17 {last:Int}{V U:List Int}(h: ∃l1 W1,ShN (.v 44) last V l1 W1/\ ∃l2 W2,ShN (.v 12) l1 W1 l2 W2/\ ∃l3 W3,ShN (.g 1 [.v 10]) l2 W2 l3 W3/\ ∃l4 W4,ShN (.v 11) l3 W3 l4 W4/\ ∃l5 W5,ShN (.v 45) l4 W4 l5 W5/\ ∃l6 W6,ShN (.v 46) l5 W5 l6 W6/\ ∃l7 W7,ShN (.v 47) l6 W6 l7 W7/\U=W7): ∃k,LnkSh k V U:=by
 obtain⟨d,W1,h1,q,W2,h2,l3,W3,h3,b,W4,h4,o,W5,h5,r,W6,h6,a,W7,h7,rfl⟩:=h;rw[ShN,if_neg (by decide)]at h1 h2 h4 h5 h6 h7;obtain⟨rfl,_⟩:=h1;obtain⟨rfl,m2⟩:=h2;obtain⟨rfl,m4⟩:=h4;obtain⟨rfl,_⟩:=h5;obtain⟨rfl,_⟩:=h6;obtain⟨rfl,_⟩:=h7;have b2:=may_in17 m2 (show mostOf (12:Nat)=1 from by kernel_rfl) (by kernel_rfl);have b4:=may_in17 m4 (show mostOf (11:Nat)=16383 from by kernel_rfl) (by kernel_rfl);rw[ShN]at h3;obtain⟨-,h3⟩:=h3
 rcases(by omega:q=0\/q=1)with rfl|rfl
 ·have h3:b::o::r::a::U=W2:=h3
  subst h3;exact⟨_,d,b,o,r,a,b4,.inr ⟨rfl,rfl⟩⟩
 ·obtain⟨X,g1,g2⟩:=h3
  have g2:b::o::r::a::U=X:=g2;subst g2;simp only[ShL,ShN,if_neg (show¬(10=7)from by decide)]at g1;obtain⟨c,W9,⟨rfl,mc⟩,g3⟩:=g1;subst g3;exact⟨_,d,b,o,r,a,b4,.inl ⟨c,may_in17 mc (show mostOf (10:Nat)=1023 from by kernel_rfl) (by kernel_rfl),rfl,rfl⟩⟩
theorem lnks_rep17 {m:Nat}{V U:List Int}(h:ShRep (fun V U=> ∃k,LnkSh k V U) m V U): ∃ks:List Lk17,ks.length=m/\LnksSh ks V U:=by
 induction m generalizing V with
 |zero=>exact⟨[],rfl,h⟩
 |succ m ih=>
  obtain⟨X,⟨k,h1⟩,h2⟩:=h;obtain⟨ks,h3,h4⟩:=ih h2;exact⟨k::ks,by rw[List.length_cons,h3],X,h1,h4⟩
theorem five_shape17 {V:List Int}(h:itemsOk (5,V)=true): ∃d u R0 R1 n k ks,V=d::u::R0/\LnkSh k R0 (n::R1)/\(0<=n/\n<=31)/\ks.length=n.toNat/\LnksSh ks R1 []:=by
 have h1:=items_shape17 h;rw[show astOf 5=ast5 from rfl]at h1;unfold ast5 at h1;rw[ShL]at h1;obtain⟨d,W1,m1,h1⟩:=h1;rw[ShN,if_neg (by decide)]at m1;obtain⟨rfl,m1⟩:=m1;rw[ShL]at h1;obtain⟨l2,W2,m2,h1⟩:=h1;rw[ShN,if_pos rfl]at m2;subst m2;rw[ShL]at h1;obtain⟨u,W3,m3,h1⟩:=h1;rw[ShN,if_neg (by decide)]at m3;obtain⟨rfl,m3⟩:=m3;rw[ShL]at h1;obtain⟨a1,A1,k1,h1⟩:=h1;rw[ShL]at h1;obtain⟨a2,A2,k2,h1⟩:=h1;rw[ShL]at h1;obtain⟨a3,A3,k3,h1⟩:=h1;rw[ShL]at h1;obtain⟨a4,A4,k4,h1⟩:=h1;rw[ShL]at h1;obtain⟨a5,A5,k5,h1⟩:=h1;rw[ShL]at h1;obtain⟨a6,A6,k6,h1⟩:=h1;rw[ShL]at h1;obtain⟨a7,A7,k7,h1⟩:=h1;obtain⟨k,hk⟩:=lnk_inv17 ⟨a1,A1,k1,a2,A2,k2,a3,A3,k3,a4,A4,k4,a5,A5,k5,a6,A6,k6,a7,A7,k7,rfl⟩;rw[ShL]at h1;obtain⟨n,W4,m4,h1⟩:=h1;rw[ShN,if_neg (by decide)]at m4;obtain⟨rfl,m4⟩:=m4;rw[ShL]at h1;obtain⟨n2,W5,m5,h1⟩:=h1;rw[ShN]at m5;obtain⟨rfl,m5⟩:=m5;rw[show many 0 n2=n2.toNat from rfl]at m5;rw[ShL]at h1;subst h1;obtain⟨ks,g1,g2⟩:=lnks_rep17 (m5.imp fun V U hVU=>by
  simp only[ShL]at hVU;exact lnk_inv17 hVU)
 exact⟨d,u,W3,W4,n2,k,ks,rfl,hk,may_in17 m4 (show mostOf (27:Nat)=31 from by kernel_rfl) (by kernel_rfl),g1,g2⟩
/-! ## The way that is read -/
def followE (t:Tp3):List St3->List Lk17->List St3×Int
 |path,[]=>(path,0)
 |path,k::r=>
  if k.told=false then([],20)
  else match balF t k.group with
   |none=>([],4)
   |some b=>
    if b.edge=(lastS path).edge then followE t path r
    else if mayT t (lastS path) ⟨b.edge,k.rev⟩=false then([],141)
    else if metS path [⟨b.edge,k.rev⟩]=true\/path.length=24 then([],2)
    else followE t (path++[⟨b.edge,k.rev⟩]) r
theorem follow_one17 {t:Tp3}{path:List St3}{k:Lk17}{V U:List Int}(h:LnkSh k V U)(r:List Lk17):
  ((linkOne t path V).2≠0->followE t path (k::r)=([],(linkOne t path V).2))/\((linkOne t path V).2=0->k.told=true/\V.drop 7=U/\followE t path (k::r)=followE t (linkOne t path V).1 r):=by
 obtain⟨d,b,o,ra,a,_,⟨c,_,rfl,rfl⟩|⟨rfl,rfl⟩⟩:=h
 ·unfold linkOne
  rw[if_neg (show¬((d::1::c::b::o::ra::a::U).getD 1 0≠1)from fun h=>h rfl)];rw[show(d::1::c::b::o::ra::a::U).getD 2 0=c from rfl,show(d::1::c::b::o::ra::a::U).getD 3 0=b from rfl,show(d::1::c::b::o::ra::a::U).getD 4 0=o from rfl];rw[followE];dsimp only;rw[if_neg (show¬(true=false)from by decide)]
  cases balF t (c*16384+b)with
  |none=>exact⟨fun _=>rfl,fun h=>absurd h (by show¬((4:Int)=0);decide)⟩
  |some x=>
   dsimp only;by_cases h1:x.edge=(lastS path).edge
   ·rw[if_pos h1,if_pos h1]
    exact⟨fun h=>absurd rfl h,fun _=>⟨rfl,rfl,rfl⟩⟩
   ·rw[if_neg h1,if_neg h1]
    by_cases h2:mayT t (lastS path) ⟨x.edge,o==0⟩=false
    ·rw[if_pos h2,if_pos h2]
     exact⟨fun _=>rfl,fun h=>absurd h (by show¬((141:Int)=0);decide)⟩
    ·rw[if_neg h2,if_neg h2]
     by_cases h3:metS path [⟨x.edge,o==0⟩]=true\/path.length=24
     ·rw[if_pos h3,if_pos h3]
      exact⟨fun _=>rfl,fun h=>absurd h (by show¬((2:Int)=0);decide)⟩
     ·rw[if_neg h3,if_neg h3]
      exact⟨fun h=>absurd rfl h,fun _=>⟨rfl,rfl,rfl⟩⟩
 ·unfold linkOne
  rw[followE];dsimp only;rw[if_pos (show(false=false)from rfl),if_pos (show(d::0::b::o::ra::a::U).getD 1 0≠1 from by show(0:Int)≠1;decide)];exact⟨fun _=>rfl,fun h=>absurd h (by show¬((20:Int)=0);decide)⟩
theorem follow_go17 {t:Tp3}{ks:List Lk17}{path:List St3}{V U:List Int}(h:LnksSh ks V U):followE t path ks=linkGo t ks.length path V:=by
 induction ks generalizing path V with
 |nil=>rfl
 |cons k r ih=>
  obtain⟨W,h1,h2⟩:=h;obtain⟨g1,g2⟩:=follow_one17 (t:=t) (path:=path) h1 r;rw[List.length_cons,linkGo];by_cases h0:(linkOne t path V).2≠0
  ·rw[if_pos h0,g1 h0]
  ·rw[if_neg h0]
   obtain⟨_,k2,k3⟩:=g2 (by simpa using h0);rw[k2,k3];exact ih h2
theorem follow_linked17 {t:Tp3}{path:List St3}{d u n:Int}{k:Lk17}{ks:List Lk17}{R0 R1 U:List Int}(h1:LnkSh k R0 (n::R1))(hn:ks.length=n.toNat)(h2:LnksSh ks R1 U):followE t path (k::ks)=linkedE t path (d::u::R0):=by
 obtain⟨g1,g2⟩:=follow_one17 (t:=t) (path:=path) h1 ks;unfold linkedE;rw[show(d::u::R0).drop 2=R0 from rfl];by_cases h0:(linkOne t path R0).2≠0
 ·rw[if_pos h0,g1 h0]
 ·rw[if_neg h0]
  obtain⟨k1,k2,k3⟩:=g2 (by simpa using h0);rw[k3];obtain⟨_,b,o,ra,a,_,⟨c,_,e,_⟩|⟨_,e⟩⟩:=h1
  ·rw[show(d::u::R0).getD 9 0=n from by rw[e];rfl,show(d::u::R0).drop 10=R1 from by rw[e];rfl,<-hn]
   exact follow_go17 h2
  ·rw[e]at k1
   cases k1
end
section
open Go.RowKit
open Go.Great
def NumR (wb W:World)(g:Nat)(V:List Int):Prop:= ∃(A:Option Addr) (n c:Nat),Has W g 172 #[.slice A n c]/\(∀W',Below wb.heap.size wb W'->SlO inC 1 W' A n c V)/\n<=c/\n<=10000
theorem NumR.under {wb W W':World}{g:Nat}{V:List Int}(h:NumR wb W g V)(hb:Below W.heap.size W W'):NumR wb W' g V:=by
 obtain⟨A,n,c,h1,h2⟩:=h;exact⟨A,n,c,h1.u hb,h2⟩
theorem NumR.grow {wb W W':World}{g:Nat}{V:List Int}{row:Option Nat}(h:NumR wb W g V)(hg:W.grownBy W' row)(hne:some g≠row):NumR wb W' g V:=by
 obtain⟨A,n,c,h1,h2⟩:=h;exact⟨A,n,c,h1.grow hg hne,h2⟩
theorem NumR.lt {wb W:World}{g:Nat}{V:List Int}(h:NumR wb W g V):g<W.heap.size:=by
 obtain⟨A,n,c,h1,h2⟩:=h;exact h1.lt
def secOne (V:List Int):Int×Int×Int:=
 if V.getD 1 0≠1 then(0,0,20)else if V.getD 2 0<1\/1000<V.getD 2 0\/V.getD 0 0=0 then(0,0,20)else if 32766<V.getD 0 0 then(0,0,7)else(V.getD 0 0,V.getD 2 0,0)
def gapOne (V:List Int):Int×Int:=
 let v:=if V.getD 0 0=1 then V.drop 2 else V
 if v.getD 1 0=0 then(0,0)else if 32766<v.getD 2 0 then(0,7)else(v.getD 2 0,0)
theorem opnext_any (x:Int)(U:List Int)(g:Nat)(wb W:World)(h:NumR wb W g (x::U))(hb:Below wb.heap.size wb W)(_hg:wb.heap.size<=g):
  Calls Tryz.prog 124 #[.pointer (some ⟨g,0,none⟩)] W fun r W'=>r= .returned (.int .i64 x)/\NumR wb W' g U/\W.grownBy W' (some g):=by
 obtain⟨A,n,c,h1,h2,h3,h4⟩:=h;have hs:=h2 W hb;have hn:n=U.length+1:=by rw[<-hs.1];rfl
 obtain⟨m,hm⟩:=geZ (U.length);rw[hm]at hn;subst hn;obtain⟨bk,off,hA,d0⟩:=hs.int13 (j:=0) (x:=x) rfl;subst hA;have d0':W.cell? ⟨bk,off,none⟩=some (.int .i64 x):=d0;have e0:W.cell? ⟨g,0,none⟩=some (.slice (some ⟨bk,off,none⟩) (m+1) c):=h1.cell 0;have h5:1<=m+1:=by omega
 have u1:(0:Int)<((m+1:Nat):Int):=by omega
 have hcu: ∀W,(Instr.sliceAt 22 (.slice (some ⟨bk,off,none⟩) (m+1) c) (some (.int .i64 1)) none none).run Tryz.prog W= .ok (.slice (if c=1 then(some ⟨bk,off,none⟩:Option Addr)else(some ⟨bk,off,none⟩:Option Addr).map (·.add (1*1))) (m+1-1) (c-1)) W:=fun W=>cut_from17 (P:=Tryz.prog) 1 22 3 Tryz.underlying22 (by kernel_rfl) (some ⟨bk,off,none⟩) (m+1) c 1 h5 W;have HS:=zq (fun W' (hW:Below wb.heap.size wb W')=>(h2 W' hW).from17 (fun _=>rfl) h3 h5);obtain⟨A2,hA2⟩:=geZ ((if c=1 then(some ⟨bk,off,none⟩:Option Addr)else(some ⟨bk,off,none⟩:Option Addr).map (·.add (1*1))));obtain⟨c2,hc2⟩: ∃m,c-1=m:=⟨_,rfl⟩
 rw[hA2,hc2]at hcu HS;have HC:=zq (show m<=c2/\m<=10000 from by omega);have HG:=zq h1;clear hA2 hc2 h1 h2 h3 h4 h5 hs hm d0 hb;go_enter Tryz.func124,Tryz.ntmps124;go_wp2_with (with_reducible refine wpList_store_cell17 (o:=⟨none,_,_,_,_,_⟩) rfl 22 _ _ rfl (g) 0 (.slice A2 m c2) rfl rfl 172 #[.slice (some ⟨bk,off,none⟩) (m+1) c] HG.out (Nat.le_of_ble_eq_true rfl) (by kernel_rfl) rfl #[.slice A2 m c2] rfl ?_);go_ret
 exact⟨rfl,⟨A2,m,c2,has_row11 HG.out _,HS.out,HC.out.1,HC.out.2⟩,only_row11 _ _ _⟩
theorem opskip_any (V:List Int)(k:Nat)(hk:k<=V.length)(g:Nat)(wb W:World)(h:NumR wb W g V)(hb:Below wb.heap.size wb W)(_hg:wb.heap.size<=g):
  Calls Tryz.prog 125 #[.pointer (some ⟨g,0,none⟩),.int .i64 k] W fun r W'=>r= .returned (.tuple #[])/\NumR wb W' g (V.drop k)/\W.grownBy W' (some g):=by
 obtain⟨A,n,c,h1,h2,h3,h4⟩:=h;have hs:=h2 W hb;have hn:k<=n:=by rw[<-hs.1];exact hk
 have e0:W.cell? ⟨g,0,none⟩=some (.slice A n c):=h1.cell 0;have hcu: ∀W,(Instr.sliceAt 22 (.slice A n c) (some (.int .i64 k)) none none).run Tryz.prog W= .ok (.slice (if c=k then A else A.map (·.add (k*1))) (n-k) (c-k)) W:=fun W=>cut_from17 (P:=Tryz.prog) 1 22 3 Tryz.underlying22 (by kernel_rfl) A n c k hn W;have HS:=zq (fun W' (hW:Below wb.heap.size wb W')=>(h2 W' hW).from17 (fun _=>rfl) h3 hn);obtain⟨A2,hA2⟩:=geZ ((if c=k then A else A.map (·.add (k*1))));obtain⟨c2,hc2⟩: ∃m,c-k=m:=⟨_,rfl⟩
 obtain⟨m,hm⟩:=geZ (n-k);rw[hA2,hc2,hm]at hcu HS;have HC:=zq (show m<=c2/\m<=10000 from by omega);have HG:=zq h1;clear hA2 hc2 h1 h2 h3 h4 hs hm hb hk hn;go_enter Tryz.func125,Tryz.ntmps125;go_wp2_with (with_reducible refine wpList_store_cell17 (o:=⟨none,_,_,_,_,_⟩) rfl 22 _ _ rfl (g) 0 (.slice A2 m c2) rfl rfl 172 #[.slice A n c] HG.out (Nat.le_of_ble_eq_true rfl) (by kernel_rfl) rfl #[.slice A2 m c2] rfl ?_);go_end0
 exact⟨rfl,⟨A2,m,c2,has_row11 HG.out _,HS.out,HC.out.1,HC.out.2⟩,only_row11 _ _ _⟩
theorem oprdsec_any (V U:List Int)(hV:SecSh V U)(g:Nat)(wb W:World)(h:NumR wb W g V)(hb:Below wb.heap.size wb W)(hg:wb.heap.size<=g):
  Calls Tryz.prog 126 #[(.func (.func 124) #[.pointer (some ⟨g,0,none⟩)] #[])] W fun r W'=>r= .returned (.tuple #[.int .i64 (secOne V).1,.int .i64 (secOne V).2.1,.int .i64 (secOne V).2.2])/\((secOne V).2.2=0->NumR wb W' g U)/\W.grownBy W' (some g):=by
 obtain⟨x,q,hx,hV⟩:=hV;obtain⟨R,hR⟩:=geZ (secOne V);rw[hR];have HR:=zq hR;have HN0:=zq h;have HB0:=zq hb;have HG:=zq hg;clear hR h hb hg
 rcases hV with⟨rfl,rfl⟩|⟨rfl,a,b,ha,rfl⟩
 ·have HF:=zq (show R=(0,0,20)from by rw[<-HR.out];exact if_pos (by simp))
  clear HR hx;go_enter Tryz.func126,Tryz.ntmps126;go_wp2_with fail;refine(opnext_any x (0::U) g wb W HN0.out HB0.out HG.out).mono ?_;rintro e_ w1 ⟨rfl,hn_,hg_⟩;have HN1:=zq hn_;have HW1:=zq (hg_);have HB1:=zq (below_only HB0.out hg_ HB0.out.size HG.out);clear hn_ hg_;go_wp2_with fail;refine(opnext_any 0 U g wb w1 HN1.out HB1.out HG.out).mono ?_;rintro e_ w2 ⟨rfl,hn_,hg_⟩;have HN2:=zq hn_;have HW2:=zq (only_trans HW1.out hg_);have HB2:=zq (below_only HB1.out hg_ HB1.out.size HG.out);clear hn_ hg_;go_wp2;go_ret3
  exact⟨by rw[HF.out];rfl,fun h_=>by rw[HF.out]at h_;exact absurd h_ (by decide),HW2.out⟩
 ·have HRR:=zq (show(if a<1\/1000<a\/x=0 then((0,0,20):Int×Int×Int)else if 32766<x then(0,0,7)else(x,a,0))=R from HR.out)
  have HT:=zq (fun W=>optimer_any a W);clear HR;go_enter Tryz.func126,Tryz.ntmps126;go_wp2_with fail;refine(opnext_any x (1::a::b::U) g wb W HN0.out HB0.out HG.out).mono ?_;rintro e_ w1 ⟨rfl,hn_,hg_⟩;have HN1:=zq hn_;have HW1:=zq (hg_);have HB1:=zq (below_only HB0.out hg_ HB0.out.size HG.out);clear hn_ hg_;go_wp2_with fail;refine(opnext_any 1 (a::b::U) g wb w1 HN1.out HB1.out HG.out).mono ?_;rintro e_ w2 ⟨rfl,hn_,hg_⟩;have HN2:=zq hn_;have HW2:=zq (only_trans HW1.out hg_);have HB2:=zq (below_only HB1.out hg_ HB1.out.size HG.out);clear hn_ hg_;go_wp2_with fail;refine(opnext_any a (b::U) g wb w2 HN2.out HB2.out HG.out).mono ?_;rintro e_ w3 ⟨rfl,hn_,hg_⟩;have HN3:=zq hn_;have HW3:=zq (only_trans HW2.out hg_);have HB3:=zq (below_only HB2.out hg_ HB2.out.size HG.out);clear hn_ hg_;go_wp2_with fail;refine(opnext_any b U g wb w3 HN3.out HB3.out HG.out).mono ?_;rintro e_ w4 ⟨rfl,hn_,hg_⟩;have HN4:=zq hn_;have HW4:=zq (only_trans HW3.out hg_);have HB4:=zq (below_only HB3.out hg_ HB3.out.size HG.out);clear hn_ hg_;obtain⟨tb,htb⟩: ∃q,(decide (1<=a) &&decide (a<=1000))=q:=⟨_,rfl⟩
  rw[htb]at HT;go_wp2_with fail;refine(HT.out w4).mono ?_;rintro e_ w4' ⟨rfl,rfl⟩
  cases tb with
  |false=>
   have HF:=zq (show R=(0,0,20)from by rw[<-HRR.out];refine if_pos ?_;simp only[Bool.and_eq_false_iff,decide_eq_false_iff_not]at htb;omega);clear htb;go_wp2;go_ret3
   exact⟨by rw[HF.out];rfl,fun h_=>by rw[HF.out]at h_;exact absurd h_ (by decide),HW4.out⟩
  |true=>
   by_cases z:x=0
   ·have z1:(x==0)=true:=by simp[z]
    have HF:=zq (show R=(0,0,20)from by rw[<-HRR.out];exact if_pos (Or.inr (Or.inr z)));clear htb z;go_wp2;go_ret3
    exact⟨by rw[HF.out];rfl,fun h_=>by rw[HF.out]at h_;exact absurd h_ (by decide),HW4.out⟩
   ·have z1:(x==0)=false:=by simp[z]
    have hne: ¬(a<1\/1000<a\/x=0):=by simp only[Bool.and_eq_true,decide_eq_true_eq]at htb;omega
    by_cases z2:32766<x
    ·have z3:decide (32766<x)=true:=decide_eq_true z2
     have HF:=zq (show R=(0,0,7)from by rw[<-HRR.out,if_neg hne,if_pos z2]);clear htb z hne;go_wp2;go_ret3
     exact⟨by rw[HF.out];rfl,fun h_=>by rw[HF.out]at h_;exact absurd h_ (by decide),HW4.out⟩
    ·have z3:decide (32766<x)=false:=decide_eq_false z2
     have HF:=zq (show R=(x,a,0)from by rw[<-HRR.out,if_neg hne,if_neg z2]);clear htb z hne;go_wp2;go_ret3
     exact⟨by rw[HF.out];rfl,fun _=>HN4.out,HW4.out⟩
theorem oprdgap_any (V:List Int)(hV:GapSh V)(g:Nat)(wb W:World)(h:NumR wb W g V)(hb:Below wb.heap.size wb W)(hg:wb.heap.size<=g):
  Calls Tryz.prog 127 #[.pointer (some ⟨g,0,none⟩)] W fun r W'=>r= .returned (.tuple #[.int .i64 (gapOne V).1,.int .i64 (gapOne V).2])/\W.grownBy W' (some g):=by
 obtain⟨q,p,S,hp,hV,hS⟩:=hV;obtain⟨R,hR⟩:=geZ (gapOne V);rw[hR];have HR:=zq hR;have HN0:=zq h;have HB0:=zq hb;have HG:=zq hg;clear hR h hb hg
 rcases hV with⟨rfl,rfl⟩|⟨rfl,a,b,rfl⟩
 ·have HRR:=zq (show(if p=0 then((0,0):Int×Int)else if 32766<S.getD 0 0 then(0,7)else(S.getD 0 0,0))=R from HR.out)
  clear HR;go_enter Tryz.func127,Tryz.ntmps127;go_wp2_with fail;refine(opnext_any 0 (p::S) g wb W HN0.out HB0.out HG.out).mono ?_;rintro e_ w1 ⟨rfl,hn_,hg_⟩;have HN1:=zq hn_;have HW1:=zq (hg_);have HB1:=zq (below_only HB0.out hg_ HB0.out.size HG.out);clear hn_ hg_;by_cases z:p=0
  ·subst z
   have HF:=zq (show R=(0,0)from HRR.out.symm.trans (if_pos rfl));clear HRR hS hp;go_wp2_with fail;refine(opnext_any 0 S g wb w1 HN1.out HB1.out HG.out).mono ?_;rintro e_ wx ⟨rfl,hn_,hg_⟩;have HN2:=zq hn_;have HW2:=zq (only_trans HW1.out hg_);have HB2:=zq (below_only HB1.out hg_ HB1.out.size HG.out);clear hn_ hg_;go_wp2;go_ret2
   exact⟨by rw[HF.out];rfl,HW2.out⟩
  ·obtain rfl:p=1:=by omega
   obtain⟨gp,zz,S2,hgp,rfl⟩:=hS rfl;have HRR:=zq (show(if 32766<gp then((0,7):Int×Int)else(gp,0))=R from HRR.out);clear hS hp z;go_wp2_with fail;refine(opnext_any 1 (gp::zz::S2) g wb w1 HN1.out HB1.out HG.out).mono ?_;rintro e_ wx ⟨rfl,hn_,hg_⟩;have HN2:=zq hn_;have HW2:=zq (only_trans HW1.out hg_);have HB2:=zq (below_only HB1.out hg_ HB1.out.size HG.out);clear hn_ hg_;go_wp2_with fail;refine(opnext_any gp (zz::S2) g wb wx HN2.out HB2.out HG.out).mono ?_;rintro e_ wy ⟨rfl,hn_,hg_⟩;have HN3:=zq hn_;have HW3:=zq (only_trans HW2.out hg_);have HB3:=zq (below_only HB2.out hg_ HB2.out.size HG.out);clear hn_ hg_;by_cases z2:32766<gp
   ·have z3:decide (32766<gp)=true:=decide_eq_true z2
    have HF:=zq (HRR.out.symm.trans (if_pos z2));clear HRR;go_wp2;go_ret2
    exact⟨by rw[HF.out];rfl,HW3.out⟩
   ·have z3:decide (32766<gp)=false:=decide_eq_false z2
    have HF:=zq (HRR.out.symm.trans (if_neg z2));clear HRR;go_wp2;go_ret2
    exact⟨by rw[HF.out];rfl,HW3.out⟩
 ·have HRR:=zq (show(if p=0 then((0,0):Int×Int)else if 32766<S.getD 0 0 then(0,7)else(S.getD 0 0,0))=R from HR.out)
  clear HR;go_enter Tryz.func127,Tryz.ntmps127;go_wp2_with fail;refine(opnext_any 1 (a::b::p::S) g wb W HN0.out HB0.out HG.out).mono ?_;rintro e_ w1 ⟨rfl,hn_,hg_⟩;have HN1:=zq hn_;have HW1:=zq (hg_);have HB1:=zq (below_only HB0.out hg_ HB0.out.size HG.out);clear hn_ hg_;go_wp2_with fail;refine(opskip_any (a::b::p::S) 2 (by simp) g wb w1 HN1.out HB1.out HG.out).mono ?_;rintro e_ w2 ⟨rfl,hn_,hg_⟩;have HN2:=zq (show NumR wb w2 g (p::S)from hn_);have HW2:=zq (only_trans HW1.out hg_);have HB2:=zq (below_only HB1.out hg_ HB1.out.size HG.out);clear hn_ hg_;by_cases z:p=0
  ·subst z
   have HF:=zq (show R=(0,0)from HRR.out.symm.trans (if_pos rfl));clear HRR hS hp;go_wp2_with fail;refine(opnext_any 0 S g wb w2 HN2.out HB2.out HG.out).mono ?_;rintro e_ wx ⟨rfl,hn_,hg_⟩;have HN3:=zq hn_;have HW3:=zq (only_trans HW2.out hg_);have HB3:=zq (below_only HB2.out hg_ HB2.out.size HG.out);clear hn_ hg_;go_wp2;go_ret2
   exact⟨by rw[HF.out];rfl,HW3.out⟩
  ·obtain rfl:p=1:=by omega
   obtain⟨gp,zz,S2,hgp,rfl⟩:=hS rfl;have HRR:=zq (show(if 32766<gp then((0,7):Int×Int)else(gp,0))=R from HRR.out);clear hS hp z;go_wp2_with fail;refine(opnext_any 1 (gp::zz::S2) g wb w2 HN2.out HB2.out HG.out).mono ?_;rintro e_ wx ⟨rfl,hn_,hg_⟩;have HN3:=zq hn_;have HW3:=zq (only_trans HW2.out hg_);have HB3:=zq (below_only HB2.out hg_ HB2.out.size HG.out);clear hn_ hg_;go_wp2_with fail;refine(opnext_any gp (zz::S2) g wb wx HN3.out HB3.out HG.out).mono ?_;rintro e_ wy ⟨rfl,hn_,hg_⟩;have HN4:=zq hn_;have HW4:=zq (only_trans HW3.out hg_);have HB4:=zq (below_only HB3.out hg_ HB3.out.size HG.out);clear hn_ hg_;by_cases z2:32766<gp
   ·have z3:decide (32766<gp)=true:=decide_eq_true z2
    have HF:=zq (HRR.out.symm.trans (if_pos z2));clear HRR;go_wp2;go_ret2
    exact⟨by rw[HF.out];rfl,HW4.out⟩
   ·have z3:decide (32766<gp)=false:=decide_eq_false z2
    have HF:=zq (HRR.out.symm.trans (if_neg z2));clear HRR;go_wp2;go_ret2
    exact⟨by rw[HF.out];rfl,HW4.out⟩
end
section
open Go.RowKit
open Go.Great
def rsJ (acc:List Sc3)(r:List Sc3×List Int×Int):List Sc3×List Int×Int:=if r.2.2≠0 then([],[],r.2.2)else(acc++r.1,r.2.1,0)
def rsecE (V:List Int)(rev:Bool):List Sc3×Int×Int:=
 if V.getD 0 0≠dirB rev then([],0,20)
 else if 7<V.getD 4 0 then([],0,2)
 else
  let s:=readSecs (V.getD 1 0) (V.getD 4 0+1).toNat 0 (V.drop 5)
  if s.2.2≠0 then([],0,s.2.2)else(s.1,(gapE s.2.1 (V.getD 1 0)).1,(gapE s.2.1 (V.getD 1 0)).2)
theorem rs_nil17 {u to_:Int}{k:Nat}{V:List Int}{T:List Sc3×List Int×Int}(h:readSecs u k to_ V=T)(hT:T.2.2≠0):T.1=[]/\T.2.1=[]:=by
 subst h
 cases k with
 |zero=>exact absurd rfl hT
 |succ k=>
  rw[readSecs]at hT⊢;split
  ·exact⟨rfl,rfl⟩
  ·rename_i h1
   rw[if_neg h1]at hT;split
   ·exact⟨rfl,rfl⟩
   ·rename_i h2
    rw[if_neg h2]at hT;split
    ·exact⟨rfl,rfl⟩
    ·rename_i h3
     rw[if_neg h3]at hT;dsimp only at hT⊢;split
     ·exact⟨rfl,rfl⟩
     ·rename_i h4
      rw[if_neg h4]at hT;exact absurd rfl hT
theorem unit_two17 {u:Int}(h:0<=u/\u<=2):unitOf u=1\/unitOf u=10\/unitOf u=100:=by
 unfold unitOf;by_cases h0:u=0
 ·rw[if_pos h0];exact .inl rfl
 ·by_cases h1:u=1
  ·rw[if_neg h0,if_pos h1];exact .inr (.inl rfl)
  ·rw[if_neg h0,if_neg h1,if_pos (by omega)];exact .inr (.inr rfl)
theorem dm_at17 {x u:Int}(hu:0<=u/\u<=2)(hx:0<=x):dmOf x u=if 32766<x then(0,7)else(x*unitOf u,0):=by
 have h:=unit_two17 hu;unfold dmOf;rw[if_neg (by omega)];by_cases h2:32766<x
 ·rw[if_pos (Or.inr h2),if_pos h2]
 ·rw[if_neg (by omega),if_neg h2]
theorem secs_step17 {u to_:Int}{k:Nat}{V U:List Int}(acc:List Sc3)(hu:0<=u/\u<=2)(h:SecSh V U):
  rsJ acc (readSecs u (k+1) to_ V)=if(secOne V).2.2≠0 then([],[],(secOne V).2.2)else rsJ (acc++[⟨to_+(secOne V).1*unitOf u,(secOne V).2.1⟩]) (readSecs u k (to_+(secOne V).1*unitOf u) U):=by
 obtain⟨x,q,hx,hV⟩:=h;have hd:=dm_at17 hu hx.1
 rcases hV with⟨rfl,rfl⟩|⟨rfl,a,b,ha,rfl⟩
 ·have e1:secOne (x::0::U)=(0,0,20):=if_pos (by simp)
  rw[e1,readSecs,if_pos (by simp),if_pos (by simp)]
  rfl
 ·have e1:secOne (x::1::a::b::U)=if a<1\/1000<a\/x=0 then(0,0,20)else if 32766<x then(0,0,7)else(x,a,0):=rfl
  rw[readSecs,if_neg (by simp)];show rsJ acc (if a<1\/1000<a\/x=0 then([],[],20)else if(dmOf x u).2≠0 then([],[],7)else
   let r:=readSecs u k (to_+(dmOf x u).1) U
   if r.2.2≠0 then([],[],r.2.2)else(⟨to_+(dmOf x u).1,a⟩::r.1,r.2.1,0))=_
  by_cases h1:a<1\/1000<a\/x=0
  ·rw[if_pos h1]at e1⊢
   rw[e1]
   rfl
  ·rw[if_neg h1]at e1⊢
   by_cases h2:32766<x
   ·rw[if_pos h2]at e1 hd
    rw[e1,hd]
    rfl
   ·rw[if_neg h2]at e1 hd
    rw[e1,hd];dsimp only;rw[if_neg (show¬((0:Int)≠0)from fun h=>h rfl),if_neg (show¬((0:Int)≠0)from fun h=>h rfl)];generalize readSecs u k (to_+x*unitOf u) U=r;obtain⟨r1,r2,r3⟩:=r;unfold rsJ;dsimp only;by_cases h3:r3=0
    ·simp[h3]
    ·simp[h3]
theorem sec_rng17 {V U:List Int}(h:SecSh V U):0<=(secOne V).1/\(secOne V).1<=32766:=by
 obtain⟨x,q,hx,hV⟩:=h;unfold secOne;split
 ·exact⟨Int.le_refl _,by decide⟩
 ·split
  ·exact⟨Int.le_refl _,by decide⟩
  ·split
   ·exact⟨Int.le_refl _,by decide⟩
   ·rename_i h1 h2 h3
    rcases hV with⟨rfl,rfl⟩|⟨rfl,a,b,ha,rfl⟩
    ·exact⟨hx.1,by simpa using h3⟩
    ·exact⟨hx.1,by simpa using h3⟩
theorem gap_at17 {u:Int}{V:List Int}(hu:0<=u/\u<=2)(h:GapSh V):gapE V u=((gapOne V).1*unitOf u,(gapOne V).2)/\0<=(gapOne V).1/\(gapOne V).1<=32766:=by
 have key: ∀(p:Int) (S:List Int),(0<=p/\p<=1)->(p=1-> ∃g z S2,(0<=g/\g<=32767)/\S=g::z::S2)->
   (if p≠1 then((0,0):Int×Int)else if(dmOf (S.getD 0 0) u).2≠0 then(0,7)else((dmOf (S.getD 0 0) u).1,0))=
    ((if p=0 then((0,0):Int×Int)else if 32766<S.getD 0 0 then(0,7)else(S.getD 0 0,0)).1*unitOf u,(if p=0 then((0,0):Int×Int)else if 32766<S.getD 0 0 then(0,7)else(S.getD 0 0,0)).2)/\
   0<=(if p=0 then((0,0):Int×Int)else if 32766<S.getD 0 0 then(0,7)else(S.getD 0 0,0)).1/\(if p=0 then((0,0):Int×Int)else if 32766<S.getD 0 0 then(0,7)else(S.getD 0 0,0)).1<=32766:=by
  intro p S hp hS;by_cases h0:p=0
  ·subst h0
   rw[if_pos (by decide),if_pos rfl];exact⟨by simp,Int.le_refl _,by decide⟩
  ·obtain rfl:p=1:=by omega
   obtain⟨g,z,S2,hg,rfl⟩:=hS rfl;have hd:=dm_at17 hu hg.1;show(if(1:Int)≠1 then((0,0):Int×Int)else if(dmOf g u).2≠0 then(0,7)else((dmOf g u).1,0))=
    ((if(1:Int)=0 then((0,0):Int×Int)else if 32766<g then(0,7)else(g,0)).1*unitOf u,(if(1:Int)=0 then((0,0):Int×Int)else if 32766<g then(0,7)else(g,0)).2)/\0<=(if(1:Int)=0 then((0,0):Int×Int)else if 32766<g then(0,7)else(g,0)).1/\(if(1:Int)=0 then((0,0):Int×Int)else if 32766<g then(0,7)else(g,0)).1<=32766
   have a1: ∀(α:Type) (x y:α),(if(1:Int)≠1 then x else y)=y:=fun _ _ _=>if_neg (by decide);have a2: ∀(α:Type) (x y:α),(if(1:Int)=0 then x else y)=y:=fun _ _ _=>if_neg (by decide);rw[a1,a2,hd];by_cases h2:32766<g
   ·rw[if_pos h2,if_pos h2]
    exact⟨by simp,Int.le_refl _,by show(0:Int)<=32766;decide⟩
   ·rw[if_neg h2,if_neg h2]
    exact⟨by simp,hg.1,by show g<=32766;omega⟩
 obtain⟨q,p,S,hp,hV,hS⟩:=h
 rcases hV with⟨rfl,rfl⟩|⟨rfl,a,b,rfl⟩
 ·exact key p S hp hS
 ·exact key p S hp hS
theorem oprdsecs_any (id:Int)(A:Option Addr)(n c:Nat)(V:List Int)(rev:Bool)(w:World)(hV:SlI w.heap.size w A n c V)(hn:n<=10000)(hok:itemsOk (15,V)=true):
  Calls Tryz.prog 64 #[.agg #[.int .i64 id,.slice A n c],.bool rev] w fun r w'=> ∃(B:Option Addr) (m d:Nat) (G:Int),r= .returned (.tuple #[.slice B m d,.int .i64 G,.int .i64 (rsecE V rev).2.2])/\((rsecE V rev).2.2=0->G=(rsecE V rev).2.1/\OwR scC17 2 66 w.heap.size w' B m d (rsecE V rev).1)/\m<=8/\Below w.heap.size w w':=by
 obtain⟨R,hR⟩:=geZ (rsecE V rev);rw[hR];obtain⟨vd,u,v2,v3,nn,R0,R1,rfl,hd,hu,hn4,hrep,hgap⟩:=fifteen_shape17 hok;have HR:=zq hR;obtain⟨N,hN⟩: ∃N:Nat,nn=(N:Int):=⟨nn.toNat,by omega⟩
 subst hN;rw[show((N:Int).toNat+1)=N+1 by omega]at hrep;have hSO:SlO inC 1 w A n c (vd::u::v2::v3::(N:Int)::R0):=⟨hV.len,by rw[flat_ints17];exact hV.sl⟩
 have hVc:=hV.cap;clear hR hok hV hd;obtain⟨wa,hwa,hbwa,HWA,HBWA,h0⟩:=bx1Z w 98 #[.int .i64 id,.slice A n c];have p1:wa.cell? ⟨w.heap.size,1,none⟩=some (.slice A n c):=h0.cell 1;obtain⟨wb,hwb⟩: ∃u,wa.alloc (.cells #[.slice A n c] 172)=u:=⟨_,rfl⟩
 have hbb:Below wa.heap.size wa wb:=by rw[<-hwb];exact bA
 have hHb:Has wb wa.heap.size 172 #[.slice A n c]:=by rw[<-hwb];exact Has.made _ _ _
 obtain⟨g,hg⟩:=geZ (wa.heap.size);rw[hg]at hHb;have HN0:=zq (show NumR wa wb g (vd::u::v2::v3::(N:Int)::R0)from⟨A,n,c,hHb,fun W' hW=>(hSO.under hbwa).under hW,hVc,hn⟩);have HG:=zq (show wa.heap.size<=g from Nat.le_of_eq hg);have HB0:=zq hbb;have HWB:=zq hwb;have HGQ:=zq hg;have HSH:=zq (show(0<=u/\u<=2)/\(0<=(N:Int)/\(N:Int)<=31)from⟨hu,hn4⟩);have HRP:=zq hrep;have HGP:=zq hgap;clear hwa hbwa h0 hwb hbb hHb hg hSO hVc hn hu hn4 hrep hgap;go_enter Tryz.func64,Tryz.ntmps64;go_upto_region 1 with fail;rw[HWA.out];clear HWA;go_upto_region 2 with fail;rw[HWB.out];simp only[HGQ.out];clear HWB HGQ p1;go_wp2_with fail;refine(opnext_any vd (u::v2::v3::(N:Int)::R0) g wa wb HN0.out HB0.out HG.out).mono ?_;rintro e_ w1 ⟨rfl,hn_,hg_⟩;have HN1:=zq hn_;have HB1:=zq (below_only HB0.out hg_ HB0.out.size HG.out);clear hn_ hg_;obtain⟨DR,hDR⟩: ∃d,dirB rev=d:=⟨_,rfl⟩
 have HDI:=zq (fun W=>opdir_any rev W);rw[hDR]at HDI;have HDR:=zq hDR;clear hDR;go_wp2_with fail;refine(HDI.out w1).mono ?_;rintro e_ w1' ⟨rfl,hq1⟩;subst hq1;by_cases z:vd=DR;rotate_left
 ·have z1:(vd !=DR)=true:=by simp[z]
  have HF:=zq (show R=([],0,20)from by rw[<-HR.out];exact if_pos (by rw[HDR.out];exact z));clear z;go_wp2;go_ret3
  exact⟨none,0,0,0,by rw[HF.out];rfl,fun h_=>by rw[HF.out]at h_;exact absurd h_ (by decide),by omega,HBWA.out.trans (HB1.out.mono HBWA.out.size)⟩
 have z1:(vd !=DR)=false:=by simp[z]
 have HR:=zq (show(if 7<(N:Int)then(([],0,2):List Sc3×Int×Int)else let s:=readSecs u ((N:Int)+1).toNat 0 R0;if s.2.2≠0 then([],0,s.2.2)else(s.1,(gapE s.2.1 u).1,(gapE s.2.1 u).2))=R from by rw[<-HR.out];exact(if_neg (by rw[HDR.out];exact fun h_=>h_ z)).symm);clear z HDI HDR;go_upto_region 4 with fail;clear z1;go_wp2_with fail;refine(opnext_any u (v2::v3::(N:Int)::R0) g wa w1' HN1.out HB1.out HG.out).mono ?_;rintro e_ w2 ⟨rfl,hn_,hg_⟩;have HN2:=zq hn_;have HB2:=zq (below_only HB1.out hg_ HB1.out.size HG.out);clear hn_ hg_;have HUN:=zq (fun W=>unit_any u W);obtain⟨un,hun⟩: ∃x,unitOf u=x:=⟨_,rfl⟩
 rw[hun]at HUN;have HU:=zq (show un=1\/un=10\/un=100 from by rw[<-hun];exact unit_two17 HSH.out.1);have HUE:=zq hun;clear hun;go_wp2_with fail;refine(HUN.out w2).mono ?_;rintro e_ w2' ⟨rfl,hq2⟩;subst hq2;clear HUN;go_wp2_with fail;refine(opskip_any (v2::v3::(N:Int)::R0) 2 (by simp) g wa w2 HN2.out HB2.out HG.out).mono ?_;rintro e_ w3 ⟨rfl,hn_,hg_⟩;have HN3:=zq (show NumR wa w3 g ((N:Int)::R0)from hn_);have HB3:=zq (below_only HB2.out hg_ HB2.out.size HG.out);clear hn_ hg_ HN1 HB1 HN2 HB2 HN0 HB0;go_wp2_with fail;refine(opnext_any (N:Int) R0 g wa w3 HN3.out HB3.out HG.out).mono ?_;rintro e_ w4 ⟨rfl,hn_,hg_⟩;have HN4:=zq hn_;have HB4:=zq (below_only HB3.out hg_ HB3.out.size HG.out);clear hn_ hg_;by_cases z:7<N
 ·have z1:decide ((N:Int)≥8)=true:=decide_eq_true (by omega)
  have z2:decide ((8:Int)<=N)=true:=decide_eq_true (by omega);have z3:(8:Int)<=N:=by omega
  have z4:8<=N:=by omega
  have HF:=zq (HR.out.symm.trans (if_pos (by omega)));clear z;go_wp2;go_ret3
  exact⟨none,0,0,0,by rw[HF.out];rfl,fun h_=>by rw[HF.out]at h_;exact absurd h_ (by decide),by omega,HBWA.out.trans (HB4.out.mono HBWA.out.size)⟩
 have z1:decide ((N:Int)≥8)=false:=decide_eq_false (by omega);have z2:decide ((8:Int)<=N)=false:=decide_eq_false (by omega);have z3: ¬(8:Int)<=N:=by omega
 have z4: ¬8<=N:=by omega
 have HN7:=zq (show N<=7 from by omega);have hn7:N<=7:=by omega
 obtain⟨T,hT⟩:=geZ (readSecs u (N+1) 0 R0);have HR:=zq (show(if T.2.2≠0 then(([],0,T.2.2):List Sc3×Int×Int)else(T.1,(gapE T.2.1 u).1,(gapE T.2.1 u).2))=R from by have h_:=HR.out.symm.trans (if_neg (show¬7<(N:Int) by omega));rw[show((N:Int)+1).toNat=N+1 by omega,hT]at h_;exact h_.symm);have HT:=zq hT;obtain⟨N1,hN1⟩: ∃q,N+1=q:=⟨_,rfl⟩
 have hw1:wrap64 ((N:Int)+1)=(N1:Int):=succ_w hN1 (by omega);have HNQ:=zq hN1;rw[hN1]at HRP HT;have HN8:=zq (show N1<=8 from by omega);have hn8:N1<=8:=by omega
 clear z hT hN1 HN3 HB3;go_upto_region 11 with fail;clear z1 z2 z3 z4;go_wp2;clear hw1 hn7;go_loopg [10,11,32] N1 (fun kk v10 v11 v32 wl=> ∃(i:Nat) (B:Option Addr) (d:Nat) (acc:List Sc3) (tz:Int) (W:List Int),i<=N1/\N1-i<=kk/\v32= .int .i64 i/\v11= .slice B i d/\v10= .int .i64 tz/\Hid (OwR scC17 2 66 wa.heap.size wl B i d acc)/\Hid (0<=tz/\tz<=i*3276600)/\Hid (NumR wa wl g W)/\Hid (ShRep SecSh (N1-i) W R1)/\Hid (rsJ acc (readSecs u (N1-i) tz W)=T)/\Hid (Below wa.heap.size wa wl))
 case atStart=>exact⟨0,none,0,[],0,R0,by omega,by omega,rfl,rfl,rfl,zq (OwR.nil _ _ _ _ _),zq (by omega),HN4,HRP,zq (by rw[Nat.sub_zero,HT.out];unfold rsJ;split;exact Prod.ext (rs_nil17 HT.out (by assumption)).1.symm (Prod.ext (rs_nil17 HT.out (by assumption)).2.symm rfl);exact Prod.ext rfl (Prod.ext rfl (by show(0:Int)=T.2.2;omega))),HB4⟩
 clear HRP HT HN4 HB4;obtain⟨i,B,d,acc,tz,W,hi,hik,rfl,rfl,rfl,HO,HTZ,HNW,HRP,HRJ,HB⟩:=hrel;obtain⟨k1,hk1⟩: ∃k1,k1=gk:=⟨_,rfl⟩
 subst hk1;obtain⟨wv,hwv⟩: ∃wv,wv=wr:=⟨_,rfl⟩
 subst hwv;have hn8:=HN8.out;by_cases hlt:i<N1;rotate_left
 ·obtain rfl:i=N1:=by omega
  have hsh:=HRP.out;rw[Nat.sub_self]at hsh;obtain rfl:R1=W:=hsh;obtain⟨hga,hgb⟩:=gap_at17 HSH.out.1 HGP.out;have HTT:=zq (show T=(acc,R1,0)from by have h_:=HRJ.out;rw[Nat.sub_self]at h_;rw[<-h_];show rsJ acc ([],R1,0)=_;unfold rsJ;simp);obtain⟨gq,hgq⟩: ∃q,gapOne R1=q:=⟨_,rfl⟩
  rw[hgq,HUE.out]at hga;rw[hgq]at hgb;obtain⟨g1,g2⟩:=gq;dsimp only at hga hgb;have HF:=zq (show R=(acc,g1*un,g2)from by rw[<-HR.out,HTT.out];dsimp only;rw[if_neg (by simp),hga]);have HRG:=zq (oprdgap_any R1 HGP.out g wa wv HNW.out HB.out HG.out);rw[hgq]at HRG;obtain⟨G,hG⟩: ∃q,g1*un=q:=⟨_,rfl⟩
  have hw1:IntKind.i64.wrap (g1*un)=G:=by rw[IntKind.wrap_i64];rcases HU.out with h_|h_|h_<;>subst h_<;>omega
  have HGE:=zq hG;have y1: ¬(i:Int)<i:=by omega
  have y2: ¬(i:Int)<(N:Int)+1:=by have:=HNQ.out;omega
  have y3: ¬i<N+1:=by have:=HNQ.out;omega
  clear hgq hga hgb hG HR HRP HRJ;go_wp2_with fail;refine HRG.out.mono ?_;rintro e_ w5 ⟨rfl,hg5⟩;have HO5:=zq (HO.out.kept hg5 (.inr (by obtain⟨A_,n_,c_,hh_,_⟩:=HNW.out;exact HO.out.apart hh_ (by decide))));have HB5:=zq (below_only HB.out hg5 HB.out.size HG.out);clear hg5 HRG HO HB HNW;go_wp2;go_ret3
  exact⟨B,i,d,G,by rw[HF.out];rfl,fun _=>⟨by rw[HF.out];exact HGE.out.symm,by rw[HF.out];exact HO5.out.to_base HBWA.out.size⟩,hn8,HBWA.out.trans (HB5.out.mono HBWA.out.size)⟩
 ·obtain⟨r,hr⟩: ∃r,N1-i=r+1:=⟨N1-i-1,by omega⟩
  have hsh:=HRP.out;rw[hr]at hsh;obtain⟨U,hVU,hUR⟩:=hsh;have hst:=secs_step17 (k:=r) (to_:=tz) acc HSH.out.1 hVU;have hrj:=HRJ.out;rw[hr,hst,HUE.out]at hrj;have hrg:=sec_rng17 hVU;have HRS:=zq (oprdsec_any W U hVU g wa wv HNW.out HB.out HG.out);obtain⟨sq,hsq⟩: ∃q,secOne W=q:=⟨_,rfl⟩
  rw[hsq]at hrj hrg HRS;obtain⟨s1,s2,s3⟩:=sq;dsimp only at hrj hrg HRS;have x1:(i:Int)<N1:=by omega
  have x1b:(i:Int)<(N:Int)+1:=by have:=HNQ.out;omega
  have x1c:i<N+1:=by have:=HNQ.out;omega
  have x2:(0:Int)<=i:=by omega
  have HIN:=zq (show i<N1/\N1-i<=k1/\N1-(i+1)=r/\N1<=8 from⟨hlt,hik,by omega,hn8⟩);have HUR:=zq hUR;have HRJ:=zq hrj;have HRG:=zq hrg;have hmf: ∀(fn:Fn) (first cap:Array Value) (w:World),(Instr.makeFunc fn first cap).run Tryz.prog w= .ok (.func fn first cap) w:=fun _ _ _ _=>rfl;clear hr hst hrj hrg hsq HRP hi hik hlt hn8;go_wp2_with fail;refine HRS.out.mono ?_;rintro e_ w5 ⟨rfl,hnw,hg5⟩;have HNU:=zq hnw;have HO5:=zq (HO.out.kept hg5 (.inr (by obtain⟨A_,n_,c_,hh_,_⟩:=HNW.out;exact HO.out.apart hh_ (by decide))));have HB5:=zq (below_only HB.out hg5 HB.out.size HG.out);clear hg5 hnw HRS HO HB HNW hmf;by_cases z:s3=0;rotate_left
  ·have z1:(s3 !=0)=true:=by simp[z]
   have HTT:=zq (show T=([],[],s3)from HRJ.out.symm.trans (if_pos z));have HF:=zq (show R=([],0,s3)from by rw[<-HR.out,HTT.out];exact if_pos z);have HZ:=zq z;clear z;go_wp2;go_ret3
   exact⟨none,0,0,0,by rw[HF.out];rfl,fun h_=>by rw[HF.out]at h_;exact absurd h_ HZ.out,by omega,HBWA.out.trans (HB5.out.mono HBWA.out.size)⟩
  ·subst z
   have z1:((0:Int) !=0)=false:=rfl;obtain⟨D,hD⟩: ∃q,s1*un=q:=⟨_,rfl⟩
   have hDB:0<=D/\D<=3276600:=by have h2_:=HRG.out;rw[<-hD];rcases HU.out with h_|h_|h_<;>subst h_<;>omega
   have hw1:IntKind.i64.wrap (s1*un)=D:=by rw[hD,IntKind.wrap_i64];omega
   obtain⟨Z,hZ⟩: ∃q,tz+D=q:=⟨_,rfl⟩
   have HZB:=zq (show 0<=Z/\Z<=(i+1:Nat)*3276600 from by have h2_:=HTZ.out;omega);have hw2:IntKind.i64.wrap (tz+D)=Z:=by rw[IntKind.wrap_i64];have h2_:=HTZ.out;have h3_:=HIN.out;omega
   have HRJ:=zq (show rsJ (acc++[⟨Z,s2⟩]) (readSecs u r Z U)=T from by rw[<-HRJ.out,if_neg (by simp),hD,hZ]);have HNV:=zq (show NumR wa w5 g U from HNU.out (by first|rfl|trivial));have hib:=HIN.out.1;have hnb:=HIN.out.2.2.2;clear hD hDB hZ HRG;obtain⟨hO,hSL,h1,hBD⟩:=pourR 16 (HO5.out.under ((Below.refl _ _).alloc (Nat.le_refl _) (.cells #[.int .i64 Z,.int .i64 s2] 66))) (⟨rfl,sl_hasR (Has.made _ _ _) rfl⟩:SlO scC17 2 (w5.alloc (.cells #[.int .i64 Z,.int .i64 s2] 66)) (some ⟨w5.heap.size,0,none⟩) 1 1 [⟨Z,s2⟩]) one_sc17 (Nat.le_trans HB5.out.size (by simp)) (by omega) (by omega);go_wp2_with (with_reducible refine wpList_pour (o:=⟨some 53,_,_,_,_,_⟩) rfl (.tmp 48) (.tmp 52) 36 rfl wa.heap.size 66 (.agg #[.int .i64 0,.int .i64 0]) 2 16 Tryz.underlying36 info_sect17 ?hz1 (by decide) B i d _ ?hs1 hO (some ⟨w5.heap.size,0,none⟩) 1 1 _ ?hx1 hSL h1 hBD ?next1)
   all_goals try rfl
   intro B6 d6 w6 ho6 hg6;have HO6:=zq (show OwR scC17 2 66 wa.heap.size w6 B6 (i+1) d6 (acc++[⟨Z,s2⟩])from OwR.poured (l':=[⟨Z,s2⟩]) HO5.out.2 rfl ho6.out);have HB6:=zq (below_own (HB5.out.trans ((bA).mono HB5.out.size)) (Nat.le_trans HB5.out.size (by simp)) hO.out (Nat.le_refl _) rfl hg6.out);have HN6:=zq ((HNV.out.under ((Below.refl _ _).alloc (Nat.le_refl _) (.cells #[.int .i64 Z,.int .i64 s2] 66))).grow hg6.out (by obtain⟨A_,n_,c_,hh_,_⟩:=HNV.out;exact Ne.symm (OwR.apart (show OwR scC17 2 66 wa.heap.size _ B i d acc from⟨hO.out,HO5.out.2⟩) (hh_.beside _) (by decide))));clear ho6 hg6 hO hSL h1 hBD HO5 HB5 HNU HNV hw1 hw2 z1 hib hnb;go_wp2;go_roundg (k1-1)
   case measure=>have:=HIN.out;omega
   case rel=>exact⟨i+1,B6,d6,acc++[⟨Z,s2⟩],Z,U,by have:=HIN.out;omega,by have:=HIN.out;omega,by first|go_num|(rw[IntWalk.wrap64_in _ (by have h1_:=HIN.out;omega)];go_num),rfl,rfl,HO6,HZB,HN6,zq (by rw[HIN.out.2.2.1];exact HUR.out),zq (by rw[HIN.out.2.2.1];exact HRJ.out),HB6⟩
end
end Go.Proofs.YtahadmeilajdgaaGreatDoor
