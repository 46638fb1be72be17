/-
  Our own text, joined.
-/
import Derived.Test.YtahadmeilajdgaaGreatDoorMrag
import Derived.Test.YtahadmeilajdgaaGreatDoorMran
import Derived.Test.YtahadmeilajdgaaGreatDoorMraz
import Derived.Test.YtahadmeilajdgaaGreatDoorMraf
import Derived.BigQuiet
import Derived.IntWalk
import Derived.Test.YtahadmeilajdgaaGreatDoorMraa
import Derived.Test.YtahadmeilajdgaaGreatDoorMrav
namespace Go.Proofs.YtahadmeilajdgaaGreatDoor
set_option maxRecDepth 100000
set_option maxHeartbeats 80000000
section
open Go.RowKit
open Go.Great
theorem qfZ {W:World}{A:Option Addr}{n c p:Nat}{l:List Int}(_:SlO inC 1 W A n c l)(hc:n<=c)(hp:p<=n):
  ∃A2,(∀W,(Instr.sliceAt 22 (.slice A n c) (some (.int .i64 (p:Nat))) none none).run Tryz.prog W= .ok (.slice A2 (n-p) (c-p)) W)/\ ∀W,SlO inC 1 W A n c l->SlO inC 1 W A2 (n-p) (c-p) (l.drop p):=
 ⟨_,fun W=>qbF (P:=Tryz.prog) 1 22 3 Tryz.underlying22 (by kernel_rfl) A n c p hp W,fun W hW=>hW.from17 (fun _=>rfl) hc hp⟩
theorem lnk_len17 {k:Lk17}{V U:List Int}(h:LnkSh k V U):6<=V.length:=by
 obtain⟨d,b,o,r,a,_,⟨c,_,rfl,_⟩|⟨rfl,_⟩⟩:=h<;>simp
theorem rlinked17 (t:Tp3)(a:TpA)(p0:St3)(k0:Lk17)(ks:List Lk17)(u0 u1 nn:Int)(R0 R1:List Int)(PB:Option Addr)(pc b0:Nat)(A:Option Addr)(n c:Nat)(w:World)(ht: ∀W,Below b0 w W->TopR W t a)(hl:qaJ t=true)(hV: ∀W,Below b0 w W->SlO inC 1 W A n c (u0::u1::R0))(hc:n<=c)(h1:LnkSh k0 R0 (nn::R1))(h2:0<=nn/\nn<=31)(h3:ks.length=nn.toNat)(h4:qc4 ks R1 [])(hp:OwR stC 2 30 b0 w PB 1 pc [p0])(hb:b0<=w.heap.size):
  Calls Tryz.prog 71 #[.agg (tpC t a),.slice PB 1 pc,.slice A n c] w fun r w'=> ∃(B:Option Addr) (m d:Nat),r= .returned (.tuple #[.slice B m d,.int .i64 (qaT t [p0] (k0::ks)).2])/\OwR stC 2 30 b0 w' B m d (qaT t [p0] (k0::ks)).1/\Below b0 w w':=by
 obtain⟨F,hF⟩:=geZ ((qaT t [p0] (k0::ks)));rw[hF];have HF:=zq hF;have HLT:=zq hl;have HNN:=zq (qav hl);have H2:=zq h2;have HKN:=zq h3;have H1:=zq h1;have H4:=zq h4;have HLN:=zq (show R0.length+2=n from by have h_:=(hV w (Below.refl _ _)).1;simpa using h_);have HR6:=zq (lnk_len17 h1);clear hF;obtain⟨wa,hwa,hbwa,HWA,HBWA,h0⟩:=bx1Z w 27 (tpC t a);have HBW:=zq (show Below b0 w wa from hbwa.mono hb);have HUP:=zq (fun W (hW:Below b0 wa W)=>(hbwa.mono hb).trans hW);have HT:=zq (fun W (hW:Below b0 wa W)=>ht W (HUP.out W hW));have HV0:=zq (fun W (hW:Below b0 wa W)=>hV W (HUP.out W hW));have HP0:=zq (hp.under hbwa);have H0:=zq h0;have HBA:=zq (show b0<=wa.heap.size from Nat.le_trans hb hbwa.size);obtain⟨A1,hcu,hv1⟩:=qfZ (p:=2) (hV w (Below.refl _ _)) hc (by have h_:=HLN.out;omega);have HV1:=zq (fun W (hW:Below b0 wa W)=>hv1 W (HV0.out W hW));obtain⟨n1,hn1⟩: ∃m,n-2=m:=⟨_,rfl⟩
 obtain⟨c1,hc1⟩: ∃m,c-2=m:=⟨_,rfl⟩
 rw[hn1,hc1]at hcu HV1;have hcu: ∀W,(Instr.sliceAt 22 (.slice A n c) (some (.int .i64 2)) none none).run Tryz.prog W= .ok (.slice A1 n1 c1) W:=hcu;have HN1:=zq (show n1<=c1 from by omega);clear hwa hbwa h0 ht hl hV hc h1 h2 h3 h4 hp hb hn1 hc1 hv1 HV0;go_enter Tryz.func71,Tryz.ntmps71;go_upto_region 1 with fail;rw[HWA.out];clear HWA;go_upto_region 2 with fail;clear hcu;go_wp2;go_loopg [1,2,8,9] (ks.length+2) (fun kk v1 v2 v8 v9 wl=> ∃(i:Nat) (B:Option Addr) (m d:Nat) (path:List St3) (A2:Option Addr) (n2 c2:Nat) (Y:List Int) (M:Int) (K:List Lk17),ks.length+1-i<kk/\i<=ks.length+1/\v9= .int .i64 i/\v8= .int .i64 M/\v1= .slice B (m+1) d/\v2= .slice A2 n2 c2/\Hid (n2<=c2)/\Hid (∀W,Below b0 wa W->SlO inC 1 W A2 n2 c2 Y)/\Hid ((i=0/\M=1/\K=k0::ks/\Y=R0)\/(1<=i/\M=1+nn/\K=ks.drop (i-1)/\qc4 K Y []))/\Hid (OwR stC 2 30 b0 wl B (m+1) d path)/\Hid (m+1<=24)/\Hid (qaT t path K=F)/\Hid (Has wl (w.heap.size) 27 (tpC t a))/\Hid (Below b0 wa wl))
 case atStart=>exact⟨0,PB,0,pc,[p0],A1,n1,c1,R0,1,k0::ks,by omega,by omega,rfl,rfl,rfl,rfl,HN1,HV1,zq (.inl ⟨rfl,rfl,rfl,rfl⟩),HP0,zq (by omega),HF,H0,zq (Below.refl _ _)⟩
 clear HV1 HN1 HP0 HF H0;obtain⟨i,B,m,d,path,A2,n2,c2,Y,M,K,hkk,hi,rfl,rfl,rfl,rfl,HNC,HV,HST,HO,HM,HFO,H0,HB⟩:=hrel;obtain⟨k1,hk1⟩: ∃k1,k1=gk:=⟨_,rfl⟩
 subst hk1;obtain⟨wv,hwv⟩: ∃wv,wv=wr:=⟨_,rfl⟩
 subst hwv;have HIN:=zq (show ks.length+1-i<k1/\i<=ks.length+1 from⟨hkk,hi⟩);by_cases hK:K=[]
 ·have x1: ¬(i:Int)<M:=by rcases HST.out with⟨_,_,h_,_⟩|⟨h1_,h2_,h3_,_⟩;exact absurd (hK.symm.trans h_) (by simp);rw[hK]at h3_;have h4_:=List.drop_eq_nil_iff.1 h3_.symm;have h5_:=HKN.out;have h6_:=H2.out;omega
  have HFF:=zq (show F=(path,0)from by rw[<-HFO.out,hK];rfl);clear hK hkk hi;go_wp2;go_ret2
  exact⟨B,m+1,d,by rw[HFF.out];rfl,by rw[HFF.out];exact HO.out,HUP.out _ HB.out⟩
 obtain⟨k,r,hkr⟩: ∃k r,K=k::r:=by cases K with|nil=>exact absurd rfl hK|cons k r=>exact⟨k,r,rfl⟩
 subst hkr;have x1:(i:Int)<M:=by rcases HST.out with⟨h1_,h2_,_,_⟩|⟨h1_,h2_,h3_,_⟩;omega;have h4_:=congrArg List.length h3_;rw[List.length_drop,List.length_cons]at h4_;have h5_:=HKN.out;have h6_:=H2.out;omega
 obtain⟨U,hU1,hU2⟩: ∃U,LnkSh k Y U/\((i=0/\M=1/\r=ks/\U=nn::R1)\/(1<=i/\M=1+nn/\r=ks.drop i/\qc4 r U [])):=by
  rcases HST.out with⟨h1_,h2_,h3_,h4_⟩|⟨h1_,h2_,h3_,h4_⟩
  ·injection h3_ with h5_ h6_
   exact⟨nn::R1,by rw[h5_,h4_];exact H1.out,.inl ⟨h1_,h2_,h6_,rfl⟩⟩
  ·obtain⟨U,h5_,h6_⟩:=h4_
   refine⟨U,h5_,.inr ⟨h1_,h2_,?_,h6_⟩⟩;have h7_:=congrArg List.tail h3_;rw[List.tail_drop,show i-1+1=i by omega]at h7_;exact h7_
 have HU2:=zq hU2;have HDR:=zq (show i<=ks.length from by rcases HST.out with⟨h_,_⟩|⟨h1_,_,h3_,_⟩;omega;have h4_:=congrArg List.length h3_;rw[List.length_drop,List.length_cons]at h4_;omega);have hfo:=HFO.out;rw[qaT]at hfo;have HN6:=zq (show 6<=n2 from by have h_:=lnk_len17 hU1;rw[<-(HV.out _ HB.out).1];exact h_);obtain⟨bv,ov,rfl,hcl⟩:=(HV.out wv HB.out).num17 (by have:=HN6.out;omega);obtain⟨dd,bb,oo,rr,aa,hbb,hsh⟩:=hU1;clear hK hkk hi hU2 HST HFO;have d1:=hcl 1 (by have:=HN6.out;omega);have y1:(1:Int)<n2:=by have:=HN6.out;omega
 rcases hsh with⟨cc,hcc,rfl,rfl⟩|⟨rfl,rfl⟩
 rotate_left
 ·have d1:wv.cell? ⟨bv,ov+1,none⟩=some (.int .i64 0):=d1
  have q1:((0:Int) !=1)=true:=rfl;have HFF:=zq (show F=([],20)from by rw[<-hfo,if_pos rfl]);clear hfo hcl;go_wp2;go_ret2
  exact⟨none,0,0,by rw[HFF.out];rfl,by rw[HFF.out];exact OwR.nil _ _ _ _ _,HUP.out _ HB.out⟩
 have d1:wv.cell? ⟨bv,ov+1,none⟩=some (.int .i64 1):=d1;have q1:((1:Int) !=1)=false:=rfl;have HN7:=zq (show 7<=n2 from by rw[<-(HV.out _ HB.out).1];simp);have HC:=zq (fun W (hW:Below b0 wa W)=>show W.cell? ⟨bv,ov+2,none⟩=some (.int .i64 cc)/\W.cell? ⟨bv,ov+3,none⟩=some (.int .i64 bb)/\W.cell? ⟨bv,ov+4,none⟩=some (.int .i64 oo)from by obtain⟨b_,o_,e_,h_⟩:=(HV.out W hW).num17 (by have:=HN7.out;omega);injection e_ with e_;injection e_ with e1_ e2_ _;subst e1_ e2_;exact⟨h_ 2 (by have:=HN7.out;omega),h_ 3 (by have:=HN7.out;omega),h_ 4 (by have:=HN7.out;omega)⟩);skip;clear hcl;skip;rw[if_neg (by simp)]at hfo;dsimp only at hfo;have HFO:=zq hfo;clear hfo;obtain⟨gg,hgg⟩: ∃g,cc*16384+bb=g:=⟨_,rfl⟩
 rw[hgg]at HFO;have HGG:=zq hgg;have HCB:=zq (And.intro hcc hbb);clear hgg hcc hbb;obtain⟨bq,hbq⟩: ∃q,balR t gg=q:=⟨_,rfl⟩
 obtain⟨ok,hok⟩: ∃q,(balF t gg).isSome=q:=⟨_,rfl⟩
 have HBQ:=zq hbq;have HOK:=zq hok;have HBX:=zq (fun W (hW:Below b0 wa W)=>rbal_any t a gg W (HT.out W hW) (by have:=HNN.out.2.2.1;omega));rw[hbq,hok]at HBX;obtain⟨bi,be,ba⟩:=bq;unfold blA at HBX;dsimp only at HBX;clear hbq hok;go_upto_region 8 with fail;clear d1 q1 y1;have y2:(2:Int)<n2:=by have:=HN7.out;omega
 have y3:(3:Int)<n2:=by have:=HN7.out;omega
 have y4:(4:Int)<n2:=by have:=HN7.out;omega
 obtain⟨cm,hcm⟩: ∃z,cc*16384=z:=⟨_,rfl⟩
 have hw1:IntKind.i64.wrap (cc*16384)=cm:=by rw[IntKind.wrap_i64];have h1_:=HCB.out;omega
 have hw2:IntKind.i64.wrap (cm+bb)=gg:=by rw[IntKind.wrap_i64];have h1_:=HCB.out;have h2_:=HGG.out;omega
 clear hcm;have HX:=zq (fun W (hW:Below wv.heap.size wv W)=>HB.out.trans (hW.mono (Nat.le_trans HBA.out HB.out.size)));go_cut [10,11] (fun s10 s11 wx=>s11= .bool ok/\ ∃g7,s10= .pointer (some ⟨g7,0,none⟩)/\Has wx g7 151 #[.int .i64 bi,.int .i64 be,.int .i64 ba]/\Has wx (w.heap.size) 27 (tpC t a)/\Below wv.heap.size wv wx)
 case first=>
  refine wp_region_held_drew (S:=(fun W_=>(Has W_ (w.heap.size) 27 (tpC t a))/\(Below wv.heap.size wv W_))) (by kernel_rfl) ?_ (fun hHeld=>?_)
  ·exact⟨H0.out.draw,qah (Below.refl _ _)⟩
  refine tlZ 0 28 w.heap.size (tpC t a) (fun _ ⟨h_,_⟩=>h_) (h:=?_);simp only[lyZ];refine tkZ 1 29 (h:=?_);simp only[lyZ];refine tkZ 2 30 (h:=?_);simp only[lyZ];refine tqZ 3 31 (fun w_ ⟨s0,s1⟩=>(HC.out w_ (HX.out _ s1)).1) (h:=?_);simp only[lyZ];refine tkZ 4 32 (h:=?_);simp only[lyZ];refine tkZ 5 33 (h:=?_);simp only[lyZ];refine tkZ 6 34 (h:=?_);simp only[lyZ];refine tqZ 7 35 (fun w_ ⟨s0,s1⟩=>(HC.out w_ (HX.out _ s1)).2.1) (h:=?_);simp only[lyZ];refine tkZ 8 36 (h:=?_);simp only[lyZ];refine rdZ [9,13] (acZ (some 37) (fun K hK=>?za8) (acZ (some 10) (fun K hK=>?zb8) AllReadyH.nil))
  case' za8=>
   go_simp;obtain⟨s0,s1⟩:=hHeld;refine(HBX.out _ (HX.out _ s1)).mono ?_;rintro e_ q1_ ⟨rfl,hb_⟩;go_wp2_with fail;refine hK.out _ _ ?_ (fun hHeld=>?_)
   ·exact⟨s0.u hb_,bu s1 hb_⟩
   clear hK K s0 s1
   try simp only[lyZ]
   refine tkZ 10 27 (h:=?_);simp only[lyZ];refine tkZ 11 38 (h:=?_);simp only[lyZ];refine tkZ 12 39 (h:=?_);simp only[lyZ];refine aoZ 13 (some 10) (fun K hK=>?_);go_simp;obtain⟨s0,s1⟩:=hHeld;obtain⟨g7,hg7⟩:=geZ (q1_.heap.size);have p0_g7:w.heap.size<g7:=by rw[<-hg7];exact s0.lt
   have p1_g7:wv.heap.size<=g7:=by rw[<-hg7];exact s1.size
   rw[hg7];refine hK.out _ _ ?_ (fun hHeld=>?_)
   ·exact⟨s0.beside _,qao s1 _⟩
   refine mr2 (fun W_=>(∃o_:Array Value,Has W_ (g7) 151 o_/\o_.size=3)) ⟨s0.beside _,qao s1 _,⟨#[.int .i64 0,.int .i64 0,.int .i64 0],(by rw[<-hg7];exact Has.made _ _ _),rfl⟩⟩ (fun h_=>?_);clear hHeld;have hHeld:=h_;clear h_;clear hK K hg7 s0 s1
   try simp only[lyZ]
  case' zb8=>
   go_simp;obtain⟨s0,s1⟩:=hHeld;obtain⟨g7,hg7⟩:=geZ (wv.heap.size);have p0_g7:w.heap.size<g7:=by rw[<-hg7];exact s0.lt
   have p1_g7:wv.heap.size<=g7:=by rw[<-hg7];exact s1.size
   rw[hg7];refine hK.out _ _ ?_ (fun hHeld=>?_)
   ·exact⟨s0.beside _,qao s1 _⟩
   refine mr2 (fun W_=>(∃o_:Array Value,Has W_ (g7) 151 o_/\o_.size=3)) ⟨s0.beside _,qao s1 _,⟨#[.int .i64 0,.int .i64 0,.int .i64 0],(by rw[<-hg7];exact Has.made _ _ _),rfl⟩⟩ (fun h_=>?_);clear hHeld;have hHeld:=h_;clear h_;clear hK K hg7 s0 s1
   try simp only[lyZ]
   refine aoZ 9 (some 37) (fun K hK=>?_);go_simp;obtain⟨s0,s1,s2⟩:=hHeld;refine(HBX.out _ (HX.out _ s1)).mono ?_;rintro e_ q1_ ⟨rfl,hb_⟩;go_wp2_with fail;refine hK.out _ _ ?_ (fun hHeld=>?_)
   ·exact⟨s0.u hb_,bu s1 hb_,(let ⟨o_,h_,e_⟩:=s2;⟨o_,h_.u hb_,e_⟩)⟩
   clear hK K s0 s1 s2
   try simp only[lyZ]
   refine tkZ 10 27 (h:=?_);simp only[lyZ];refine tkZ 11 38 (h:=?_);simp only[lyZ];refine tkZ 12 39 (h:=?_);simp only[lyZ]
  all_goals
   refine aoZ 14 none (fun K hK=>?_);rw[if_pos (by rfl)];obtain⟨s0,s1,s2⟩:=hHeld;obtain⟨o_,h_,e_⟩:=s2;refine wp_store_row 151 _ _ rfl (g7) #[.int .i64 bi,.int .i64 be,.int .i64 ba] (by rfl) (by rfl) 151 o_ h_.raw11 (by kernel_rfl) e_ (by kernel_rfl) ?_;refine hK.out _ _ ?_ (fun hHeld=>?_)
   ·exact⟨qae s0 (by omega) _,qac s1 (by omega) _,⟨_,qab h_ _,rfl⟩⟩
   refine mr3 (fun W_=>(Has W_ (g7) 151 #[.int .i64 bi,.int .i64 be,.int .i64 ba])) ⟨qae s0 (by omega) _,qac s1 (by omega) _,⟨_,qab h_ _,rfl⟩,qab h_ _⟩ (fun h_=>?_);clear hHeld;have hHeld:=h_;clear h_;clear hK K h_ e_ s0 s1
   try simp only[Act.put]
   refine tkZ 15 11 (h:=?_);simp only[lyZ];refine dnZ ?_;go_wp2_with fail;go_meet
   exact⟨rfl,_,rfl,hHeld.2.2.2,hHeld.1,hHeld.2.1⟩
 obtain⟨rfl,g7,rfl,h7_,h0_,hb_⟩:=hcut;obtain⟨w3,hw3⟩: ∃u,u=wc:=⟨_,rfl⟩
 subst hw3;have HY3:=zq h7_;have H03:=zq h0_;have HO3:=zq (HO.out.under hb_);have HB3:=zq (HX.out _ hb_);clear h7_ h0_ hb_ HO HB H0 HX HBX hw1 hw2 y2 y3 HCB;obtain⟨xr,hxr⟩: ∃b,(oo==0)=b:=⟨_,rfl⟩
 rw[hxr]at HFO;have b1:w3.cell? ⟨g7,1,none⟩=some (.int .i64 be):=HY3.out.cell 1;have d4:=(HC.out w3 HB3.out).2.2;have HHX:=zq hxr;go_upto_region 9 with fail;have HX3:=zq (fun W (hW:Below w3.heap.size w3 W)=>HB3.out.trans (hW.mono (Nat.le_trans HBA.out HB3.out.size)));go_cut [12] (fun s12 wx=> ∃g4,s12= .pointer (some ⟨g4,0,none⟩)/\Has wx g4 30 #[.int .i64 be,.bool xr]/\Has wx (w.heap.size) 27 (tpC t a)/\Below w3.heap.size w3 wx)
 case first=>
  refine wp_region_held_drew (S:=(fun W_=>(Has W_ (w.heap.size) 27 (tpC t a))/\(Has W_ (g7) 151 #[.int .i64 bi,.int .i64 be,.int .i64 ba])/\(Below w3.heap.size w3 W_))) (by kernel_rfl) ?_ (fun hHeld=>?_)
  ·exact⟨H03.out.draw,HY3.out.draw,qah (Below.refl _ _)⟩
  refine tkZ 0 40 (h:=?_);simp only[lyZ];refine tqZ 1 41 (fun w_ ⟨s0,s1,s2⟩=>(show w_.cell? ⟨g7,1,none⟩=some (.int .i64 be:Value)from s1.cell 1)) (h:=?_);simp only[lyZ];refine tkZ 2 42 (h:=?_);simp only[lyZ];refine tkZ 3 43 (h:=?_);simp only[lyZ];refine tqZ 4 44 (fun w_ ⟨s0,s1,s2⟩=>(HC.out w_ (HX3.out _ s2)).2.2) (h:=?_);simp only[lyZ];refine tkZ 5 45 (h:=?_);simp only[lyZ];refine tkZ 6 46 (h:=?_);simp only[lyZ];refine aoZ 7 (some 12) (fun K hK=>?_);go_simp;obtain⟨s0,s1,s2⟩:=hHeld;obtain⟨g4,hg4⟩:=geZ (w3.heap.size);have p0_g4:w.heap.size<g4:=by rw[<-hg4];exact s0.lt
  have p1_g4:g7<g4:=by rw[<-hg4];exact s1.lt
  have p2_g4:w3.heap.size<=g4:=by rw[<-hg4];exact s2.size
  rw[hg4];refine hK.out _ _ ?_ (fun hHeld=>?_)
  ·exact⟨s0.beside _,s1.beside _,qao s2 _⟩
  refine mr3 (fun W_=>(∃o_:Array Value,Has W_ (g4) 30 o_/\o_.size=2)) ⟨s0.beside _,s1.beside _,qao s2 _,⟨#[.int .i64 0,.bool false],(by rw[<-hg4];exact Has.made _ _ _),rfl⟩⟩ (fun h_=>?_);clear hHeld;have hHeld:=h_;clear h_;clear hK K hg4 s0 s1 s2
  try simp only[lyZ]
  refine aoZ 8 none (fun K hK=>?_);rw[if_pos (by rfl)];obtain⟨s0,s1,s2,s3⟩:=hHeld;obtain⟨o_,h_,e_⟩:=s3;refine wp_store_row 30 _ _ rfl (g4) #[.int .i64 be,.bool xr] (by rfl) (by rfl) 30 o_ h_.raw11 (by kernel_rfl) e_ (by kernel_rfl) ?_;refine hK.out _ _ ?_ (fun hHeld=>?_)
  ·exact⟨qae s0 (by omega) _,qae s1 (by omega) _,qac s2 (by omega) _,⟨_,qab h_ _,rfl⟩⟩
  refine mr4 (fun W_=>(Has W_ (g4) 30 #[.int .i64 be,.bool xr])) ⟨qae s0 (by omega) _,qae s1 (by omega) _,qac s2 (by omega) _,⟨_,qab h_ _,rfl⟩,qab h_ _⟩ (fun h_=>?_);clear hHeld;have hHeld:=h_;clear h_;clear hK K h_ e_ s0 s1 s2
  try simp only[Act.put]
  refine dnZ ?_;go_wp2_with fail;go_meet
  exact⟨_,rfl,hHeld.2.2.2.2,hHeld.1,hHeld.2.2.1⟩
 obtain⟨g4,rfl,h4_,h0_,hb_⟩:=hcut;obtain⟨w4,hw4⟩: ∃u,u=wc:=⟨_,rfl⟩
 subst hw4;have HX4:=zq h4_;have H04:=zq h0_;have HO4:=zq (HO3.out.under hb_);have HB4:=zq (HX3.out _ hb_);clear h4_ h0_ hb_ HO3 HB3 H03 HX3 HY3 b1 d4 hxr y4 HC;obtain⟨A5,hcu,hv5⟩:=qfZ (p:=7) (HV.out w4 HB4.out) HNC.out HN7.out;have HV5:=zq (fun W (hW:Below b0 wa W)=>show SlO inC 1 W A5 (n2-7) (c2-7) U from hv5 W (HV.out W hW));obtain⟨n5,hn5⟩: ∃m,n2-7=m:=⟨_,rfl⟩
 obtain⟨c5,hc5⟩: ∃m,c2-7=m:=⟨_,rfl⟩
 rw[hn5,hc5]at hcu HV5;have hcu: ∀W,(Instr.sliceAt 22 (.slice (some ⟨bv,ov,none⟩) n2 c2) (some (.int .i64 7)) none none).run Tryz.prog W= .ok (.slice A5 n5 c5) W:=hcu;have HN5:=zq (show n5<=c5 from by have:=HNC.out;omega);clear hv5 hn5 hc5 HV HNC HN6 HN7;go_upto_region 11 with fail;clear hcu x1;go_upto_if 50 with fail;go_cut [2,8] (fun s2 s8 wx=> ∃A6 n6 c6 Y6,s8= .int .i64 (1+nn)/\s2= .slice A6 n6 c6/\n6<=c6/\(∀W,Below b0 wa W->SlO inC 1 W A6 n6 c6 Y6)/\r=ks.drop i/\qc4 r Y6 []/\wx=w4)
 case first=>
  by_cases z:i=0
  ·obtain⟨-,-,hr_,hU⟩:i=0/\M=1/\r=ks/\U=nn::R1:=by rcases HU2.out with h_|⟨h_,_⟩;exact h_;omega
   subst hU;have z1:((i:Int)==0)=true:=by simp[z]
   have HNP:=zq (show 1<=n5 from by rw[<-(HV5.out w4 HB4.out).1];simp);obtain⟨b5,o5,rfl,hcl⟩:=(HV5.out w4 HB4.out).num17 (by have:=HNP.out;omega);have e0:w4.cell? ⟨b5,o5,none⟩=some (.int .i64 nn):=hcl 0 (by have:=HNP.out;omega);obtain⟨A6,hcu,hv6⟩:=qfZ (p:=1) (HV5.out w4 HB4.out) HN5.out HNP.out;have hcu: ∀W,(Instr.sliceAt 22 (.slice (some ⟨b5,o5,none⟩) n5 c5) (some (.int .i64 1)) none none).run Tryz.prog W= .ok (.slice A6 (n5-1) (c5-1)) W:=hcu;have HV6:=zq (fun W (hW:Below b0 wa W)=>show SlO inC 1 W A6 (n5-1) (c5-1) R1 from hv6 W (HV5.out W hW));have y0:(0:Int)<n5:=by have:=HNP.out;omega
   have hw1:wrap64 (1+nn)=1+nn:=IntWalk.wrap64_in _ (by have:=H2.out;omega);have HZ:=zq z;clear hcl hv6 z;go_wp2;go_meet
   exact⟨A6,n5-1,c5-1,R1,rfl,rfl,by have:=HN5.out;omega,HV6.out,by rw[HZ.out,hr_];rfl,by rw[hr_];exact H4.out,rfl⟩
  obtain⟨-,hM,hr_,hU⟩:1<=i/\M=1+nn/\r=ks.drop i/\qc4 r U []:=by rcases HU2.out with⟨h_,_⟩|h_;exact absurd h_ z;exact h_
  have z1:((i:Int)==0)=false:=by simp[z]
  have HR:=zq (And.intro hr_ hU);subst hM;clear z hr_ hU;go_wp2;go_meet
  exact⟨A5,n5,c5,U,rfl,rfl,HN5.out,HV5.out,HR.out.1,HR.out.2,rfl⟩
 obtain⟨A6,n6,c6,Y6,rfl,rfl,hn6,hv6,hr6,hl6,hw_⟩:=hcut;subst hw_;have HN6:=zq hn6;have HV6:=zq hv6;have HR6_:=zq hr6;have HL6:=zq hl6;clear hn6 hv6 hr6 hl6 HU2 HN5 HV5;obtain⟨w4,hw4⟩: ∃u,u=wc:=⟨_,rfl⟩
 subst hw4
 cases hbf:balF t gg with
 |none=>
  have HFF:=zq (show F=([],4)from by rw[<-HFO.out,hbf]);obtain rfl:ok=false:=by rw[<-HOK.out,hbf];rfl
  clear hbf;clear HFO;go_wp2;go_ret2
  exact⟨none,0,0,by rw[HFF.out];rfl,by rw[HFF.out];exact OwR.nil _ _ _ _ _,HUP.out _ HB4.out⟩
 |some bz=>
 obtain rfl:ok=true:=by rw[<-HOK.out,hbf];rfl
 obtain rfl:bz=⟨bi,be,ba⟩:=by rw[<-HBQ.out];unfold balR;rw[hbf];rfl
 have h_:=HFO.out;rw[hbf]at h_;dsimp only at h_;have HFO:=zq h_;clear h_;clear hbf HBQ HOK;obtain⟨y,hy⟩:=glZ path (m) (by rw[HO4.out.2];omega);have HLY:=zq (qf9 HO4.out.2 hy);have h_:=HFO.out;rw[HLY.out]at h_;have HFO:=zq h_;clear h_;obtain⟨gp,hgp,_,_⟩:=HO4.out.some (by omega);subst hgp;have p0:=HO4.out.sl.at_cell (fun _=>rfl) (by decide) hy (i:=0) rfl;have p1:=HO4.out.sl.at_cell (fun _=>rfl) (by decide) hy (i:=1) rfl;simp only[Nat.zero_add,Nat.add_zero]at p0 p1;obtain⟨ye,yr⟩:=y;dsimp only at p0 p1 HFO;have hm24:=HM.out;have hm23:m<24:=by omega
 have v1:(0:Int)<=(m:Int):=by omega
 have v2:(m:Int)<((m+1:Nat):Int):=by omega
 clear hy;go_upto_region 16 with fail;obtain⟨w5,hw5⟩: ∃u,w4.alloc (.cells #[.int .i64 ye,.bool yr] 30)=u:=⟨_,rfl⟩
 have hb5:Below w4.heap.size w4 w5:=by rw[<-hw5];exact bA
 have hH5:Has w5 w4.heap.size 30 #[.int .i64 ye,.bool yr]:=by rw[<-hw5];exact Has.made _ _ _
 have HW5:=zq hw5;obtain⟨g3,hg3⟩: ∃g,w4.heap.size=g:=⟨_,rfl⟩
 have HG3:=zq hg3;rw[hg3]at hH5;have HO5:=zq (HO4.out.under hb5);have HB5:=zq (HB4.out.trans (hb5.mono (Nat.le_trans HBA.out HB4.out.size)));have HX5:=uH HX4 hb5;have H05:=uH H04 hb5;have HL5:=zq hH5;clear hw5 hb5 hg3 hH5 HO4 HB4 HX4 H04;go_upto_region 17 with fail;rw[HW5.out];simp only[HG3.out];clear HW5 HG3 p0 p1 v1 v2 hm24;have y1:w5.cell? ⟨g4,0,none⟩=some (.int .i64 be):=HX5.out.cell 0;have l0:w5.cell? ⟨g3,0,none⟩=some (.int .i64 ye):=HL5.out.cell 0;by_cases z:be=ye
 ·have z1:(be==ye)=true:=by simp[z]
  have HFO:=zq (show qaT t path r=F from by have h_:=HFO.out;rw[if_pos z]at h_;exact h_);clear z;go_wp2;go_roundg (k1-1)
  case measure=>have:=HIN.out;omega
  case rel=>exact⟨i+1,_,m,d,path,A6,n6,c6,Y6,1+nn,r,by have:=HIN.out;have h2_:=HDR.out;omega,by have h2_:=HDR.out;omega,by first|go_num|(rw[IntWalk.wrap64_in _ (by have h1_:=HIN.out;have h2_:=HKN.out;have h3_:=H2.out;omega)];go_num),rfl,rfl,rfl,HN6,HV6,zq (.inr ⟨by omega,rfl,HR6_.out,HL6.out⟩),HO5,HM,HFO,H05,HB5⟩
 have z1:(be==ye)=false:=by simp[z]
 have h_:=HFO.out;rw[if_neg z]at h_;have HFO:=zq h_;clear h_;clear z;obtain⟨mt,hmt⟩: ∃q,mayT t ⟨ye,yr⟩ ⟨be,xr⟩=q:=⟨_,rfl⟩
 have HMY:=zq (rmay_any t a ⟨ye,yr⟩ ⟨be,xr⟩ w5 (HT.out _ HB5.out).j (by have:=HNN.out.2.1;omega));rw[hmt]at HFO HMY;unfold stA13 at HMY;dsimp only at HMY;clear hmt;go_upto_region 18 with fail;clear z1 y1 l0;go_wp2_with (first|(with_reducible refine ldZ 70 H05.out ?_)|(with_reducible refine ldZ 71 HL5.out ?_)|(with_reducible refine ldZ 72 HX5.out ?_));refine HMY.out.mono ?_;rintro e_ w6 ⟨rfl,hb6⟩;have HB6:=zq (HB5.out.trans (hb6.mono (Nat.le_trans HBA.out HB5.out.size)));have HO6:=zq (HO5.out.under hb6);have HX6:=uH HX5 hb6;have H06:=uH H05 hb6;clear hb6 HMY HB5 HO5 HX5 H05 HL5
 cases mt with
 |false=>
  have HFF:=zq (show F=([],141)from by rw[<-HFO.out,if_pos rfl]);clear HFO;go_wp2;go_ret2
  exact⟨none,0,0,by rw[HFF.out];rfl,by rw[HFF.out];exact OwR.nil _ _ _ _ _,HUP.out _ HB6.out⟩
 |true=>
 have h_:=HFO.out;rw[if_neg (by decide)]at h_;have HFO:=zq h_;clear h_;obtain⟨w7,hw7⟩: ∃u,w6.alloc (.cells #[.int .i64 be,.bool xr] 30)=u:=⟨_,rfl⟩
 have hb7:Below w6.heap.size w6 w7:=by rw[<-hw7];exact bA
 have hH7:Has w7 w6.heap.size 30 #[.int .i64 be,.bool xr]:=by rw[<-hw7];exact Has.made _ _ _
 have HW7:=zq hw7;have HB7:=zq (HB6.out.trans (hb7.mono (Nat.le_trans HBA.out HB6.out.size)));have HO7:=zq (HO6.out.under hb7);have HX7:=uH HX6 hb7;have H07:=uH H06 hb7;have HME:=zq (rmet17 path [⟨be,xr⟩] (some ⟨gp,0,none⟩) (some ⟨w6.heap.size,0,none⟩) (m+1) d 1 1 w7 HO7.out.sl ⟨rfl,qa3 hH7 rfl⟩ (by have:=HM.out;omega) (by omega));obtain⟨gm,hgm⟩: ∃q,metS path [⟨be,xr⟩]=q:=⟨_,rfl⟩
 rw[hgm]at HME HFO;clear hgm hw7 hb7 hH7 HB6 HO6 H06;go_upto_region 21 with fail;go_wp2_with (with_reducible refine ldZ 77 HX6.out ?_);rw[HW7.out];clear HW7 HX6;refine HME.out.mono ?_;rintro e_ w8 ⟨rfl,hb8⟩;have HB8:=zq (HB7.out.trans (hb8.mono (Nat.le_trans HBA.out HB7.out.size)));have HO8:=zq (HO7.out.under hb8);have HX8:=uH HX7 hb8;have H08:=uH H07 hb8;clear hb8 HME HB7 HO7 HX7 H07
 cases gm with
 |true=>
  have HFF:=zq (show F=([],2)from by rw[<-HFO.out,if_pos (Or.inl rfl)]);clear HFO;go_wp2;go_ret2
  exact⟨none,0,0,by rw[HFF.out];rfl,by rw[HFF.out];exact OwR.nil _ _ _ _ _,HUP.out _ HB8.out⟩
 |false=>
 by_cases z:m=23
 ·have z1:(((m+1:Nat):Int)==24)=true:=by simp;omega
  have z2:((m+1:Nat):Int)=24:=by omega
  have z3:(m:Int)+1=24:=by omega
  have HFF:=zq (show F=([],2)from by rw[<-HFO.out,if_pos (Or.inr (by rw[HO8.out.2];omega))]);have HZ:=zq z;clear z;clear HFO;go_wp2;go_ret2
  exact⟨none,0,0,by rw[HFF.out];rfl,by rw[HFF.out];exact OwR.nil _ _ _ _ _,HUP.out _ HB8.out⟩
 have z1:(((m+1:Nat):Int)==24)=false:=by simp;omega
 have z2: ¬((m+1:Nat):Int)=24:=by omega
 have z3: ¬(m:Int)+1=24:=by omega
 have hm22:m<23:=by have:=HM.out;omega
 have HFO:=zq (show qaT t (path++[⟨be,xr⟩]) r=F from by have h_:=HFO.out;rw[if_neg (by rintro(h2_|h2_);exact absurd h2_ (by decide);rw[HO8.out.2]at h2_;omega)]at h_;exact h_);go_upto_region 24 with fail;clear z1 z2 z3 z;obtain⟨hO,hSL,h1,hBD⟩:=pourR 16 (HO8.out.under ((Below.refl _ _).alloc (Nat.le_refl _) (.cells #[.int .i64 be,.bool xr] 30))) (⟨rfl,qa3 (Has.made _ _ _) rfl⟩:SlO stC 2 (w8.alloc (.cells #[.int .i64 be,.bool xr] 30)) (some ⟨w8.heap.size,0,none⟩) 1 1 [⟨be,xr⟩]) qed (Nat.le_trans (Nat.le_trans HBA.out HB8.out.size) (by simp)) (by omega) (by omega);have HA8:=zq (H08.out.beside (.cells #[.int .i64 be,.bool xr] 30));have HAP:=zq (HO8.out.apart H08.out (by decide));go_wp2_with (first|(with_reducible refine ldZ 87 HX8.out ?_)|(with_reducible refine qaP (o:=⟨some 89,_,_,_,_,_⟩) rfl (.tmp 86) (.tmp 88) 35 rfl b0 30 (.agg #[.int .i64 0,.bool false]) 2 16 Tryz.underlying35 qce ?hz1 (by decide) (some ⟨gp,0,none⟩) (m+1) d _ ?hs1 hO (some ⟨w8.heap.size,0,none⟩) 1 1 _ ?hx1 hSL h1 hBD ?next1))
 all_goals try rfl
 intro B9 d9 w9 ho9 hg9;have HO9:=zq (show OwR stC 2 30 b0 w9 B9 (m+1+1) d9 (path++[⟨be,xr⟩])from OwR.poured (l':=[⟨be,xr⟩]) HO8.out.2 rfl ho9.out);have HB9:=zq (qas (HB8.out.trans ((bA).mono (Nat.le_trans HBA.out HB8.out.size))) (Nat.le_trans (Nat.le_trans HBA.out HB8.out.size) (by simp)) hO.out (Nat.le_refl _) rfl hg9.out);have H09:=zq (HA8.out.grow hg9.out (Ne.symm HAP.out));have HM9:=zq (show m+1+1<=24 from by omega);clear ho9 hg9 hO hSL h1 hBD HO8 HB8 HX8 H08 HA8 HAP hm22;go_wp2;go_roundg (k1-1)
 case measure=>have:=HIN.out;omega
 case rel=>exact⟨i+1,B9,m+1,d9,path++[⟨be,xr⟩],A6,n6,c6,Y6,1+nn,r,by have:=HIN.out;have h2_:=HDR.out;omega,by have h2_:=HDR.out;omega,by first|go_num|(rw[IntWalk.wrap64_in _ (by have h1_:=HIN.out;have h2_:=HKN.out;have h3_:=H2.out;omega)];go_num),rfl,rfl,rfl,HN6,HV6,zq (.inr ⟨by omega,rfl,HR6_.out,HL6.out⟩),HO9,HM9,HFO,H09,HB9⟩
end
section
open Go.RowKit
open Go.Great
theorem sec_at17 {k i:Nat}{Y R1:List Int}(hlt:i<k)(h:ShRep SecSh (k-i) Y R1):2<=Y.length/\(Y.getD 1 0=1->4<=Y.length/\ShRep SecSh (k-(i+1)) (Y.drop 4) R1):=by
 rw[show k-i=(k-(i+1))+1 by omega]at h;obtain⟨W,⟨x,q,_,⟨rfl,rfl⟩|⟨rfl,a,b,_,rfl⟩⟩,h2⟩:=h
 ·exact⟨by simp,fun h=>by simp at h⟩
 ·exact⟨by simp,fun _=>⟨by simp,h2⟩⟩
theorem secs_rest17 {u to_:Int}{k:Nat}{V R1:List Int}(h:ShRep SecSh k V R1)(h0:(qaf u k to_ V).2.2=0):(qaf u k to_ V).2.1=R1:=by
 induction k generalizing V to_ with
 |zero=>exact(show R1=V from h).symm
 |succ k ih=>
  have h1:=sec_at17 (i:=0) (k:=k+1) (by omega) h;rw[qaf]at h0⊢;split
  ·rename_i h2;rw[if_pos h2]at h0;exact absurd h0 (by decide)
  ·rename_i h2
   rw[if_neg h2]at h0;have h3:=(h1.2 (Classical.not_not.1 h2)).2;split
   ·rename_i h4;rw[if_pos h4]at h0;exact absurd h0 (by decide)
   ·rename_i h4
    rw[if_neg h4]at h0;split
    ·rename_i h5;rw[if_pos h5]at h0;exact absurd h0 (by decide)
    ·rename_i h5
     rw[if_neg h5]at h0;dsimp only at h0⊢;split
     ·rename_i h6;rw[if_pos h6]at h0;exact absurd h0 h6
     ·rename_i h6
      exact ih h3 (Classical.not_not.1 h6)
theorem rsections17b (V R1:List Int)(k:Nat)(u:Int)(A:Option Addr)(n c:Nat)(w:World)(hs:SlO inC 1 w A n c V)(hc:n<=c)(hn:n<=1048576)(hk:k<=100)(hsh:ShRep SecSh k V R1):
  Calls Tryz.prog 69 #[.slice A n c,.int .i64 k,.int .i64 u] w fun r w'=> ∃X x B d,r= .returned (.tuple #[.slice X (qaf u k 0 V).1.length x,.slice B (qaf u k 0 V).2.1.length d,.int .i64 (qaf u k 0 V).2.2])/\OwR scC17 2 66 w.heap.size w' X (qaf u k 0 V).1.length x (qaf u k 0 V).1/\SlO inC 1 w' B (qaf u k 0 V).2.1.length d (qaf u k 0 V).2.1/\(qaf u k 0 V).2.1.length<=d/\Below w.heap.size w w':=by
 obtain⟨R,hR⟩:=geZ (qaf u k 0 V);have HR:=zq (show joinS [] (qaf u k 0 V)=R from by rw[join_nil _ (qgr u k 0 V)];exact hR);rw[hR];have HS:=zq hs;have HC:=zq (show n<=c/\n<=1048576/\k<=100 from⟨hc,hn,hk⟩);have HSH:=zq hsh;clear hR hs hc hn hk hsh;go_enter Tryz.func69,Tryz.ntmps69;go_wp2;go_loopg [0,9,10,11] k (fun kk v0 v9 v10 v11 wl=> ∃(i m d:Nat) (B X:Option Addr) (x:Nat) (q:List Sc3) (Y:List Int) (to_:Int),i<=k/\k-i<=kk/\v11= .int .i64 i/\v0= .slice B m d/\v9= .slice X i x/\v10= .int .i64 to_/\Hid (joinS q (qaf u (k-i) to_ Y)=R)/\Hid (SlO inC 1 w B m d Y)/\Hid (m<=d/\m<=1048576)/\Hid (ShRep SecSh (k-i) Y R1)/\Hid (0<=to_/\to_<=i*3276600)/\Hid (OwR scC17 2 66 w.heap.size wl X i x q)/\Hid (Below w.heap.size w wl))
 case atStart=>exact⟨0,n,c,A,none,0,[],V,0,by omega,by omega,rfl,rfl,rfl,rfl,HR,HS,zq ⟨HC.out.1,HC.out.2.1⟩,HSH,zq (by omega),zq (OwR.nil _ _ _ _ _),zq (Below.refl _ _)⟩
 clear HR HS HSH;obtain⟨i,m,d,B,X,x,q,Y,to_,hi,hik,rfl,rfl,rfl,rfl,HR,HS,HM,HSH,HTO,HO,HB⟩:=hrel;obtain⟨k1,hk1⟩: ∃k1,k1=gk:=⟨_,rfl⟩
 subst hk1;obtain⟨wv,hwv⟩: ∃wv,wv=wr:=⟨_,rfl⟩
 subst hwv;by_cases hlt:i<k;rotate_left
 ·obtain rfl:i=k:=by omega
  have x1: ¬(i:Int)<i:=by omega
  have HF:=zq (show R=(q,Y,0)from by have h_:=HR.out;rw[Nat.sub_self]at h_;rw[<-h_];show joinS q ([],Y,0)=_;unfold joinS;rw[if_neg (by simp),List.append_nil]);clear hik hlt hi;go_wp2;go_ret3
  rw[HF.out];dsimp only;rw[show q.length=i from HO.out.2,show Y.length=m from HS.out.1];exact⟨X,x,B,d,rfl,HO.out,HS.out.under HB.out,HM.out.1,HB.out⟩
 have HQ:=zq (show 2<=m/\(Y.getD 1 0=1->4<=m/\ShRep SecSh (k-(i+1)) (Y.drop 4) R1)from by have h_:=sec_at17 hlt HSH.out;rw[HS.out.1]at h_;exact h_);obtain⟨b,off,rfl,hc⟩:=(HS.out.under HB.out).num17 (by have:=HQ.out.1;omega);have d0:=hc 0 (by have:=HQ.out.1;omega);have d1:=hc 1 (by have:=HQ.out.1;omega);have HCL:=zq hc;rw[Nat.add_zero]at d0;have HIN:=zq (show i<k/\k-i<=k1 from⟨hlt,hik⟩);have x1:(i:Int)<k:=by omega
 clear hc hlt hik hi;obtain⟨v0,hv0⟩: ∃v,Y.getD 0 0=v:=⟨_,rfl⟩
 obtain⟨v1,hv1⟩: ∃v,Y.getD 1 0=v:=⟨_,rfl⟩
 obtain⟨v2,hv2⟩: ∃v,Y.getD 2 0=v:=⟨_,rfl⟩
 rw[hv0]at d0;rw[hv1]at d1;have HV:=zq (And.intro hv0 (And.intro hv1 hv2));have HKS:=zq (show k-i=(k-(i+1))+1 from by have:=HIN.out;omega);clear hv0 hv1 hv2;have y1:(1:Int)<m:=by have:=HQ.out.1;omega
 have y0:(0:Int)<m:=by omega
 by_cases z1:v1=1;rotate_left
 ·have q1:(v1 !=1)=true:=by simp[z1]
  have HF:=zq (show R=([],[],20)from by have h_:=HR.out;rw[HKS.out,qbT (e:=20) (by rw[qaf,if_pos (by rw[HV.out.2.1];exact z1)]) (by decide)]at h_;exact h_.symm);go_wp2;go_ret3
  rw[HF.out];exact⟨none,0,none,0,rfl,OwR.nil _ _ _ _ _,SlO.nil _ _ _,Nat.le_refl _,HB.out⟩
 have q1:(v1 !=1)=false:=by simp[z1]
 have HM4:=zq (HQ.out.2 (by rw[HV.out.2.1];exact z1));have d2:=HCL.out 2 (by have:=HM4.out.1;omega);rw[HV.out.2.2]at d2;have y2:(2:Int)<m:=by have:=HM4.out.1;omega
 by_cases z2:v2<1
 ·skip
  have HF:=zq (show R=([],[],20)from by have h_:=HR.out;rw[HKS.out,qbT (e:=20) (by rw[qaf,if_neg (by rw[HV.out.2.1];simp[z1]),if_pos (.inl (by rw[HV.out.2.2];exact z2))]) (by decide)]at h_;exact h_.symm);go_wp2;go_ret3
  rw[HF.out];exact⟨none,0,none,0,rfl,OwR.nil _ _ _ _ _,SlO.nil _ _ _,Nat.le_refl _,HB.out⟩
 by_cases z3:1000<v2
 ·skip
  have HF:=zq (show R=([],[],20)from by have h_:=HR.out;rw[HKS.out,qbT (e:=20) (by rw[qaf,if_neg (by rw[HV.out.2.1];simp[z1]),if_pos (.inr (.inl (by rw[HV.out.2.2];exact z3)))]) (by decide)]at h_;exact h_.symm);go_wp2;go_ret3
  rw[HF.out];exact⟨none,0,none,0,rfl,OwR.nil _ _ _ _ _,SlO.nil _ _ _,Nat.le_refl _,HB.out⟩
 by_cases z4:v0=0
 ·have q4:(v0==0)=true:=by simp[z4]
  have HF:=zq (show R=([],[],20)from by have h_:=HR.out;rw[HKS.out,qbT (e:=20) (by rw[qaf,if_neg (by rw[HV.out.2.1];simp[z1]),if_pos (.inr (.inr (by rw[HV.out.1];exact z4)))]) (by decide)]at h_;exact h_.symm);go_wp2;go_ret3
  rw[HF.out];exact⟨none,0,none,0,rfl,OwR.nil _ _ _ _ _,SlO.nil _ _ _,Nat.le_refl _,HB.out⟩
 have q4:(v0==0)=false:=by simp[z4]
 have HZ3:=zq (show v1=1/\ ¬(v2<1\/1000<v2\/v0=0)from⟨z1,by omega⟩);go_upto_region 12 with fail;go_wp2_with fail;refine(ref_dm v0 u wv).mono ?_;obtain⟨dd,hdd⟩: ∃p,dmOf v0 u=p:=⟨_,rfl⟩
 rw[hdd];have HDD:=zq hdd;clear hdd;obtain⟨dv,de⟩:=dd;unfold pair;dsimp only;rintro e_ w2 ⟨rfl,hb2⟩;have HB2:=tB HB hb2;have HO2:=zq (HO.out.under hb2);clear hb2 HO HB d0 d1 d2 y1 y0 y2 q1 q4 z1 z2 z3 z4;by_cases z5:de=0;rotate_left
 ·have q5:(de !=0)=true:=by simp[z5]
  have HF:=zq (show R=([],[],7)from by have h_:=HR.out;rw[HKS.out,qbT (e:=7) (by rw[qaf,if_neg (by rw[HV.out.2.1];simp[HZ3.out.1]),if_neg (by rw[HV.out.1,HV.out.2.2];exact HZ3.out.2),if_pos (by rw[HV.out.1,HDD.out];exact z5)]) (by decide)]at h_;exact h_.symm);go_wp2;go_ret3
  rw[HF.out];exact⟨none,0,none,0,rfl,OwR.nil _ _ _ _ _,SlO.nil _ _ _,Nat.le_refl _,HB2.out⟩
 subst z5;have HDH:=zq (show 0<=dv/\dv<=3276600 from by have h_:=dm_hi17 (n:=v0) (u:=u) (by rw[HDD.out]);rw[HDD.out]at h_;exact h_);have HRN:=zq (show joinS (q++[⟨to_+dv,v2⟩]) (qaf u (k-(i+1)) (to_+dv) (Y.drop 4))=R from by have h_:=HR.out;rw[HKS.out,join_step (by rw[HV.out.2.1];exact HZ3.out.1) (by rw[HV.out.1,HV.out.2.2];exact HZ3.out.2) (by rw[HV.out.1,HDD.out]),HV.out.1,HV.out.2.2,HDD.out]at h_;exact h_);obtain⟨t2,ht2⟩: ∃z,to_+dv=z:=⟨_,rfl⟩
 rw[ht2]at HRN;have HT2:=zq (show 0<=t2/\t2<=((i+1:Nat):Int)*3276600 from by have h1_:=HTO.out;have h2_:=HDH.out;omega);have hw1:wrap64 (to_+dv)=t2:=by rw[IntWalk.wrap64_in _ (by have h1_:=HTO.out;have h2_:=HDH.out;have h3_:=HIN.out;have h4_:=HC.out;omega)];exact ht2
 clear ht2 HR;go_upto_region 16 with fail;obtain⟨hN,hO,hC,h1,hBD⟩:=pushR (f:=scC17) (k:=2) (e:=66) (w:=w2) 16 ⟨t2,v2⟩ #[.int .i64 t2,.int .i64 v2] rfl rfl (qdy _) HO2.out HB2.out.size (by have h1_:=HIN.out;have h2_:=HC.out;omega) (by omega);have HBW:=zq (show Below w.heap.size w (w2.alloc (.cells #[.int .i64 t2,.int .i64 v2] 66))from HB2.out.alloc HB2.out.size _);have HLN:=zq HO2.out.2;go_wp2_with (with_reducible refine qaZ (o:=⟨some 57,_,_,_,_,_⟩) rfl (.tmp 52) (.tmp 56) 36 rfl w.heap.size 66 (.agg #[.int .i64 0,.int .i64 0]) 2 16 Tryz.underlying36 qbO ?hz (by decide) X (i) x ((q).flatMap scC17) ?hs hO ⟨w2.heap.size,0,none⟩ 1 1 (scC17 ⟨t2,v2⟩) ?hx hN hC h1 hBD ?next)
 all_goals try rfl
 intro A3 c3 w3 ho hg;have HO3:=zq (OwR.snoc HLN.out ho.out);have HB3:=zq (qas HBW.out HBW.out.size hO.out (Nat.le_refl _) rfl hg.out);clear ho hg hN hO hC h1 hBD HBW HLN HO2 HB2;obtain⟨A5,hcu,hv5⟩:=qfZ (p:=4) (HS.out.under (Below.refl _ _)) HM.out.1 HM4.out.1;have HS5:=zq (hv5 w HS.out);obtain⟨m5,hm5⟩: ∃z,m-4=z:=⟨_,rfl⟩
 obtain⟨e5,he5⟩: ∃z,d-4=z:=⟨_,rfl⟩
 rw[hm5,he5]at hcu HS5;have hcu: ∀W,(Instr.sliceAt 22 (.slice (some ⟨b,off,none⟩) m d) (some (.int .i64 4)) none none).run Tryz.prog W= .ok (.slice A5 m5 e5) W:=hcu;have HM5:=zq (show m5<=e5/\m5<=1048576 from by have:=HM.out;omega);clear hv5 hm5 he5;go_wp2;clear hcu;go_roundg (k1-1)
 case measure=>have:=HIN.out;omega
 case rel=>exact⟨i+1,m5,e5,A5,A3,c3,q++[⟨t2,v2⟩],Y.drop 4,t2,by have:=HIN.out;omega,by have:=HIN.out;omega,by first|go_num|(rw[IntWalk.wrap64_in _ (by have h1_:=HIN.out;have h2_:=HC.out;omega)];go_num),rfl,rfl,by first|rfl|rw[hw1],HRN,HS5,HM5,zq HM4.out.2,HT2,HO3,HB3⟩
theorem rgap17b (V:List Int)(u:Int)(A:Option Addr)(n c:Nat)(w:World)(hs:SlO inC 1 w A n c V)(hc:n<=c)(hn:n<=1048576)(h3:2<=n)(h4:V.getD 0 0≠1->V.getD 1 0=1->3<=n)(h5:V.getD 0 0=1->4<=n/\((V.drop 2).getD 1 0=1->5<=n)):
  Calls Tryz.prog 70 #[.slice A n c,.int .i64 u] w fun r w'=>r= .returned (.tuple #[.int .i64 (gapE V u).1,.int .i64 (gapE V u).2])/\Below w.heap.size w w':=by
 obtain⟨R,hR⟩:=geZ (gapE V u);have HR:=zq hR;rw[hR];obtain⟨b,off,rfl,hcl⟩:=hs.num17 (by omega);have HC:=zq (show n<=c/\n<=1048576/\2<=n from⟨hc,hn,h3⟩);have HCL:=zq hcl;have HS0:=zq hs;have d0:=hcl 0 (by omega);have d1:=hcl 1 (by omega);rw[Nat.add_zero]at d0;obtain⟨v0,hv0⟩: ∃v,V.getD 0 0=v:=⟨_,rfl⟩
 rw[hv0]at d0 h5 h4;have HV0:=zq hv0;have H5:=zq h5;have H4:=zq h4;clear hR hs hc hn h3 hv0 hcl h5 h4;have y0:(0:Int)<n:=by have:=HC.out;omega
 have y1:(1:Int)<n:=by have:=HC.out;omega
 by_cases z0:v0=1
 ·subst z0
  obtain⟨A5,hcu,hv5⟩:=qfZ (p:=2) HS0.out HC.out.1 HC.out.2.2;obtain⟨m5,hm5⟩: ∃z,n-2=z:=⟨_,rfl⟩
  obtain⟨e5,he5⟩: ∃z,c-2=z:=⟨_,rfl⟩
  have hs5:=hv5 w HS0.out;rw[hm5,he5]at hcu hs5;have hcu: ∀W,(Instr.sliceAt 22 (.slice (some ⟨b,off,none⟩) n c) (some (.int .i64 2)) none none).run Tryz.prog W= .ok (.slice A5 m5 e5) W:=hcu;have HM5:=zq (show n=m5+2 from by have:=HC.out;omega);obtain⟨b_,o_,rfl,hcl⟩:=hs5.num17 (by have:=(H5.out rfl).1;have:=HM5.out;omega);have HCL5:=zq hcl;have e1:=hcl 1 (by have:=(H5.out rfl).1;have:=HM5.out;omega);clear hv5 hs5 hm5 he5;obtain⟨v1,hv1⟩: ∃v,(V.drop 2).getD 1 0=v:=⟨_,rfl⟩
  obtain⟨v2,hv2⟩: ∃v,(V.drop 2).getD 2 0=v:=⟨_,rfl⟩
  rw[hv1]at e1;have HGE:=zq (show(if v1≠1 then((0,0):Int×Int)else if(dmOf v2 u).2≠0 then(0,7)else((dmOf v2 u).1,0))=R from by rw[<-HR.out];unfold gapE;simp only[if_pos HV0.out];rw[hv1,hv2]);have x7:(1:Int)<(m5:Int):=by have:=(H5.out rfl).1;have:=HM5.out;omega
  have H51:=zq (show v1=1->5<=n from fun h_=>(H5.out rfl).2 (by rw[hv1];exact h_));have HV2:=zq hv2;clear hcl hv1 hv2 d1;go_enter Tryz.func70,Tryz.ntmps70;go_upto_region 3 with fail;by_cases z1:v1=1;rotate_left
  ·have q1:(v1 !=1)=true:=by simp[z1]
   obtain rfl:R=(0,0):=by rw[<-HGE.out,if_pos z1]
   go_wp2;go_ret2
   exact⟨rfl,Below.refl _ _⟩
  have q1:(v1 !=1)=false:=by simp[z1]
  have e2:=HCL5.out 2 (by have:=H51.out z1;have:=HM5.out;omega);rw[HV2.out]at e2;have x8:(2:Int)<(m5:Int):=by have:=H51.out z1;have:=HM5.out;omega
  have HG2:=zq (HGE.out.symm.trans (if_neg (fun h=>h z1)));clear HGE;go_upto_region 5 with fail;go_wp2_with fail;refine(ref_dm v2 u w).mono ?_;obtain⟨dd,hdd⟩: ∃p,dmOf v2 u=p:=⟨_,rfl⟩
  rw[hdd]at HG2⊢;clear hdd;obtain⟨dv,de⟩:=dd;unfold pair;dsimp only at HG2⊢;rintro e_ w2 ⟨rfl,hb2⟩;have HB2:=zq hb2;clear hb2 q1 z1;by_cases z5:de=0;rotate_left
  ·have q5:(de !=0)=true:=by simp[z5]
   obtain rfl:R=(0,7):=HG2.out.trans (if_pos z5);go_wp2;go_ret2
   exact⟨rfl,HB2.out⟩
  subst z5;obtain rfl:R=(dv,0):=HG2.out.trans (if_neg (by simp));go_wp2;go_ret2
  exact⟨rfl,HB2.out⟩
 obtain⟨v1,hv1⟩: ∃v,V.getD 1 0=v:=⟨_,rfl⟩
 obtain⟨v2,hv2⟩: ∃v,V.getD 2 0=v:=⟨_,rfl⟩
 rw[hv1]at d1;have HV2:=zq hv2;have H41:=zq (show v1=1->3<=n from fun h_=>H4.out z0 (by rw[hv1];exact h_));have q0:(v0==1)=false:=by simp[z0]
 have HGE:=zq (show(if v1≠1 then((0,0):Int×Int)else if(dmOf v2 u).2≠0 then(0,7)else((dmOf v2 u).1,0))=R from by rw[<-HR.out];unfold gapE;simp only[if_neg (show¬V.getD 0 0=1 from by rw[HV0.out];exact z0)];rw[hv1,hv2]);clear hv1 hv2;go_enter Tryz.func70,Tryz.ntmps70;go_upto_region 3 with fail;by_cases z1:v1=1;rotate_left
 ·have q1:(v1 !=1)=true:=by simp[z1]
  obtain rfl:R=(0,0):=by rw[<-HGE.out,if_pos z1]
  go_wp2;go_ret2
  exact⟨rfl,Below.refl _ _⟩
 have q1:(v1 !=1)=false:=by simp[z1]
 have d2:=HCL.out 2 (by have:=H41.out z1;omega);rw[HV2.out]at d2;have y2:(2:Int)<n:=by have:=H41.out z1;omega
 have HG2:=zq (HGE.out.symm.trans (if_neg (fun h=>h z1)));clear HGE;go_upto_region 5 with fail;go_wp2_with fail;refine(ref_dm v2 u w).mono ?_;obtain⟨dd,hdd⟩: ∃p,dmOf v2 u=p:=⟨_,rfl⟩
 rw[hdd]at HG2⊢;clear hdd;obtain⟨dv,de⟩:=dd;unfold pair;dsimp only at HG2⊢;rintro e_ w2 ⟨rfl,hb2⟩;have HB2:=zq hb2;clear hb2 q1 z1;by_cases z5:de=0;rotate_left
 ·have q5:(de !=0)=true:=by simp[z5]
  obtain rfl:R=(0,7):=HG2.out.trans (if_pos z5);go_wp2;go_ret2
  exact⟨rfl,HB2.out⟩
 subst z5;obtain rfl:R=(dv,0):=HG2.out.trans (if_neg (by simp));go_wp2;go_ret2
 exact⟨rfl,HB2.out⟩
end
end Go.Proofs.YtahadmeilajdgaaGreatDoor
