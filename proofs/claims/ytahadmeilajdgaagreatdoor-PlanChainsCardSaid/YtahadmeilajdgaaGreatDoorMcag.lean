/-
  Our own text, joined.
-/
import Derived.Test.YtahadmeilajdgaaGreatDoorMcaf
import Derived.Test.YtahadmeilajdgaaGreatDoorMcac
import Derived.BigQuiet
import Derived.IntWalk
import Derived.Test.YtahadmeilajdgaaGreatDoorMcad
import Derived.Test.YtahadmeilajdgaaGreatDoorMcaa
namespace Go.Proofs.YtahadmeilajdgaaGreatDoor
set_option maxRecDepth 100000
set_option maxHeartbeats 80000000
section
open Go.RowKit
open Go.Great
theorem OwR.rowlow17 {α:Type}{f:α->List Value}{k:Nat}{e:TypeId}{base g:Nat}{w:World}{A:Option Addr}{n c:Nat}{l:List α}(h:OwR f k e base w A n c l)(hg:g<base)(cs:Array Value):OwR f k e base (w.setRow g cs) A n c l:=
 h.kept (only_row11 w g cs) (.inr fun e_=>by
  have:=(h.1.lt g e_).1;omega)
theorem first_at17 {path:List St3}{s x:St3}(h:path[0]?=some x):firstB path s=eqS x s:=by
 cases path with
 |nil=>cases h
 |cons y r=>
  injection h with h
  subst h
  rfl
theorem pathOk_lp17 {t:Tp3}{path:List St3}(h:pathOkB t path=true):lenE t path=0/\path.length<=24:=by
 unfold pathOkB at h;simp only[Bool.and_eq_true,decide_eq_true_eq]at h;exact⟨h.1,h.2.1⟩
theorem last_top17 {M p:Int}{l:List Sc3}(hp:p<=M)(h: ∀s∈l,s.to_<=M):lastTo p l<=M:=by
 induction l generalizing p with
 |nil=>exact hp
 |cons s r ih=>exact ih (h s (List.mem_cons_self ..)) fun x hx=>h x (List.mem_cons_of_mem _ hx)
theorem head_le17 {t:Tp3}{path:List St3}{s:St3}(h:path[0]?=some s)(hp: ∀x∈path,1<=lenAt t x/\lenAt t x<=1000000):lenAt t s<=sumT t path:=by
 cases path with
 |nil=>cases h
 |cons y r=>
  injection h with h
  subst h;have h1:0<=sumT t r:=by
   have h2: ∀x∈r,1<=lenAt t x/\lenAt t x<=1000000:=fun x hx=>hp x (List.mem_cons_of_mem _ hx);clear hp
   induction r with
   |nil=>exact Int.le_refl _
   |cons z q ih=>
    have h3:=h2 z (List.mem_cons_self ..);have h4:=ih fun x hx=>h2 x (List.mem_cons_of_mem _ hx);show 0<=lenAt t z+sumT t q
    omega
  show lenAt t y<=lenAt t y+sumT t r
  omega
theorem may_loc17 {t:Tp3}{m:Ma3}(h:mayM t m=true): ∃x,locE t m.ref m.rev 0=(x,0)/\rightP t x=true/\behindM t m=intoP t x/\checkE t=0:=by
 have h0:(locE t m.ref m.rev 0).2=0:=by
  by_cases h1:(locE t m.ref m.rev 0).2=0
  ·exact h1
  ·rw[may_no17 h1]at h;cases h
 have h2:locE t m.ref m.rev 0=((locE t m.ref m.rev 0).1,0):=Prod.ext rfl h0;obtain⟨hc,hb,hr,hp⟩:=loc_place17 h2;have hm:=mayM_iff.1 h;have hpl:=hp m rfl rfl;exact⟨_,h2,hr,behind_into17 hpl hr hm.len (by have h3:=hm.first;rw[hpl]at h3;exact h3),hc⟩
theorem sects_lp17 {l:List Sc3}(h:sectsB l=true):0<=lastTo 0 l/\1<=l.length/\l.length<=8:=by
 unfold sectsB at h;simp only[Bool.and_eq_true,decide_eq_true_eq]at h;exact⟨ris_last h.1,h.2.1,h.2.2⟩
theorem opent_any (t:Tp3)(a:TpA)(p:Ps3)(w:World)(ht:TopR w t a)(hl:lightT t=true)(hcj:t.joints.length<=a.cj):
  Calls Tryz.prog 74 #[.agg (tpC t a),.agg (psA p)] w fun r w'=>r= .returned (.int .i64 (onE t [stepP p] p).1)/\Below w.heap.size w w':=by
 obtain⟨pe,pa,pr⟩:=p;unfold psA stepP;dsimp only;obtain⟨wa,hwa,hbwa,HWA,HBWA,h0,h1⟩:=bx2Z w 27 (tpC t a) 51 #[.int .i64 pe,.int .i64 pa,.bool pr];have HT:=zq (fun W (hW:Below wa.heap.size wa W)=>(ht.under hbwa).under hW);have HLT:=zq hl;have HCJ:=zq hcj;have H0:=zH h0;have H1:=zH h1;obtain⟨Rv,hRv⟩: ∃R,onE t [⟨pe,pr⟩] ⟨pe,pa,pr⟩=R:=⟨_,rfl⟩
 have HR:=zq hRv;rw[hRv];have HSO:=zq (fun W=>opstep_any ⟨pe,pa,pr⟩ W);unfold psA stA13 stepP at HSO;dsimp only at HSO;clear hwa hbwa h0 h1 ht hl hcj hRv;go_enter Tryz.func74,Tryz.ntmps74;go_upto_region 1 with fail;rw[HWA.out];clear HWA;refine wp_region_held_drew (S:=(fun W_=>(Has W_ (w.heap.size) 27 (tpC t a))/\(Has W_ (w.heap.size+1) 51 #[.int .i64 pe,.int .i64 pa,.bool pr])/\(Below wa.heap.size wa W_))) (by kernel_rfl) ?_ (fun hHeld=>?_)
 ·exact⟨(H0.out _ (Below.refl _ _)).draw,(H1.out _ (Below.refl _ _)).draw,below_dr11 (Below.refl _ _)⟩
 refine tlZ 0 8 w.heap.size (tpC t a) (fun _ ⟨h_,_,_⟩=>h_) (h:=?_);simp only[lyZ];refine tlZ 1 9 (w.heap.size+1) #[.int .i64 pe,.int .i64 pa,.bool pr] (fun _ ⟨_,h_,_⟩=>h_) (h:=?_);simp only[lyZ];refine tlZ 4 12 (w.heap.size+1) #[.int .i64 pe,.int .i64 pa,.bool pr] (fun _ ⟨_,h_,_⟩=>h_) (h:=?_);simp only[lyZ];refine aoZ 2 (some 10) (fun K hK=>?_);go_simp;obtain⟨s0,s1,s2⟩:=hHeld;refine(HSO.out _).mono ?_;rintro e_ q1 ⟨rfl,hb_⟩;go_wp2_with fail;refine hK.out _ _ ?_ (fun hHeld=>?_)
 ·exact⟨s0.u hb_,s1.u hb_,bu s2 hb_⟩
 clear hK K s0 s1 s2
 try simp only[lyZ]
 refine aoZ 3 (some 11) (fun K hK=>?_);go_simp;obtain⟨s0,s1,s2⟩:=hHeld;obtain⟨gS,hgS⟩:=geZ (q1.heap.size);have p0_gS:w.heap.size<gS:=by rw[<-hgS];exact s0.lt
 have p1_gS:w.heap.size+1<gS:=by rw[<-hgS];exact s1.lt
 have p2_gS:wa.heap.size<=gS:=by rw[<-hgS];exact s2.size
 rw[hgS];refine hK.out _ _ ?_ (fun hHeld=>?_)
 ·exact⟨s0.beside _,s1.beside _,below_al11 s2 _⟩
 refine mr3 (fun W_=>(Has W_ (gS) 30 #[.int .i64 pe,.bool pr])) ⟨s0.beside _,s1.beside _,below_al11 s2 _,(by rw[<-hgS];exact Has.made _ _ _)⟩ (fun h_=>?_);clear hHeld;have hHeld:=h_;clear h_;clear hK K hgS s0 s1 s2
 try simp only[lyZ]
 refine aoZ 5 (some 13) (fun K hK=>?_);go_simp;obtain⟨s0,s1,s2,s3⟩:=hHeld;refine(opl_on t a [⟨pe,pr⟩] (some ⟨gS,0,none⟩) 1 1 ⟨pe,pa,pr⟩ _ (HT.out _ s2) HLT.out HCJ.out ⟨rfl,sl_hasR s3 rfl⟩ (by omega) (by omega)).mono ?_;rw[HR.out];rintro e_ q2 ⟨rfl,hb2_⟩;go_wp2_with fail;refine hK.out _ _ ?_ (fun hHeld=>?_)
 ·exact⟨s0.u hb2_,s1.u hb2_,bu s2 hb2_,s3.u hb2_⟩
 clear hK K s0 s1 s2 s3
 try simp only[lyZ]
 refine tkZ 6 7 (h:=?_);simp only[lyZ];refine tkZ 7 14 (h:=?_);simp only[lyZ];refine tkZ 8 15 (h:=?_);simp only[lyZ];refine tkZ 9 5 (h:=?_);simp only[lyZ];refine tkZ 10 6 (h:=?_);simp only[lyZ];refine dnZ ?_;have HB1:=zq (HBWA.out.trans (hHeld.2.2.1.mono HBWA.out.size));clear hHeld;go_wp2;go_ret
 exact⟨rfl,HB1.out⟩
theorem opwalked_any (t:Tp3)(a:TpA)(p x:Ps3)(n:Int)(w:World)(ht:TopR w t a)(hl:lightT t=true)(hcj:t.joints.length<=a.cj)(hw:walkE t p n=(x,0)):
  Calls Tryz.prog 76 #[.agg (tpC t a),.agg (psA p),.int .i64 n] w fun r w'=> ∃X c,r= .returned (.slice X (goneL t p n).length c)/\OwR stC 2 30 w.heap.size w' X (goneL t p n).length c (goneL t p n)/\Below w.heap.size w w':=by
 have HGK:=zq (gone_ok hw);have HOK:=zq (check_routes HGK.out.1).1;have HIN:=zq (into_ok17 HOK.out (right_iff.1 HGK.out.2.1).2);have HEN:=zq (entered17 HGK.out.2.1);have HED:=zq (HGK.out.2.2.2.2.1.edges);have HLA:=zq (fun(s:St3) (hs:edgeB t s.edge=true)=>lenAt_ok HOK.out hs);obtain⟨G,hG⟩:=geZ (goneL t p n);have HGP:=zq (show GoneP t p x n G from by rw[<-hG];exact HGK.out.2.2.2.2.1);have HGL:=zq (show G.length<=41 from by rw[<-hG];exact HGK.out.2.2.2.2.2);rw[hG]at HED;obtain⟨I,hI⟩:=geZ (intoP t p);obtain⟨J,hJ⟩:=geZ (I+n);rw[hI]at HIN HEN;have hed:=(on_iff.1 (right_iff.1 HGK.out.2.1).2).1;have HL0:=zq (HLA.out (stepP p) hed);have HJB:=zq (show 0<=J/\J<=2000000000000 from by have h1_:=HIN.out;have h2_:=HL0.out;have h3_:=HGK.out.2.2;omega);have hw1:IntKind.i64.wrap (I+n)=J:=by rw[IntKind.wrap_i64];have h1_:=HJB.out;omega
 have HST:=zq (show[]++goneGo t 59 (stepP p) (J-lenAt t (stepP p))=G/\sumT t []+J=intoP t p+n from by
  refine⟨?_,by show 0+J=_;rw[hI];omega⟩;rw[<-hG];show goneGo t 59 (stepP p) _=goneGo t 59 (stepP p) _
  congr 1
  have h1_:intoP t p=lenAt t (stepP p)-aheadP t p:=rfl;omega)
 rw[hG];obtain⟨pe,pa,pr⟩:=p;unfold psA;unfold stepP at HEN HST;dsimp only at HEN HST hed⊢;have HEP:=zq hed;obtain⟨wa,hwa,hbwa,HWA,HBWA,h0,h1⟩:=bx2Z w 27 (tpC t a) 51 #[.int .i64 pe,.int .i64 pa,.bool pr];have HT:=zq (fun W (hW:Below wa.heap.size wa W)=>(ht.under hbwa).under hW);have HLT:=zq hl;have HCJ:=zq hcj;have H0:=zH h0;have H1:=zH h1;have HSO:=zq (fun W=>opstep_any ⟨pe,pa,pr⟩ W);unfold psA stA13 stepP at HSO;dsimp only at HSO;have HEO:=zq (fun W (hW:Below wa.heap.size wa W)=>opent_any t a ⟨pe,pa,pr⟩ W ((ht.under hbwa).under hW) hl hcj);unfold psA stepP at HEO;dsimp only at HEO;rw[HEN.out]at HEO;have HBZ:=zq hbwa.size;have HIJ:=zq hw1;clear hwa hbwa h0 h1 ht hl hcj hw hG hI hJ hw1 HEN hed;go_enter Tryz.func76,Tryz.ntmps76;go_upto_region 1 with fail;rw[HWA.out];clear HWA;go_cut [7,8] (fun s7 s8 wx=>s8= .int .i64 J/\ ∃gs,wa.heap.size<=gs/\s7= .pointer (some ⟨gs,0,none⟩)/\Has wx gs 30 #[.int .i64 pe,.bool pr]/\Below wa.heap.size wa wx)
 case first=>
  refine wp_region_held_drew (S:=(fun W_=>(Has W_ (w.heap.size) 27 (tpC t a))/\(Has W_ (w.heap.size+1) 51 #[.int .i64 pe,.int .i64 pa,.bool pr])/\(Below wa.heap.size wa W_))) (by kernel_rfl) ?_ (fun hHeld=>?_)
  ·exact⟨(H0.out _ (Below.refl _ _)).draw,(H1.out _ (Below.refl _ _)).draw,below_dr11 (Below.refl _ _)⟩
  refine tlZ 0 10 (w.heap.size+1) #[.int .i64 pe,.int .i64 pa,.bool pr] (fun _ ⟨_,h_,_⟩=>h_) (h:=?_);simp only[lyZ];refine tlZ 2 12 w.heap.size (tpC t a) (fun _ ⟨h_,_,_⟩=>h_) (h:=?_);simp only[lyZ];refine tlZ 3 13 (w.heap.size+1) #[.int .i64 pe,.int .i64 pa,.bool pr] (fun _ ⟨_,h_,_⟩=>h_) (h:=?_);simp only[lyZ];refine tkZ 5 15 (h:=?_);simp only[lyZ];refine rdZ [1,7] ?_;refine acZ (some 11) (fun K hK=>?_) ?_
  ·go_simp
   obtain⟨s0,s1,s2⟩:=hHeld;refine(HSO.out _).mono ?_;rintro e_ q1 ⟨rfl,hb_⟩;go_wp2_with fail;refine hK.out _ _ ?_ (fun hHeld=>?_)
   ·exact⟨s0.u hb_,s1.u hb_,bu s2 hb_⟩
   clear hK K s0 s1 s2
   try simp only[lyZ]
   refine rdZ [4,7] (acZ (some 14) (fun K hK=>?za1) (acZ (some 7) (fun K hK=>?zb1) AllReadyH.nil))
   case' za1=>
    go_simp;obtain⟨s0,s1,s2⟩:=hHeld;refine(HEO.out _ s2).mono ?_;rintro e_ q2 ⟨rfl,hb2_⟩;go_wp2_with fail;refine hK.out _ _ ?_ (fun hHeld=>?_)
    ·exact⟨s0.u hb2_,s1.u hb2_,bu s2 hb2_⟩
    clear hK K s0 s1 s2
    try simp only[lyZ]
    refine tqZ 6 16 (fun w_ ⟨s0,s1,s2⟩=>HIJ.out) (h:=?_);simp only[lyZ];refine aoZ 7 (some 7) (fun K hK=>?_);go_simp;obtain⟨s0,s1,s2⟩:=hHeld;obtain⟨gs,hgs⟩:=geZ (q2.heap.size);have p0_gs:w.heap.size<gs:=by rw[<-hgs];exact s0.lt
    have p1_gs:w.heap.size+1<gs:=by rw[<-hgs];exact s1.lt
    have p2_gs:wa.heap.size<=gs:=by rw[<-hgs];exact s2.size
    rw[hgs];refine hK.out _ _ ?_ (fun hHeld=>?_)
    ·exact⟨s0.beside _,s1.beside _,below_al11 s2 _⟩
    refine mr3 (fun W_=>(∃o_:Array Value,Has W_ (gs) 30 o_/\o_.size=2)) ⟨s0.beside _,s1.beside _,below_al11 s2 _,⟨#[.int .i64 0,.bool false],(by rw[<-hgs];exact Has.made _ _ _),rfl⟩⟩ (fun h_=>?_);clear hHeld;have hHeld:=h_;clear h_;clear hK K hgs s0 s1 s2
    try simp only[lyZ]
   case' zb1=>
    go_simp;obtain⟨s0,s1,s2⟩:=hHeld;obtain⟨gs,hgs⟩:=geZ (q1.heap.size);have p0_gs:w.heap.size<gs:=by rw[<-hgs];exact s0.lt
    have p1_gs:w.heap.size+1<gs:=by rw[<-hgs];exact s1.lt
    have p2_gs:wa.heap.size<=gs:=by rw[<-hgs];exact s2.size
    rw[hgs];refine hK.out _ _ ?_ (fun hHeld=>?_)
    ·exact⟨s0.beside _,s1.beside _,below_al11 s2 _⟩
    refine mr3 (fun W_=>(∃o_:Array Value,Has W_ (gs) 30 o_/\o_.size=2)) ⟨s0.beside _,s1.beside _,below_al11 s2 _,⟨#[.int .i64 0,.bool false],(by rw[<-hgs];exact Has.made _ _ _),rfl⟩⟩ (fun h_=>?_);clear hHeld;have hHeld:=h_;clear h_;clear hK K hgs s0 s1 s2
    try simp only[lyZ]
    refine aoZ 4 (some 14) (fun K hK=>?_);go_simp;obtain⟨s0,s1,s2,s3⟩:=hHeld;refine(HEO.out _ s2).mono ?_;rintro e_ q2 ⟨rfl,hb2_⟩;go_wp2_with fail;refine hK.out _ _ ?_ (fun hHeld=>?_)
    ·exact⟨s0.u hb2_,s1.u hb2_,bu s2 hb2_,(let ⟨o_,h_,e_⟩:=s3;⟨o_,h_.u hb2_,e_⟩)⟩
    clear hK K s0 s1 s2 s3
    try simp only[lyZ]
    refine tqZ 6 16 (fun w_ ⟨s0,s1,s2,s3⟩=>HIJ.out) (h:=?_);simp only[lyZ]
   all_goals
    refine aoZ 8 none (fun K hK=>?_);rw[if_pos (by rfl)];obtain⟨s0,s1,s2,s3⟩:=hHeld;obtain⟨o_,h_,e_⟩:=s3;refine wp_store_row 30 _ _ rfl (gs) #[.int .i64 pe,.bool pr] (by rfl) (by rfl) 30 o_ h_.raw11 (by kernel_rfl) e_ (by kernel_rfl) ?_;refine hK.out _ _ ?_ (fun hHeld=>?_)
    ·exact⟨has_rowo11 s0 (by omega) _,has_rowo11 s1 (by omega) _,below_row s2 (by omega) _,⟨_,has_row11 h_ _,rfl⟩⟩
    refine mr4 (fun W_=>(Has W_ (gs) 30 #[.int .i64 pe,.bool pr])) ⟨has_rowo11 s0 (by omega) _,has_rowo11 s1 (by omega) _,below_row s2 (by omega) _,⟨_,has_row11 h_ _,rfl⟩,has_row11 h_ _⟩ (fun h_=>?_);clear hHeld;have hHeld:=h_;clear h_;clear hK K h_ e_ s0 s1 s2
    try simp only[Act.put]
    refine tkZ 9 8 (h:=?_);simp only[lyZ];refine dnZ ?_;go_wp2_with fail;go_meet
    exact⟨rfl,gs,by omega,rfl,hHeld.2.2.2.2,hHeld.2.2.1⟩
  refine acZ (some 7) (fun K hK=>?_) ?_
  ·go_simp
   obtain⟨s0,s1,s2⟩:=hHeld;obtain⟨gs,hgs⟩:=geZ (wa.heap.size);have p0_gs:w.heap.size<gs:=by rw[<-hgs];exact s0.lt
   have p1_gs:w.heap.size+1<gs:=by rw[<-hgs];exact s1.lt
   have p2_gs:wa.heap.size<=gs:=by rw[<-hgs];exact s2.size
   rw[hgs];refine hK.out _ _ ?_ (fun hHeld=>?_)
   ·exact⟨s0.beside _,s1.beside _,below_al11 s2 _⟩
   refine mr3 (fun W_=>(∃o_:Array Value,Has W_ (gs) 30 o_/\o_.size=2)) ⟨s0.beside _,s1.beside _,below_al11 s2 _,⟨#[.int .i64 0,.bool false],(by rw[<-hgs];exact Has.made _ _ _),rfl⟩⟩ (fun h_=>?_);clear hHeld;have hHeld:=h_;clear h_;clear hK K hgs s0 s1 s2
   try simp only[lyZ]
   refine aoZ 1 (some 11) (fun K hK=>?_);go_simp;obtain⟨s0,s1,s2,s3⟩:=hHeld;refine(HSO.out _).mono ?_;rintro e_ q1 ⟨rfl,hb_⟩;go_wp2_with fail;refine hK.out _ _ ?_ (fun hHeld=>?_)
   ·exact⟨s0.u hb_,s1.u hb_,bu s2 hb_,(let ⟨o_,h_,e_⟩:=s3;⟨o_,h_.u hb_,e_⟩)⟩
   clear hK K s0 s1 s2 s3
   try simp only[lyZ]
   refine aoZ 4 (some 14) (fun K hK=>?_);go_simp;obtain⟨s0,s1,s2,s3⟩:=hHeld;refine(HEO.out _ s2).mono ?_;rintro e_ q2 ⟨rfl,hb2_⟩;go_wp2_with fail;refine hK.out _ _ ?_ (fun hHeld=>?_)
   ·exact⟨s0.u hb2_,s1.u hb2_,bu s2 hb2_,(let ⟨o_,h_,e_⟩:=s3;⟨o_,h_.u hb2_,e_⟩)⟩
   clear hK K s0 s1 s2 s3
   try simp only[lyZ]
   refine tqZ 6 16 (fun w_ ⟨s0,s1,s2,s3⟩=>HIJ.out) (h:=?_);simp only[lyZ];refine aoZ 8 none (fun K hK=>?_);rw[if_pos (by rfl)];obtain⟨s0,s1,s2,s3⟩:=hHeld;obtain⟨o_,h_,e_⟩:=s3;refine wp_store_row 30 _ _ rfl (gs) #[.int .i64 pe,.bool pr] (by rfl) (by rfl) 30 o_ h_.raw11 (by kernel_rfl) e_ (by kernel_rfl) ?_;refine hK.out _ _ ?_ (fun hHeld=>?_)
   ·exact⟨has_rowo11 s0 (by omega) _,has_rowo11 s1 (by omega) _,below_row s2 (by omega) _,⟨_,has_row11 h_ _,rfl⟩⟩
   refine mr4 (fun W_=>(Has W_ (gs) 30 #[.int .i64 pe,.bool pr])) ⟨has_rowo11 s0 (by omega) _,has_rowo11 s1 (by omega) _,below_row s2 (by omega) _,⟨_,has_row11 h_ _,rfl⟩,has_row11 h_ _⟩ (fun h_=>?_);clear hHeld;have hHeld:=h_;clear h_;clear hK K h_ e_ s0 s1 s2
   try simp only[Act.put]
   refine tkZ 9 8 (h:=?_);simp only[lyZ];refine dnZ ?_;go_wp2_with fail;go_meet
   exact⟨rfl,gs,by omega,rfl,hHeld.2.2.2.2,hHeld.2.2.1⟩
  exact AllReadyH.nil
 obtain⟨rfl,gs,hgs_,rfl,hh_,hb_⟩:=hcut;obtain⟨u1,hu1⟩: ∃u1,u1=wc:=⟨_,rfl⟩
 subst hu1;have HH:=zq hh_;have HB:=zq hb_;have HGS:=zq (show wa.heap.size<=gs/\gs<u1.heap.size from⟨hgs_,hh_.lt⟩);clear hh_ hb_ hgs_;go_upto_region 2 with fail;go_upto_region 3 with(with_reducible refine ldZ 17 HH.out ?_)
 obtain⟨u2,hu2⟩:=geZ (u1.alloc (.cells #[.int .i64 pe,.bool pr] 30));rw[hu2];have hb2:Below u1.heap.size u1 u2:=by rw[<-hu2];exact bA
 have HO:=zq (show OwR stC 2 30 u1.heap.size u2 (some ⟨u1.heap.size,0,none⟩) 1 1 [⟨pe,pr⟩]from by rw[<-hu2];exact⟨World.ownsRow_lit (base:=u1.heap.size) (e:=30) (size:=2) u1 #[.int .i64 pe,.bool pr] 1 (Nat.le_refl _) (by unfold maxLen;omega) rfl,rfl⟩);have HH2:=uH HH hb2;have HB2:=tB HB hb2;have HUS:=zq hb2.size;clear hu2 hb2 HH HB;go_loopg [8,9] 41 (fun kk v8 v9 wl=> ∃(k j:Nat) (X:Option Addr) (c:Nat) (q:List St3) (s:St3) (rest:Int),42-k<=kk/\v9= .slice X k c/\v8= .int .i64 rest/\Hid (q.length+1=k)/\Hid (q++goneGo t j s (rest-lenAt t s)=G/\sumT t q+rest=J)/\Hid (edgeB t s.edge=true/\ -1000000<=rest/\rest<=2000000000000)/\Hid (Has wl gs 30 #[.int .i64 s.edge,.bool s.rev])/\Hid (OwR stC 2 30 u1.heap.size wl X k c (q++[s]))/\Hid (Below wa.heap.size wa wl/\u1.heap.size<=wl.heap.size))
 case atStart=>exact⟨1,59,_,1,[],⟨pe,pr⟩,J,by omega,rfl,rfl,zq rfl,zq ⟨HST.out.1,by show 0+J=J;omega⟩,zq ⟨HEP.out,by have:=HJB.out;omega,HJB.out.2⟩,HH2,HO,zq ⟨HB2.out,HUS.out⟩⟩
 clear HO HB2 HH2;obtain⟨k,j,X,c,q,s,rest,hkk,rfl,rfl,HQL,HQ,HSB,HH,HO,HBU⟩:=hrel;have HB:=zq HBU.out.1;obtain⟨k1,hk1⟩: ∃k1,k1=gk:=⟨_,rfl⟩
 subst hk1;obtain⟨wv,hwv⟩: ∃wv,wv=wr:=⟨_,rfl⟩
 subst hwv;have hkG:k<=G.length:=by have h1_:=HQ.out.1;have h2_:=HQL.out;obtain⟨r_,hr_⟩:=gone_head t j s (rest-lenAt t s);rw[hr_]at h1_;rw[<-h1_];simp;omega
 have HK:=zq (show 1<=k/\k<=41/\42-k<=k1 from by have h1_:=HQL.out;have h2_:=HGL.out;omega);clear hkG hkk;have HLS:=zq (HLA.out s HSB.out.1);obtain⟨se,sr⟩:=s;dsimp only at HSB HH;have hx2:0<=se/\se<t.edges.length:=by have h_:=HSB.out.1;unfold edgeB at h_;simpa using h_
 obtain⟨e,hse⟩: ∃e:Nat,se=e:=⟨se.toNat,by omega⟩
 subst hse;have hel:e<t.edges.length:=by omega
 obtain⟨ln,hln⟩: ∃q,t.edges.getD e 0=q:=⟨_,rfl⟩
 have hlx:lenAt t ⟨(e:Int),sr⟩=ln:=by unfold lenAt;rw[<-hln];first|rfl|simp
 rw[hlx]at HLS HQ;have HLX:=zq hlx;obtain⟨be,oe,hpa_,ce⟩:=(HT.out wv HB.out).e.edge hel;rw[hln]at ce;have e0:wv.cell? ⟨w.heap.size,0,none⟩=some (.slice (some ⟨be,oe,none⟩) t.edges.length a.ce):=by have h_:=(H0.out wv HB.out).cell 0;rw[<-hpa_];exact h_
 have y2:(0:Int)<=e:=by omega
 have y3:(e:Int)<t.edges.length:=by omega
 have c0:wv.cell? ⟨gs,0,none⟩=some (.int .i64 (e:Int)):=HH.out.cell 0;clear hx2 hel hln hlx hpa_;by_cases z0:ln<rest;rotate_left
 ·have HF:=zq (show q++[⟨(e:Int),sr⟩]=G from by have h_:=HQ.out.1;rw[gone_end17 (by omega)]at h_;exact h_)
  go_wp2;go_ret
  have hl_:G.length=k:=by rw[<-HF.out];exact HO.out.2
  rw[hl_,<-HF.out];exact⟨_,c,rfl,HO.out.to_base (by have h1_:=HBZ.out;have h2_:=HGS.out;omega),HBWA.out.trans (HB.out.mono HBWA.out.size)⟩
 have HNX:=zq (gone_next17 (s:=⟨(e:Int),sr⟩) (k:=j) (left:=rest-ln) (pre:=q) HOK.out HGP.out HQ.out.1 (by rw[HLX.out];have h1_:=HQ.out.2;have h2_:=HST.out.2;have h3_:sumT t ([]:List St3)=0:=rfl;omega) (by omega));obtain⟨y,j2,hj2,hay,hg2,hs2⟩:=HNX.out;have HAY:=zq hay;obtain⟨l2,hl2⟩: ∃d,rest-ln=d:=⟨_,rfl⟩
 rw[hl2]at hg2 hs2;have HG2:=zq (show(q++[⟨(e:Int),sr⟩])++goneGo t j2 y (l2-lenAt t y)=G/\sumT t (q++[⟨(e:Int),sr⟩])+l2=J from⟨hg2,by have h2_:=HST.out.2;have h3_:sumT t ([]:List St3)=0:=rfl;omega⟩);have hye:edgeB t y.edge=true:=(after_mem.1 (by rw[hay];exact List.mem_cons_self ..)).2.1;have HYE:=zq hye;have HL2:=zq (show 0<l2/\l2<=2000000000000 from by have h1_:=HSB.out;have h2_:=HLS.out;omega);have hw1:wrap64 (rest-ln)=l2:=by rw[IntWalk.wrap64_in _ (by have h1_:=HL2.out;omega)];exact hl2
 have hw2:IntKind.i64.wrap (rest-ln)=l2:=by rw[IntKind.wrap_i64];have h1_:=HL2.out;omega
 clear hj2 hay hg2 hs2 hl2 hye HNX;go_upto_region 5 with fail;clear e0 ce z0 hw1 hw2 c0;obtain⟨ye,yr⟩:=y;dsimp only at HYE;go_wp2_with (first|(with_reducible refine ldZ 35 (H0.out wv HB.out) ?_)|(with_reducible refine ldZ 36 HH.out ?_));refine(otp_after t a ⟨(e:Int),sr⟩ wv (HT.out wv HB.out) HLT.out).mono ?_;rw[HAY.out];rintro e_ w5 ⟨A5,c5,rfl,hs5,hb5⟩;obtain⟨b1,o1,rfl,d0,d1⟩:=hs5.step (j:=0) (x:=⟨ye,yr⟩) rfl;rw[Nat.zero_mul,Nat.add_zero]at d0 d1;dsimp only at d0 d1;have HH5:=uH HH hb5;have HO5:=zq (HO.out.under hb5);have HB5:=tB HB hb5;have HU5:=zq (Nat.le_trans HBU.out.2 hb5.size);clear hb5 hs5 HH HO HB;obtain⟨w6,hw6⟩:=geZ (w5.setRow gs #[.int .i64 ye,.bool yr]);have HH6:=zq (show Has w6 gs 30 #[.int .i64 ye,.bool yr]from by rw[<-hw6];exact has_row11 HH5.out _);have HO6:=zq (show OwR stC 2 30 u1.heap.size w6 X k c (q++[⟨(e:Int),sr⟩])from by rw[<-hw6];exact HO5.out.rowlow17 HGS.out.2 _);have HB6:=zq (show Below wa.heap.size wa w6 from by rw[<-hw6];exact below_row (g:=gs) HB5.out HGS.out.1 _);have HU6:=zq (show u1.heap.size<=w6.heap.size from by rw[<-hw6];simpa using HU5.out);have HW6:=zq hw6;clear hw6;go_upto_region 6 with(with_reducible refine stZ #[.int .i64 ye,.bool yr] HH5.out ?_)
 rw[HW6.out];clear HW6 HH5 HO5 HB5 d0 d1;obtain⟨q2,hq2⟩:=geZ (q++[(⟨(e:Int),sr⟩:St3)]);rw[hq2]at HO6 HG2;have HQ2:=zq (show q2.length=k from by rw[<-hq2,List.length_append];exact HQL.out);clear hq2;skip;obtain⟨hN,hO,hC,h1,hBD⟩:=pushR (f:=stC) (k:=2) (e:=30) (w:=w6) 16 ⟨ye,yr⟩ #[.int .i64 ye,.bool yr] rfl rfl (one_st17 _) HO6.out HU6.out (by have h1_:=HK.out;omega) (by omega);have HBW:=zq (show Below wa.heap.size wa (w6.alloc (.cells #[.int .i64 ye,.bool yr] 30))from HB6.out.alloc HB6.out.size _);have HLN:=zq HO6.out.2;go_wp2_with (first|(with_reducible refine ldZ 41 HH6.out ?_)|(with_reducible refine wpList_push (o:=⟨some 43,_,_,_,_,_⟩) rfl (.tmp 40) (.tmp 42) 35 rfl u1.heap.size 30 (.agg #[.int .i64 0,.bool false]) 2 16 Tryz.underlying35 info_step14 ?hz (by decide) X (k) c ((q2).flatMap stC) ?hs hO ⟨w6.heap.size,0,none⟩ 1 1 (stC ⟨ye,yr⟩) ?hx hN hC h1 hBD ?next))
 all_goals try rfl
 intro X3 c3 u3 ho hg;have HO3:=zq (OwR.snoc HLN.out ho.out);have HB3:=zq (below_own HBW.out HBW.out.size hO.out (by have h1_:=HBU.out;have h2_:=HGS.out;omega) rfl hg.out);have HU3:=zq (show u1.heap.size<=u3.heap.size from Nat.le_trans (by simpa using Nat.le_succ_of_le HU6.out) hg.out.size);have HH3:=zq (show Has u3 gs 30 #[.int .i64 ye,.bool yr]from(HH6.out.beside _).grow hg.out (fun e_=>by have:=((hO.out).lt gs e_.symm).1;have h2_:=HGS.out;omega));clear ho hg hN hO hC h1 hBD HO6 HB6 HH6 HBW HLN HBU HU6;go_wp2;go_roundg (k1-1)
 case measure=>have h1_:=HK.out;omega
 case rel=>exact⟨k+1,j2,X3,c3,q2,⟨ye,yr⟩,l2,by have h1_:=HK.out;omega,rfl,rfl,zq (by rw[HQ2.out]),HG2,zq ⟨HYE.out,by have:=HL2.out;omega,HL2.out.2⟩,HH3,HO3,zq ⟨HB3.out,HU3.out⟩⟩
theorem opn_may (t:Tp3)(a:TpA)(m:Ma3)(b:MaA)(w:World)(ht:TopR w t a)(hl:lightT t=true)(hcj:t.joints.length<=a.cj)(hm:MaR w m b)(hn:m.path.length<=100)(hk:m.sects.length<=100):Calls Tryz.prog 26 #[.agg (tpC t a),.agg (maC m b)] w fun r w'=>r= .returned (.bool (mayM t m))/\Below w.heap.size w w':=by
 obtain⟨mr,mv,mp,ms,mg⟩:=m;obtain⟨AP,PC,AQ,CS⟩:=b;have hmP:=hm.path;have hmS:=hm.sects;have hcP:=hm.capP;have hcS:=hm.capS;have htop:=hm.top;unfold maC;dsimp only at hmP hmS hcP hcS htop hn hk⊢;have HTOP:=zq (show lastTo 0 ms<=9223372036854775807 from last_top17 (by decide) htop);clear htop;have HEM:=zq (fun(W:World) (hs_:SlO scC17 2 W AQ ms.length CS ms) (h1_:1<=ms.length)=>opend_any ⟨mr,mv,mp,ms,mg⟩ ⟨AP,PC,AQ,CS⟩ W hs_ h1_ (by show ms.length<=1048576;omega));unfold maC at HEM;dsimp only at HEM;obtain⟨pn,hpn⟩: ∃n,mp.length=n:=⟨_,rfl⟩
 obtain⟨sn,hsn⟩: ∃n,ms.length=n:=⟨_,rfl⟩
 rw[hpn]at hmP hcP hn HEM⊢;rw[hsn]at hmS hcS hk HEM⊢;have HPN:=zq hpn;have HSN:=zq hsn;have HPC:=zq hcP;have HSC:=zq hcS;have HNK:=zq (show pn<=100/\sn<=100 from⟨hn,hk⟩);clear hpn hsn hcP hcS hn hk hm;obtain⟨wa,hwa,hbwa,HWA,HBWA,h0,h1⟩:=bx2Z w 27 (tpC t a) 38 #[.int .i64 mr,.bool mv,.slice AP pn PC,.slice AQ sn CS,.int .i64 mg];have HT:=zq (fun W (hW:Below wa.heap.size wa W)=>(ht.under hbwa).under hW);have HLT:=zq hl;have HCJ:=zq hcj;have H0:=zH h0;have H1:=zH h1;have HP:=zq (fun W (hW:Below wa.heap.size wa W)=>(hmP.under hbwa).under hW);have HS:=zq (fun W (hW:Below wa.heap.size wa W)=>(hmS.under hbwa).under hW);obtain⟨R,hR⟩:=geZ (mayM t (⟨mr,mv,mp,ms,mg⟩:Ma3));have HR:=zq hR;rw[hR];obtain⟨x,e,hloc⟩: ∃x e,locE t mr mv 0=(x,e):=⟨_,_,rfl⟩
 have HLOC:=zq hloc;have HC:=zq (opl_locate0 t a mr mv 0 wa (ht.under hbwa) hl hcj);rw[hloc]at HC;have m0:wa.cell? ⟨w.heap.size+1,0,none⟩=some (.int .i64 mr):=h1.cell 0;have m1:wa.cell? ⟨w.heap.size+1,1,none⟩=some (.bool mv):=h1.cell 1;have HSO:=zq (fun W=>opstep_any x W);have HEO:=zq (fun W (hW:Below wa.heap.size wa W)=>opent_any t a x W ((ht.under hbwa).under hW) hl hcj);clear hwa hbwa h0 h1 ht hl hcj hmP hmS hR hloc;obtain⟨pe,pa,pr⟩:=x;unfold psA stA13 stepP at HSO;dsimp only at HSO;unfold psA at HC HEO;dsimp only at HC HEO;go_enter Tryz.func26,Tryz.ntmps26;go_upto_region 1 with fail;rw[HWA.out];clear HWA;go_wp2_with (with_reducible refine ldZ 9 (H0.out wa (Below.refl _ _)) ?_);refine HC.out.mono ?_;rintro e_ w1 ⟨rfl,hb1⟩;have HB1:=zq hb1;clear hb1 HC m0 m1;go_upto_region 2 with fail;obtain⟨wb,hwb⟩:=geZ (w1.alloc (.cells #[.int .i64 pe,.int .i64 pa,.bool pr] 51));rw[hwb];have HBB:=zq (show Below wa.heap.size wa wb from by rw[<-hwb];exact HB1.out.alloc HB1.out.size _);have hH:Has wb w1.heap.size 51 #[.int .i64 pe,.int .i64 pa,.bool pr]:=by rw[<-hwb];exact Has.made _ _ _
 obtain⟨gP,hgP⟩: ∃g,w1.heap.size=g:=⟨_,rfl⟩
 rw[hgP]at hH;simp only[hgP];have HH:=zH hH;have HX:=zq (fun W (hW:Below wb.heap.size wb W)=>HBB.out.trans (hW.mono HBB.out.size));clear hwb hH hgP HB1;by_cases z0:e=0;rotate_left
 ·have q0:(e !=0)=true:=by simp[z0]
  obtain rfl:R=false:=by rw[<-HR.out];exact may_no17 (by show(locE t mr mv 0).2≠0;rw[HLOC.out];exact z0)
  clear z0;go_quiet (fail);go_wp2;go_ret
  exact⟨rfl,below_draws (HBWA.out.trans (HBB.out.mono HBWA.out.size)) _⟩
 subst z0;have q0:((0:Int) !=0)=false:=rfl;have HMO:=zq ((may_own17 (t:=t) (m:=(⟨mr,mv,mp,ms,mg⟩:Ma3)) HLOC.out).symm.trans HR.out);have HLP:=zq (loc_place17 HLOC.out);unfold stepP at HMO HEO;dsimp only at HMO HEO;obtain⟨pk,hpk⟩: ∃b,pathOkB t mp=b:=⟨_,rfl⟩
 rw[hpk]at HMO;have HPK:=zq hpk;clear hpk
 cases pk with
 |false=>
  obtain rfl:R=false:=by rw[<-HMO.out];rfl
  refine wp_region_held_drew (S:=(fun W_=>(Has W_ (w.heap.size) 27 (tpC t a))/\(Has W_ (w.heap.size+1) 38 #[.int .i64 mr,.bool mv,.slice AP pn PC,.slice AQ sn CS,.int .i64 mg])/\(Has W_ (gP) 51 #[.int .i64 pe,.int .i64 pa,.bool pr])/\(Below wb.heap.size wb W_))) (by kernel_rfl) ?_ (fun hHeld=>?_)
  ·exact⟨(H0.out _ HBB.out).draw,(H1.out _ HBB.out).draw,(HH.out _ (Below.refl _ _)).draw,below_dr11 (Below.refl _ _)⟩
  refine tkZ 0 17 (h:=?_);simp only[lyZ];refine tkZ 1 18 (h:=?_);simp only[lyZ];refine tkZ 2 19 (h:=?_);simp only[lyZ];refine tlZ 3 20 w.heap.size (tpC t a) (fun _ ⟨h_,_,_,_⟩=>h_) (h:=?_);simp only[lyZ];refine tkZ 4 21 (h:=?_);simp only[lyZ];refine tqZ 5 22 (fun w_ ⟨s0,s1,s2,s3⟩=>(show w_.cell? ⟨w.heap.size+1,2,none⟩=some (.slice AP pn PC:Value)from s1.cell 2)) (h:=?_);simp only[lyZ];refine aoZ 6 (some 23) (fun K hK=>?_);go_simp;obtain⟨s0,s1,s2,s3⟩:=hHeld;refine(opispath_any t a mp AP pn PC _ (HT.out _ (HX.out _ s3)) HLT.out (HP.out _ (HX.out _ s3)) (by have:=HNK.out;omega) HPC.out).mono ?_;rw[HPK.out];rintro e_ q1 ⟨rfl,hb_⟩;go_wp2_with fail;refine hK.out _ _ ?_ (fun hHeld=>?_)
  ·exact⟨s0.u hb_,s1.u hb_,s2.u hb_,bu s3 hb_⟩
  clear hK K s0 s1 s2 s3
  try simp only[lyZ]
  refine tkZ 7 24 (h:=?_);simp only[lyZ];refine tkZ 8 25 (h:=?_);simp only[lyZ];refine tkZ 9 26 (h:=?_);simp only[lyZ];refine skZ 10 27 (h:=?_);simp only[lyZ];refine skZ 11 28 (h:=?_);simp only[lyZ];refine skZ 12 29 (h:=?_);simp only[lyZ];refine skZ 13 30 (h:=?_);simp only[lyZ];refine skZ 14 31 (h:=?_);simp only[lyZ];refine skZ 15 32 (h:=?_);simp only[lyZ];refine skZ 16 33 (h:=?_);simp only[lyZ];refine tkZ 17 34 (h:=?_);simp only[lyZ];refine tkZ 18 35 (h:=?_);simp only[lyZ];refine skZ 19 36 (h:=?_);simp only[lyZ];refine skZ 20 37 (h:=?_);simp only[lyZ];refine skZ 21 38 (h:=?_);simp only[lyZ];refine skZ 22 39 (h:=?_);simp only[lyZ];refine tkZ 23 40 (h:=?_);simp only[lyZ];refine dnZ ?_;have HBZ:=zq (HBWA.out.trans ((HX.out _ hHeld.2.2.2).mono HBWA.out.size));clear hHeld;go_wp2;go_ret
  exact⟨rfl,HBZ.out⟩
 |true=>
  have HLE:=zq (pathOk_lp17 HPK.out);have hlo:=len_ok HLE.out.1;have hp1:1<=pn:=by rw[<-HPN.out];exact List.length_pos_iff.2 hlo.1
  obtain⟨y,hy⟩:=glZ mp (0) (by rw[HPN.out];omega);rw[first_at17 hy]at HMO;obtain⟨bp,op_,rfl,d0,d1⟩:=(HP.out wb HBB.out).step hy;rw[Nat.zero_mul,Nat.add_zero]at d0 d1;have HYC:=zq (fun W (hW:Below wb.heap.size wb W)=>And.intro ((hW.cell (cell_block d0)).trans d0) ((hW.cell (cell_block d1)).trans d1));have HNQ:=zq (fun W=>neq_st13 y ⟨pe,pr⟩ W);obtain⟨fb,hfb⟩: ∃b,eqS y ⟨pe,pr⟩=b:=⟨_,rfl⟩
  rw[hfb]at HMO HNQ;have HYX:=zq hy;have HFB:=zq hfb;obtain⟨ye,yr⟩:=y;unfold stA13 at HNQ;dsimp only at HYC HNQ;have HEB:=zq (show∀s∈mp,edgeB t s.edge=true from hlo.2.2.1);have x1:(0:Int)<pn:=by omega
  have x2:0<pn:=by omega
  clear hlo hp1 hy d0 d1 hfb
  cases fb with
  |false=>
   obtain rfl:R=false:=by rw[<-HMO.out];rfl
   refine wp_region_held_drew (S:=(fun W_=>(Has W_ (w.heap.size) 27 (tpC t a))/\(Has W_ (w.heap.size+1) 38 #[.int .i64 mr,.bool mv,.slice (some ⟨bp,op_,none⟩) pn PC,.slice AQ sn CS,.int .i64 mg])/\(Has W_ (gP) 51 #[.int .i64 pe,.int .i64 pa,.bool pr])/\(Below wb.heap.size wb W_))) (by kernel_rfl) ?_ (fun hHeld=>?_)
   ·exact⟨(H0.out _ HBB.out).draw,(H1.out _ HBB.out).draw,(HH.out _ (Below.refl _ _)).draw,below_dr11 (Below.refl _ _)⟩
   refine tkZ 0 17 (h:=?_);simp only[lyZ];refine tkZ 1 18 (h:=?_);simp only[lyZ];refine tkZ 2 19 (h:=?_);simp only[lyZ];refine tlZ 3 20 w.heap.size (tpC t a) (fun _ ⟨h_,_,_,_⟩=>h_) (h:=?_);simp only[lyZ];refine tkZ 4 21 (h:=?_);simp only[lyZ];refine tqZ 5 22 (fun w_ ⟨s0,s1,s2,s3⟩=>(show w_.cell? ⟨w.heap.size+1,2,none⟩=some (.slice (some ⟨bp,op_,none⟩) pn PC:Value)from s1.cell 2)) (h:=?_);simp only[lyZ];refine aoZ 6 (some 23) (fun K hK=>?_);go_simp;obtain⟨s0,s1,s2,s3⟩:=hHeld;refine(opispath_any t a mp (some ⟨bp,op_,none⟩) pn PC _ (HT.out _ (HX.out _ s3)) HLT.out (HP.out _ (HX.out _ s3)) (by have:=HNK.out;omega) HPC.out).mono ?_;rw[HPK.out];rintro e_ q1 ⟨rfl,hb_⟩;go_wp2_with fail;refine hK.out _ _ ?_ (fun hHeld=>?_)
   ·exact⟨s0.u hb_,s1.u hb_,s2.u hb_,bu s3 hb_⟩
   clear hK K s0 s1 s2 s3
   try simp only[lyZ]
   refine tkZ 7 24 (h:=?_);simp only[lyZ];refine tkZ 8 25 (h:=?_);simp only[lyZ];refine tkZ 9 26 (h:=?_);simp only[lyZ];refine tkZ 10 27 (h:=?_);simp only[lyZ];refine tqZ 11 28 (fun w_ ⟨s0,s1,s2,s3⟩=>(show w_.cell? ⟨w.heap.size+1,2,none⟩=some (.slice (some ⟨bp,op_,none⟩) pn PC:Value)from s1.cell 2)) (h:=?_);simp only[lyZ];refine tkZ 12 29 (h:=?_);simp only[lyZ];refine tqZ 13 30 (fun w_ ⟨s0,s1,s2,s3⟩=>And.intro ((HYC.out w_ s3).1) ((HYC.out w_ s3).2)) (h:=?_);simp only[lyZ];refine tlZ 14 31 gP #[.int .i64 pe,.int .i64 pa,.bool pr] (fun _ ⟨_,_,h_,_⟩=>h_) (h:=?_);simp only[lyZ];refine aoZ 15 (some 32) (fun K hK=>?_);go_simp;obtain⟨s0,s1,s2,s3⟩:=hHeld;refine(HSO.out _).mono ?_;rintro e_ q2 ⟨rfl,hb2_⟩;go_wp2_with fail;refine hK.out _ _ ?_ (fun hHeld=>?_)
   ·exact⟨s0.u hb2_,s1.u hb2_,s2.u hb2_,bu s3 hb2_⟩
   clear hK K s0 s1 s2 s3
   try simp only[lyZ]
   refine wpAnyH_take (i:=16) (oi:=⟨some 33,_,_,_,_,_⟩) (v:=_) rfl (by kernel_rfl) (by kernel_rfl) (by kernel_rfl) (fun _ _ _ h=>h) (yields_aggCmp11 .neq 30 _ _ _ rfl _ _ rfl rfl plain_st13 _ HNQ.out (by rfl)) (by assumption) ?_;simp only[lyZ];refine tkZ 17 34 (h:=?_);simp only[lyZ];refine tkZ 18 35 (h:=?_);simp only[lyZ];refine skZ 19 36 (h:=?_);simp only[lyZ];refine skZ 20 37 (h:=?_);simp only[lyZ];refine skZ 21 38 (h:=?_);simp only[lyZ];refine skZ 22 39 (h:=?_);simp only[lyZ];refine tkZ 23 40 (h:=?_);simp only[lyZ];refine dnZ ?_;have HBZ:=zq (HBWA.out.trans ((HX.out _ hHeld.2.2.2).mono HBWA.out.size));clear hHeld;go_wp2;go_ret
   exact⟨rfl,HBZ.out⟩
  |true=>
  obtain⟨sb,hsb⟩: ∃b,sectsB ms=b:=⟨_,rfl⟩
  rw[hsb]at HMO;have HSB:=zq hsb;clear hsb;refine wp_region_held_drew (S:=(fun W_=>(Has W_ (w.heap.size) 27 (tpC t a))/\(Has W_ (w.heap.size+1) 38 #[.int .i64 mr,.bool mv,.slice (some ⟨bp,op_,none⟩) pn PC,.slice AQ sn CS,.int .i64 mg])/\(Has W_ (gP) 51 #[.int .i64 pe,.int .i64 pa,.bool pr])/\(Below wb.heap.size wb W_))) (by kernel_rfl) ?_ (fun hHeld=>?_)
  ·exact⟨(H0.out _ HBB.out).draw,(H1.out _ HBB.out).draw,(HH.out _ (Below.refl _ _)).draw,below_dr11 (Below.refl _ _)⟩
  refine tkZ 0 17 (h:=?_);simp only[lyZ];refine tkZ 1 18 (h:=?_);simp only[lyZ];refine tkZ 2 19 (h:=?_);simp only[lyZ];refine tlZ 3 20 w.heap.size (tpC t a) (fun _ ⟨h_,_,_,_⟩=>h_) (h:=?_);simp only[lyZ];refine tkZ 4 21 (h:=?_);simp only[lyZ];refine tqZ 5 22 (fun w_ ⟨s0,s1,s2,s3⟩=>(show w_.cell? ⟨w.heap.size+1,2,none⟩=some (.slice (some ⟨bp,op_,none⟩) pn PC:Value)from s1.cell 2)) (h:=?_);simp only[lyZ];refine aoZ 6 (some 23) (fun K hK=>?_);go_simp;obtain⟨s0,s1,s2,s3⟩:=hHeld;refine(opispath_any t a mp (some ⟨bp,op_,none⟩) pn PC _ (HT.out _ (HX.out _ s3)) HLT.out (HP.out _ (HX.out _ s3)) (by have:=HNK.out;omega) HPC.out).mono ?_;rw[HPK.out];rintro e_ q1 ⟨rfl,hb_⟩;go_wp2_with fail;refine hK.out _ _ ?_ (fun hHeld=>?_)
  ·exact⟨s0.u hb_,s1.u hb_,s2.u hb_,bu s3 hb_⟩
  clear hK K s0 s1 s2 s3
  try simp only[lyZ]
  refine tkZ 7 24 (h:=?_);simp only[lyZ];refine tkZ 8 25 (h:=?_);simp only[lyZ];refine tkZ 9 26 (h:=?_);simp only[lyZ];refine tkZ 10 27 (h:=?_);simp only[lyZ];refine tqZ 11 28 (fun w_ ⟨s0,s1,s2,s3⟩=>(show w_.cell? ⟨w.heap.size+1,2,none⟩=some (.slice (some ⟨bp,op_,none⟩) pn PC:Value)from s1.cell 2)) (h:=?_);simp only[lyZ];refine tkZ 12 29 (h:=?_);simp only[lyZ];refine tqZ 13 30 (fun w_ ⟨s0,s1,s2,s3⟩=>And.intro ((HYC.out w_ s3).1) ((HYC.out w_ s3).2)) (h:=?_);simp only[lyZ];refine tlZ 14 31 gP #[.int .i64 pe,.int .i64 pa,.bool pr] (fun _ ⟨_,_,h_,_⟩=>h_) (h:=?_);simp only[lyZ];refine aoZ 15 (some 32) (fun K hK=>?_);go_simp;obtain⟨s0,s1,s2,s3⟩:=hHeld;refine(HSO.out _).mono ?_;rintro e_ q2 ⟨rfl,hb2_⟩;go_wp2_with fail;refine hK.out _ _ ?_ (fun hHeld=>?_)
  ·exact⟨s0.u hb2_,s1.u hb2_,s2.u hb2_,bu s3 hb2_⟩
  clear hK K s0 s1 s2 s3
  try simp only[lyZ]
  refine wpAnyH_take (i:=16) (oi:=⟨some 33,_,_,_,_,_⟩) (v:=_) rfl (by kernel_rfl) (by kernel_rfl) (by kernel_rfl) (fun _ _ _ h=>h) (yields_aggCmp11 .neq 30 _ _ _ rfl _ _ rfl rfl plain_st13 _ HNQ.out (by rfl)) (by assumption) ?_;simp only[lyZ];refine tkZ 17 34 (h:=?_);simp only[lyZ];refine tkZ 18 35 (h:=?_);simp only[lyZ];refine tkZ 19 36 (h:=?_);simp only[lyZ];refine tqZ 20 37 (fun w_ ⟨s0,s1,s2,s3⟩=>(show w_.cell? ⟨w.heap.size+1,3,none⟩=some (.slice AQ sn CS:Value)from s1.cell 3)) (h:=?_);simp only[lyZ];refine aoZ 21 (some 38) (fun K hK=>?_);go_simp;obtain⟨s0,s1,s2,s3⟩:=hHeld;refine(opsects_any ms AQ sn CS _ (HS.out _ (HX.out _ s3)) (by have:=HNK.out;omega)).mono ?_;rw[HSB.out];rintro e_ q3 ⟨rfl,hb3_⟩;go_wp2_with fail;refine hK.out _ _ ?_ (fun hHeld=>?_)
  ·exact⟨s0.u hb3_,s1.u hb3_,s2.u hb3_,bu s3 hb3_⟩
  clear hK K s0 s1 s2 s3
  try simp only[lyZ]
  refine tkZ 22 39 (h:=?_);simp only[lyZ];refine tkZ 23 40 (h:=?_);simp only[lyZ];refine dnZ ?_;obtain⟨w3,hw3⟩: ∃w,w=q3:=⟨_,rfl⟩
  subst hw3;have HB3:=zq hHeld.2.2.2;clear hHeld HNQ HYC HSO x1 x2
  cases sb with
  |false=>
   obtain rfl:R=false:=by rw[<-HMO.out];rfl
   go_wp2;go_ret
   exact⟨rfl,HBWA.out.trans ((HX.out _ HB3.out).mono HBWA.out.size)⟩
  |true=>
  have HSL:=zq (sects_lp17 HSB.out);have HOK:=zq (check_routes HLP.out.1).1;have HIN:=zq (into_ok17 HOK.out (right_iff.1 HLP.out.2.2.1).2);have HEN:=zq (entered17 HLP.out.2.2.1);have HLI:=zq (lenAt_ok HOK.out (s:=stepP ⟨pe,pa,pr⟩) (on_iff.1 (right_iff.1 HLP.out.2.2.1).2).1);unfold stepP at HEN;dsimp only at HEN;rw[HEN.out]at HEO;have HSM:=zq (sum_ok HOK.out HEB.out);obtain⟨I,hI⟩:=geZ (intoP t ⟨pe,pa,pr⟩);rw[hI]at HIN HEO HMO;obtain⟨S,hS⟩:=geZ (sumT t mp);rw[hS]at HSM HMO;have HSE:=zq hS;obtain⟨E,hE⟩:=geZ (endM (⟨mr,mv,mp,ms,mg⟩:Ma3));have HEL:=zq (show lastTo 0 ms=E from hE);rw[hE]at HEM HMO;obtain⟨D,hD⟩:=geZ (S-I);have hy0:mp[0]?=some ⟨pe,pr⟩:=by rw[HYX.out,(eqS_iff _ _).1 HFB.out]
  have hle:=head_le17 (t:=t) hy0 (fun s hs=>lenAt_ok HOK.out (HEB.out s hs));rw[HSE.out]at hle;have hin:=HIN.out;have HDB:=zq (show 0<=D/\D<=24000000 from by have h1_:=HSM.out;have h4_:=HLE.out.2;have h5_:lenAt t (stepP ⟨pe,pa,pr⟩)=lenAt t ⟨pe,pr⟩:=rfl;omega);clear hy0 hle hin;have hw1:IntKind.i64.wrap (S-I)=D:=by rw[IntKind.wrap_i64];have h1_:=HDB.out;omega
  have HW1:=zq hw1;rw[hD]at HMO;clear hI hS hE hD hw1 HSB HPK;go_upto_region 4 with fail;refine wp_region_held_drew (S:=(fun W_=>(Has W_ (w.heap.size) 27 (tpC t a))/\(Has W_ (w.heap.size+1) 38 #[.int .i64 mr,.bool mv,.slice (some ⟨bp,op_,none⟩) pn PC,.slice AQ sn CS,.int .i64 mg])/\(Has W_ (gP) 51 #[.int .i64 pe,.int .i64 pa,.bool pr])/\(Below w3.heap.size w3 W_))) (by kernel_rfl) ?_ (fun hHeld=>?_)
  ·exact⟨(H0.out _ (HX.out _ HB3.out)).draw,(H1.out _ (HX.out _ HB3.out)).draw,(HH.out _ HB3.out).draw,below_dr11 (Below.refl _ _)⟩
  refine tlZ 0 41 w.heap.size (tpC t a) (fun _ ⟨h_,_,_,_⟩=>h_) (h:=?_);simp only[lyZ];refine tkZ 1 42 (h:=?_);simp only[lyZ];refine tqZ 2 43 (fun w_ ⟨s0,s1,s2,s3⟩=>(show w_.cell? ⟨w.heap.size+1,2,none⟩=some (.slice (some ⟨bp,op_,none⟩) pn PC:Value)from s1.cell 2)) (h:=?_);simp only[lyZ];refine tlZ 4 45 w.heap.size (tpC t a) (fun _ ⟨h_,_,_,_⟩=>h_) (h:=?_);simp only[lyZ];refine tlZ 5 46 gP #[.int .i64 pe,.int .i64 pa,.bool pr] (fun _ ⟨_,_,h_,_⟩=>h_) (h:=?_);simp only[lyZ];refine aoZ 3 (some 44) (fun K hK=>?_);go_simp;obtain⟨s0,s1,s2,s3⟩:=hHeld;refine(optotal_any t a mp (some ⟨bp,op_,none⟩) pn PC _ (HT.out _ (HX.out _ (bu HB3.out s3))) (HP.out _ (HX.out _ (bu HB3.out s3))) (by have:=HNK.out;omega) HOK.out HEB.out).mono ?_;rw[HSE.out];rintro e_ q4 ⟨rfl,hb4_⟩;go_wp2_with fail;refine hK.out _ _ ?_ (fun hHeld=>?_)
  ·exact⟨s0.u hb4_,s1.u hb4_,s2.u hb4_,bu s3 hb4_⟩
  clear hK K s0 s1 s2 s3
  try simp only[lyZ]
  refine aoZ 6 (some 47) (fun K hK=>?_);go_simp;obtain⟨s0,s1,s2,s3⟩:=hHeld;refine(HEO.out _ (HX.out _ (bu HB3.out s3))).mono ?_;rintro e_ q5 ⟨rfl,hb5_⟩;go_wp2_with fail;refine hK.out _ _ ?_ (fun hHeld=>?_)
  ·exact⟨s0.u hb5_,s1.u hb5_,s2.u hb5_,bu s3 hb5_⟩
  clear hK K s0 s1 s2 s3
  try simp only[lyZ]
  refine tqZ 7 48 (fun w_ ⟨s0,s1,s2,s3⟩=>HW1.out) (h:=?_);simp only[lyZ];refine tkZ 8 7 (h:=?_);simp only[lyZ];refine dnZ ?_;obtain⟨w4,hw4⟩: ∃w,w=q5:=⟨_,rfl⟩
  subst hw4;have HB4:=zq (HB3.out.trans (hHeld.2.2.2.mono HB3.out.size));clear hHeld HW1;by_cases z1:0<=mg;rotate_left
  ·obtain rfl:R=false:=by rw[<-HMO.out,decide_eq_false z1];simp
   have z2:decide (0<=mg)=false:=decide_eq_false z1;have z3:decide (mg≥0)=false:=decide_eq_false z1;have m4:w4.cell? ⟨w.heap.size+1,4,none⟩=some (.int .i64 mg):=(H1.out w4 (HX.out _ HB4.out)).cell 4;go_upto_region 5 with fail;go_quiet (fail);go_wp2;go_ret
   exact⟨rfl,below_draws (HBWA.out.trans ((HX.out _ HB4.out).mono HBWA.out.size)) _⟩
  have z2:decide (0<=mg)=true:=decide_eq_true z1;have z3:decide (mg≥0)=true:=decide_eq_true z1;obtain⟨F,hF⟩:=geZ (D-E);have HEH:=zq (show 0<=E from by rw[<-HEL.out];exact HSL.out.1);skip;have hwf:IntKind.i64.wrap (D-E)=F:=by rw[IntKind.wrap_i64];have h1_:=HDB.out;have h2_:=HEH.out;have h3_:=HTOP.out;have h4_:=HEL.out;omega
  have HWF:=zq hwf;clear hwf;have hqe:decide (mg<=F)=R:=by rw[<-HMO.out,hF,z2];simp
  have HQE:=zq hqe;clear hqe HMO hF;go_upto_region 5 with fail;refine wp_region_held_drew (S:=(fun W_=>(Has W_ (w.heap.size) 27 (tpC t a))/\(Has W_ (w.heap.size+1) 38 #[.int .i64 mr,.bool mv,.slice (some ⟨bp,op_,none⟩) pn PC,.slice AQ sn CS,.int .i64 mg])/\(Below w4.heap.size w4 W_))) (by kernel_rfl) ?_ (fun hHeld=>?_)
  ·exact⟨(H0.out _ (HX.out _ HB4.out)).draw,(H1.out _ (HX.out _ HB4.out)).draw,below_dr11 (Below.refl _ _)⟩
  refine tkZ 0 49 (h:=?_);simp only[lyZ];refine tqZ 1 50 (fun w_ ⟨s0,s1,s2⟩=>(show w_.cell? ⟨w.heap.size+1,4,none⟩=some (.int .i64 mg:Value)from s1.cell 4)) (h:=?_);simp only[lyZ];refine tkZ 2 51 (h:=?_);simp only[lyZ];refine tkZ 3 52 (h:=?_);simp only[lyZ];refine tkZ 4 53 (h:=?_);simp only[lyZ];refine tqZ 5 54 (fun w_ ⟨s0,s1,s2⟩=>(show w_.cell? ⟨w.heap.size+1,4,none⟩=some (.int .i64 mg:Value)from s1.cell 4)) (h:=?_);simp only[lyZ];refine tkZ 6 55 (h:=?_);simp only[lyZ];refine tlZ 7 56 (w.heap.size+1) #[.int .i64 mr,.bool mv,.slice (some ⟨bp,op_,none⟩) pn PC,.slice AQ sn CS,.int .i64 mg] (fun _ ⟨_,h_,_⟩=>h_) (h:=?_);simp only[lyZ];refine aoZ 8 (some 57) (fun K hK=>?_);go_simp;obtain⟨s0,s1,s2⟩:=hHeld;refine(HEM.out _ (HS.out _ (HX.out _ (bu HB4.out s2))) (by have h1_:=HSL.out.2.1;have h2_:=HSN.out;omega)).mono ?_;rintro e_ q6 ⟨rfl,hb6_⟩;go_wp2_with fail;refine hK.out _ _ ?_ (fun hHeld=>?_)
  ·exact⟨s0.u hb6_,s1.u hb6_,bu s2 hb6_⟩
  clear hK K s0 s1 s2
  try simp only[lyZ]
  refine tqZ 9 58 (fun w_ ⟨s0,s1,s2⟩=>HWF.out) (h:=?_);simp only[lyZ];refine tkZ 10 59 (h:=?_);simp only[lyZ];refine tkZ 11 60 (h:=?_);simp only[lyZ];refine tkZ 12 4 (h:=?_);simp only[lyZ];refine dnZ ?_;have HBZ:=zq (HBWA.out.trans ((HX.out _ (HB4.out.trans (hHeld.2.2.mono HB4.out.size))).mono HBWA.out.size));clear hHeld;go_wp2;go_ret
  exact⟨by show Ending.returned (.bool (decide (mg<=F)))=_;rw[HQE.out],HBZ.out⟩
end
section
open Go.RowKit
open Go.Great
theorem OwR.draw1 {α:Type}{f:α->List Value}{k:Nat}{e:TypeId}{base:Nat}{w:World}{A:Option Addr}{n c:Nat}{l:List α}(h:OwR f k e base w A n c l):OwR f k e base w.drew A n c l:=h
theorem SlO.draw1 {α:Type}{f:α->List Value}{k:Nat}{w:World}{A:Option Addr}{n c:Nat}{l:List α}(h:SlO f k w A n c l):SlO f k w.drew A n c l:=h
theorem wp_store_cell17 {P:Program}{o:Oper}{a:Act}{w:World}{K:Act->World->Prop}{Q:Exit->Act->World->Prop}(ty:TypeId)(x y:Operand)(ho:o.op= .store ty x y)
  (g i:Nat) (v:Value) (hx:a.eval x= .pointer (some ⟨g,i,none⟩)) (hy:a.eval y=v) (t:TypeId) (old:Array Value) (hg:Has w g t old) (hio:i<old.size) (hi:(P.info? ty).map (·.size)=some 1)
  (h1:v.oneCell'=true) (new:Array Value) (hn:(old.toList.take i++[v]++old.toList.drop (i+1)).toArray=new) (h:K (a.put o.dst undef) (w.setRow g new)):o.wp P a w K Q:=by
 have hc:v.cells=#[v]:=by cases v<;>first|rfl|cases h1
 have hst:=run_storeCells_at P g i t [v] 0 old w hg (by simp;omega) (fun u hu=>by simp at hu;subst hu;exact h1);have hrun:(storeVar ty ⟨g,i,none⟩ v).run P w= .ok () (w.setRow g new):=by
  cases hq:P.info? ty with
  |none=>simp[hq]at hi
  |some j=>
   have hs:j.size=1:=by simpa[hq]using hi
   simp only[Nat.add_zero,List.length_singleton]at hst;rw[hn]at hst;simp[storeVar,sizeOf,typeInfo,hq,hc,hs,hst]
 unfold Oper.wp execOp;simp only[ho,hx,hy,Instr.storeAt,Instr.sureAddr,Sem.run_bind,Sem.run_pure,Result.andThen_ok,hrun];exact h
theorem wp_store_one17 {P:Program}{o:Oper}{a:Act}{w:World}{K:Act->World->Prop}{Q:Exit->Act->World->Prop}(ty:TypeId)(x y:Operand)(ho:o.op= .store ty x y)
  (g:Nat) (v:Value) (hx:a.eval x= .pointer (some ⟨g,0,none⟩)) (hy:a.eval y=v) (t:TypeId) (old:Array Value) (hg:Has w g t old) (hold:old.size=1) (hi:(P.info? ty).map (·.size)=some 1)
  (h1:v.oneCell'=true) (h:K (a.put o.dst undef) (w.setRow g #[v])):o.wp P a w K Q:=
 wp_store_cell17 ty x y ho g 0 v hx hy t old hg (by omega) hi h1 #[v] (by
  have:old.toList.length=1:=by simpa using hold
  obtain⟨u,hu⟩:=List.length_eq_one_iff.1 this;rw[hu]
  rfl) h
theorem wpList_store_cell17 {P:Program}{ops:Array Oper}{rest:List Oper}{o:Oper}{a:Act}{w:World}{Q:Exit->Act->World->Prop}(hgd:o.guard=none)(ty:TypeId)(x y:Operand)(ho:o.op= .store ty x y)
  (g i:Nat) (v:Value) (hx:a.eval x= .pointer (some ⟨g,i,none⟩)) (hy:a.eval y=v) (t:TypeId) (old:Array Value) (hg:Has w g t old) (hio:i<old.size) (hi:(P.info? ty).map (·.size)=some 1)
  (h1:v.oneCell'=true) (new:Array Value) (hn:(old.toList.take i++[v]++old.toList.drop (i+1)).toArray=new) (h:wpList P ops Q rest (a.put o.dst undef) (w.setRow g new)):wpList P ops Q (o::rest) a w:=
 wpList_plain hgd fun _ hK=>wp_store_cell17 ty x y ho g i v hx hy t old hg hio hi h1 new hn (hK _ _ h)
theorem opc1_any (route:List St3)(s:St3)(A:Option Addr)(n c:Nat)(g:Nat)(w:World)(hg:Has w g 30 (stA13 s))(hs:SlO stC 2 w A n c route)(hn:n<=1048576):
  Calls Tryz.prog 41 #[.slice A n c,.pointer (some ⟨g,0,none⟩)] w fun r w'=>r= .returned (.bool (amongB route s))/\Below w.heap.size w w':=by
 have H:=zq (ocons_any route s A n c w hs hn);have HG:=zq hg;generalize amongB route s=R at*;clear hg hs;go_enter Tryz.func41,Tryz.ntmps41;go_wp2_with (with_reducible refine ldZ 5 HG.out ?_);refine H.out.mono ?_;rintro e_ w1 ⟨rfl,hb1⟩;have HB1:=zq hb1;clear hb1 H HG;go_wp2;go_ret
 exact⟨rfl,HB1.out⟩
theorem opc3_any (route steps path:List St3)(A B C:Option Addr)(n c m d k x:Nat)(ga gp:Nat)(w:World)(ha:Has w ga 35 #[.slice B m d])(hp:Has w gp 35 #[.slice C k x])(hr:SlO stC 2 w A n c route)(hs:SlO stC 2 w B m d steps)(hq:SlO stC 2 w C k x path)(hn:n<=1048576)(hm:m<=1048576)(hk:k<=1048576):
  Calls Tryz.prog 46 #[.slice A n c,.pointer (some ⟨ga,0,none⟩),.pointer (some ⟨gp,0,none⟩)] w fun r w'=>r= .returned (.bool (beginsO route steps &&!meetsO route path))/\Below w.heap.size w w':=by
 have a0:w.cell? ⟨ga,0,none⟩=some (.slice B m d):=ha.cell 0;have HP:=zq hp;have H:=zq (opbegins_any route steps A B n c m d w hr hs hm);have HM:=zq (fun W (hW:Below w.heap.size w W)=>opmeets_any route path A C n c k x W (hr.under hW) (hq.under hW) hn hk);generalize beginsO route steps=b1 at*;generalize meetsO route path=b2 at*;clear ha hp hr hs hq;go_enter Tryz.func46,Tryz.ntmps46;go_wp2_with fail;refine H.out.mono ?_;rintro e_ w1 ⟨rfl,hb1⟩;have HB1:=zq hb1;have p0:w1.cell? ⟨gp,0,none⟩=some (.slice C k x):=(HP.out.u hb1).cell 0;have HM1:=zq (HM.out w1 hb1);clear hb1 a0 H HM HP
 cases b1 with
 |false=>
  go_wp2;go_ret
  exact⟨rfl,HB1.out⟩
 |true=>
  go_wp2_with fail;refine HM1.out.mono ?_;rintro e_ w2 ⟨rfl,hb2⟩;have HB2:=tB HB1 hb2;clear hb2 p0;go_wp2;go_ret
  exact⟨by simp,HB2.out⟩
theorem opc2a_any (t:Tp3)(a:TpA)(k:Lc3)(s:St3)(gs:Nat)(gf gt:Nat)(w:World)(ht:TopR w t a)(hl:lightT t=true)(hF:Has w gf 84 #[.func (.func 41) #[] #[.pointer (some ⟨gs,0,none⟩)]])(hT:Has w gt 27 (tpC t a))(hS:Has w gs 30 (stA13 s)):
  Calls Tryz.prog 44 #[.agg (lcA k),.pointer (some ⟨gf,0,none⟩),.pointer (some ⟨gt,0,none⟩)] w fun r w'=>r= .returned (.bool (amongB (pathR t k.route) s))/\Below w.heap.size w w':=by
 obtain⟨kr,kt,kn⟩:=k;have HPO:=zq (fun W (hW:Below w.heap.size w W)=>oppath_any t a ⟨kr,kt,kn⟩ W (ht.under hW) hl);have HPF:=zq (path_few17 hl kr);unfold lcA at HPO⊢;dsimp only at HPO⊢;obtain⟨rp,hrp⟩: ∃p,pathR t kr=p:=⟨_,rfl⟩
 rw[hrp]at HPO HPF⊢;clear hrp;obtain⟨wa,hwa,hbwa,HWA,HBWA,h0⟩:=bx1Z w 73 #[.int .i64 kr,.int .i64 kt,.int .i64 kn];have HF:=zq (hF.u hbwa);have HTT:=zq (hT.u hbwa);have HL0:=zq h0;have HSS:=zq (hS.u hbwa);clear hS;clear hwa hbwa h0 hF hT ht hl;go_enter Tryz.func44,Tryz.ntmps44;go_upto_region 1 with fail;rw[HWA.out];clear HWA;refine wp_region_held_drew (S:=(fun W_=>(Has W_ (gf) 84 #[.func (.func 41) #[] #[.pointer (some ⟨gs,0,none⟩)]])/\(Has W_ (gt) 27 (tpC t a))/\(Has W_ (w.heap.size) 73 #[.int .i64 kr,.int .i64 kt,.int .i64 kn])/\(Below wa.heap.size wa W_)/\(Has W_ (gs) 30 (stA13 s)))) (by kernel_rfl) ?_ (fun hHeld=>?_)
 ·exact⟨HF.out.draw,HTT.out.draw,HL0.out.draw,below_dr11 (Below.refl _ _),HSS.out.draw⟩
 refine tqZ 0 5 (fun w_ ⟨s0,s1,s2,s3,s4⟩=>(show w_.cell? ⟨gf,0,none⟩=some (.func (.func 41) #[] #[.pointer (some ⟨gs,0,none⟩)]:Value)from s0.cell 0)) (h:=?_);simp only[lyZ];refine tlZ 1 6 gt (tpC t a) (fun _ ⟨_,h_,_,_,_⟩=>h_) (h:=?_);simp only[lyZ];refine tlZ 2 7 w.heap.size #[.int .i64 kr,.int .i64 kt,.int .i64 kn] (fun _ ⟨_,_,h_,_,_⟩=>h_) (h:=?_);simp only[lyZ];refine aoZ 3 (some 8) (fun K hK=>?_);go_simp;obtain⟨s0,s1,s2,s3,s4⟩:=hHeld;refine(HPO.out _ (bu HBWA.out s3)).mono ?_;rintro e_ q1 ⟨X,x,rfl,hsl_,hb_⟩;have HSL:=zq (hsl_);go_wp2_with fail;refine hK.out _ _ ?_ (fun hHeld=>?_)
 ·exact⟨s0.u hb_,s1.u hb_,s2.u hb_,bu s3 hb_,s4.u hb_⟩
 clear hK K s0 s1 s2 s3 s4
 try simp only[lyZ]
 refine aoZ 4 (some 9) (fun K hK=>?_);go_simp;obtain⟨s0,s1,s2,s3,s4⟩:=hHeld;refine(opc1_any rp s X _ x gs _ s4 HSL.out (by have:=HPF.out;omega)).mono ?_;rintro e_ q2 ⟨rfl,hb2_⟩;have HSL:=zq (HSL.out.under hb2_);go_wp2_with fail;refine hK.out _ _ ?_ (fun hHeld=>?_)
 ·exact⟨s0.u hb2_,s1.u hb2_,s2.u hb2_,bu s3 hb2_,s4.u hb2_⟩
 clear hK K s0 s1 s2 s3 s4
 try simp only[lyZ]
 refine tkZ 5 4 (h:=?_);simp only[lyZ];refine dnZ ?_;have HB1:=zq (HBWA.out.trans (hHeld.2.2.2.1.mono HBWA.out.size));clear hHeld;go_wp2;go_ret
 exact⟨rfl,HB1.out⟩
theorem opc2b_any (t:Tp3)(a:TpA)(k:Lc3)(steps path:List St3)(B C:Option Addr)(m d j x:Nat)(ga gp:Nat)(gf gt:Nat)(w:World)(ht:TopR w t a)(hl:lightT t=true)(hF:Has w gf 84 #[.func (.func 46) #[] #[.pointer (some ⟨ga,0,none⟩),.pointer (some ⟨gp,0,none⟩)]])(hT:Has w gt 27 (tpC t a))(ha:Has w ga 35 #[.slice B m d])(hp:Has w gp 35 #[.slice C j x])(hs:SlO stC 2 w B m d steps)(hq:SlO stC 2 w C j x path)(hm:m<=1048576)(hj:j<=1048576):
  Calls Tryz.prog 44 #[.agg (lcA k),.pointer (some ⟨gf,0,none⟩),.pointer (some ⟨gt,0,none⟩)] w fun r w'=>r= .returned (.bool (beginsO (pathR t k.route) steps &&!meetsO (pathR t k.route) path))/\Below w.heap.size w w':=by
 obtain⟨kr,kt,kn⟩:=k;have HPO:=zq (fun W (hW:Below w.heap.size w W)=>oppath_any t a ⟨kr,kt,kn⟩ W (ht.under hW) hl);have HPF:=zq (path_few17 hl kr);unfold lcA at HPO⊢;dsimp only at HPO⊢;obtain⟨rp,hrp⟩: ∃p,pathR t kr=p:=⟨_,rfl⟩
 rw[hrp]at HPO HPF⊢;clear hrp;obtain⟨wa,hwa,hbwa,HWA,HBWA,h0⟩:=bx1Z w 73 #[.int .i64 kr,.int .i64 kt,.int .i64 kn];have HF:=zq (hF.u hbwa);have HTT:=zq (hT.u hbwa);have HL0:=zq h0;have HA:=zq (ha.u hbwa);have HP:=zq (hp.u hbwa);have HS:=zq (fun W (hW:Below w.heap.size w W)=>hs.under hW);have HQ:=zq (fun W (hW:Below w.heap.size w W)=>hq.under hW);clear ha hp hs hq;clear hwa hbwa h0 hF hT ht hl;go_enter Tryz.func44,Tryz.ntmps44;go_upto_region 1 with fail;rw[HWA.out];clear HWA;refine wp_region_held_drew (S:=(fun W_=>(Has W_ (gf) 84 #[.func (.func 46) #[] #[.pointer (some ⟨ga,0,none⟩),.pointer (some ⟨gp,0,none⟩)]])/\(Has W_ (gt) 27 (tpC t a))/\(Has W_ (w.heap.size) 73 #[.int .i64 kr,.int .i64 kt,.int .i64 kn])/\(Below wa.heap.size wa W_)/\(Has W_ (ga) 35 #[.slice B m d])/\(Has W_ (gp) 35 #[.slice C j x]))) (by kernel_rfl) ?_ (fun hHeld=>?_)
 ·exact⟨HF.out.draw,HTT.out.draw,HL0.out.draw,below_dr11 (Below.refl _ _),HA.out.draw,HP.out.draw⟩
 refine tqZ 0 5 (fun w_ ⟨s0,s1,s2,s3,s4,s5⟩=>(show w_.cell? ⟨gf,0,none⟩=some (.func (.func 46) #[] #[.pointer (some ⟨ga,0,none⟩),.pointer (some ⟨gp,0,none⟩)]:Value)from s0.cell 0)) (h:=?_);simp only[lyZ];refine tlZ 1 6 gt (tpC t a) (fun _ ⟨_,h_,_,_,_,_⟩=>h_) (h:=?_);simp only[lyZ];refine tlZ 2 7 w.heap.size #[.int .i64 kr,.int .i64 kt,.int .i64 kn] (fun _ ⟨_,_,h_,_,_,_⟩=>h_) (h:=?_);simp only[lyZ];refine aoZ 3 (some 8) (fun K hK=>?_);go_simp;obtain⟨s0,s1,s2,s3,s4,s5⟩:=hHeld;refine(HPO.out _ (bu HBWA.out s3)).mono ?_;rintro e_ q1 ⟨X,x_,rfl,hsl_,hb_⟩;have HSL:=zq (hsl_);go_wp2_with fail;refine hK.out _ _ ?_ (fun hHeld=>?_)
 ·exact⟨s0.u hb_,s1.u hb_,s2.u hb_,bu s3 hb_,s4.u hb_,s5.u hb_⟩
 clear hK K s0 s1 s2 s3 s4 s5
 try simp only[lyZ]
 refine aoZ 4 (some 9) (fun K hK=>?_);go_simp;obtain⟨s0,s1,s2,s3,s4,s5⟩:=hHeld;refine(opc3_any rp steps path X B C _ x_ m d j x ga gp _ s4 s5 HSL.out (HS.out _ (bu HBWA.out s3)) (HQ.out _ (bu HBWA.out s3)) (by have:=HPF.out;omega) hm hj).mono ?_;rintro e_ q2 ⟨rfl,hb2_⟩;have HSL:=zq (HSL.out.under hb2_);go_wp2_with fail;refine hK.out _ _ ?_ (fun hHeld=>?_)
 ·exact⟨s0.u hb2_,s1.u hb2_,s2.u hb2_,bu s3 hb2_,s4.u hb2_,s5.u hb2_⟩
 clear hK K s0 s1 s2 s3 s4 s5
 try simp only[lyZ]
 refine tkZ 5 4 (h:=?_);simp only[lyZ];refine dnZ ?_;have HB1:=zq (HBWA.out.trans (hHeld.2.2.2.1.mono HBWA.out.size));clear hHeld;go_wp2;go_ret
 exact⟨rfl,HB1.out⟩
theorem oix_c2 (p:Lc3->Bool)(l:List Lc3)(A:Option Addr)(n c:Nat)(gf gt:Nat)(w:World)(hs:SlO lcC 3 w A n c l)(hbig:n<=1048576)
  (HE:Hid (∀(x:Lc3) W,Below w.heap.size w W->Calls Tryz.prog 44 #[.agg (lcA x),.pointer (some ⟨gf,0,none⟩),.pointer (some ⟨gt,0,none⟩)] W fun e w'=>e= .returned (.bool (p x))/\Below W.heap.size W w')):
  Calls Tryz.prog 43 #[.slice A n c,.func (.func 44) #[] #[.pointer (some ⟨gf,0,none⟩),.pointer (some ⟨gt,0,none⟩)]] w fun e w'=>e= .returned (.int .i64 (idxL p l))/\Below w.heap.size w w':=by
 try unfold lcA at HE
 have HN:Hid (l.length=n):=zq hs.len13;have HW:=zq hs;clear hs;have x0:(0:Int)<=n:=by omega
 obtain⟨R,hR⟩:=geZ (idxL p l);have HR:=zq hR;rw[hR];clear hR;go_enter Tryz.func43,Tryz.ntmps43;go_wp2;go_loopg [8] n (fun kk v wl=> ∃j:Nat,j<=n/\n-j<=kk/\v= .int .i64 j/\Hid (∀i x,i<j->l[i]?=some x->p x=false)/\Hid (Below w.heap.size w wl))
 case atStart=>exact⟨0,by omega,by omega,rfl,zq fun i x h=>absurd h (by omega),zq (Below.refl _ _)⟩
 obtain⟨j,hj,hjk,rfl,HNO,HBL⟩:=hrel;by_cases hlt:j<n
 ·obtain⟨x,hx⟩:=glZ l (j) (by rw[HN.out];omega)
  obtain⟨bk,off,rfl,d0,d1,d2⟩:=(HW.out.under HBL.out).lock hx;have HX:=zq hx;have y0:(0:Int)<=j:=by omega
  have y1:(j:Int)<n:=by omega
  have HC:=zq (HE.out x wr HBL.out);clear hx;generalize hb:p x=b at*;have HBE:=zq hb;clear hb
  cases b with
  |true=>
   have HF:Hid (R=j):=zq (by rw[<-HR.out];exact idx_hit HX.out HBE.out HNO.out);go_upto_region 4 with fail;go_wp2_with fail;refine HC.out.mono ?_;rintro e w1 ⟨rfl,hb1⟩;have HB1:=tB HBL hb1;clear hb1 d0 d1 d2 HBE HNO;go_wp2;go_ret
   exact⟨by rw[HF.out];rfl,HB1.out⟩
  |false=>
   go_upto_region 4 with fail;go_wp2_with fail;refine HC.out.mono ?_;rintro e w1 ⟨rfl,hb1⟩;have HB1:=tB HBL hb1;have HN2:Hid (∀i y,i<j+1->l[i]?=some y->p y=false):=zq fun i y hi hy=>by
    by_cases h:i=j
    ·subst h;rw[HX.out]at hy;cases hy;exact HBE.out
    ·exact HNO.out i y (by omega) hy
   clear hb1 d0 d1 d2 HBE HNO;go_wp2;go_roundg (gk-1)
   case measure=>omega
   case rel=>exact⟨j+1,by omega,by omega,by go_num,HN2,HB1⟩
 ·have y1: ¬(j:Int)<n:=by omega
  have HF:Hid (R= -1):=zq (by rw[<-HR.out];exact idx_miss fun i y hi hy=>HNO.out i y (by have:=HN.out;omega) hy);go_wp2;go_ret
  exact⟨by rw[HF.out];rfl,HBL.out⟩
theorem after_few17 {t:Tp3}(s:St3):(afterL t s).length<=2*t.edges.length:=by
 unfold afterL;split
 ·have h: ∀L:List Nat,(L.flatMap (stepsAt t s)).length<=2*L.length:=fun L=>by
   induction L with
   |nil=>simp
   |cons x r ih=>
    rw[List.flatMap_cons,List.length_append,List.length_cons];have h1:(stepsAt t s x).length<=2:=by
     unfold stepsAt;rw[List.length_append];split<;>split<;>simp
    omega
  have h2:=h (List.range t.edges.length);rw[List.length_range]at h2;exact h2
 ·simp
structure FitsR17 (W:World) (t:Tp3) (out:List Lc3) (gf gs gp:Nat):Prop where
 first:out=[]->Has W gf 84 #[.func (.func 41) #[] #[.pointer (some ⟨gs,0,none⟩)]]
 next:out≠[]-> ∃ga B m d,Has W ga 35 #[.slice B m d]/\SlO stC 2 W B m d (afterL t (lastS (wayC t out)))/\m<=1048576/\Has W gf 84 #[.func (.func 46) #[] #[.pointer (some ⟨ga,0,none⟩),.pointer (some ⟨gp,0,none⟩)]]
theorem FitsR17.under {W W':World}{t:Tp3}{out:List Lc3}{gf gs gp:Nat}(h:FitsR17 W t out gf gs gp)(hb:Below W.heap.size W W'):FitsR17 W' t out gf gs gp:=
 ⟨fun e=>(h.first e).under hb (h.first e).lt,fun e=>by
  obtain⟨ga,B,m,d,h1,h2,h3,h4⟩:=h.next e;exact⟨ga,B,m,d,h1.u hb,h2.under hb,h3,h4.u hb⟩⟩
theorem FitsR17.cell {W:World}{t:Tp3}{out:List Lc3}{gf gs gp:Nat}(h:FitsR17 W t out gf gs gp): ∃v,Has W gf 84 #[v]/\isBool17 v=false:=by
 by_cases e:out=[]
 ·exact⟨_,h.first e,rfl⟩
 ·obtain⟨ga,B,m,d,h1,h2,h3,h4⟩:=h.next e
  exact⟨_,h4,rfl⟩
theorem opc2_any (t:Tp3)(a:TpA)(out:List Lc3)(s:St3)(k:Lc3)(gf gt gs gp:Nat)(PX:Option Addr)(pn px:Nat)(w:World)(ht:TopR w t a)(hl:lightT t=true)(hF:FitsR17 w t out gf gs gp)(hT:Has w gt 27 (tpC t a))(hS:Has w gs 30 (stA13 s))(hp:Has w gp 35 #[.slice PX pn px])(hq:SlO stC 2 w PX pn px (wayC t out))(hpn:pn<=1048576):
  Calls Tryz.prog 44 #[.agg (lcA k),.pointer (some ⟨gf,0,none⟩),.pointer (some ⟨gt,0,none⟩)] w fun r w'=>r= .returned (.bool (fitsO t s out (pathR t k.route)))/\Below w.heap.size w w':=by
 by_cases e:out=[]
 ·have h:=opc2a_any t a k s gs gf gt w ht hl (hF.first e) hT hS
  unfold fitsO;rw[if_pos (by rw[e];rfl)];exact h
 ·obtain⟨ga,B,m,d,h1,h2,h3,h4⟩:=hF.next e
  have h:=opc2b_any t a k _ (wayC t out) B PX m d pn px ga gp gf gt w ht hl h4 hT h1 hp h2 hq h3 hpn;unfold fitsO;rw[if_neg (by cases out with|nil=>exact absurd rfl e|cons _ _=>simp)];exact h
theorem SlO.lockA {w:World}{b off n c:Nat}{l:List Lc3}(h:SlO lcC 3 w (some ⟨b,off,none⟩) n c l){j:Nat}{x:Lc3}(hx:l[j]?=some x):w.cell? ⟨b,off+j*3,none⟩=some (.int .i64 x.route)/\w.cell? ⟨b,off+j*3+1,none⟩=some (.int .i64 x.train)/\w.cell? ⟨b,off+j*3+2,none⟩=some (.int .i64 x.no):=by
 obtain⟨b',o',e,h1,h2,h3⟩:=h.lock hx;injection e with e
 injection e with e1 e2 _
 subst e1 e2;exact⟨h1,h2,h3⟩
theorem opn_chain (t:Tp3)(a:TpA)(l:List Lc3)(train:Int)(s:St3)(A:Option Addr)(n c:Nat)(w:World)(ht:TopR w t a)(hl:lightT t=true)(hcj:t.joints.length<=a.cj)(hs:SlO lcC 3 w A n c l)(_:n<=c)(hn:n<=100):Calls Tryz.prog 12 #[.agg (tpC t a),.slice A n c,.int .i64 train,.agg (stA13 s)] w fun r w'=> ∃X x,r= .returned (.slice X (chainL t l train s).length x)/\LkT w' X (chainL t l train s).length x (chainL t l train s)/\Below w.heap.size w w':=by
 obtain⟨wa,hwa,hbwa,HWA,HBWA,h0,h1⟩:=bx2Z w 27 (tpC t a) 30 (stA13 s);have HT:=zq (fun W (hW:Below wa.heap.size wa W)=>(ht.under hbwa).under hW);have H0:=zH h0;have H1:=zH h1;have HLT:=zq hl;have HCJ:=zq hcj;have HS:=zq (fun W (hW:Below wa.heap.size wa W)=>(hs.under hbwa).under hW);have HL:=zq hs.1;have HNB:=zq hn;have HBZ:=zq hbwa.size;obtain⟨CL,hCL⟩: ∃L,chainL t l train s=L:=⟨_,rfl⟩
 rw[hCL];have HCL:=zq hCL;clear hwa hbwa h0 h1 ht hl hcj hs hn hCL;go_enter Tryz.func12,Tryz.ntmps12;go_upto_region 1 with fail;rw[HWA.out];clear HWA;go_wp2_with (with_reducible refine ldZ 15 (H0.out wa (Below.refl _ _)) ?_);refine(otp_check t a wa (HT.out _ (Below.refl _ _)) HLT.out HCJ.out).mono ?_;rintro e_ w1 ⟨rfl,hb1⟩;have HB1:=zq hb1;clear hb1;by_cases z0:checkE t=0;rotate_left
 ·have q0:(checkE t !=0)=true:=by simp[z0]
  obtain rfl:CL=[]:=by rw[<-HCL.out];unfold chainL;rw[if_neg z0]
  go_wp2;go_ret
  exact⟨none,0,rfl,LkT.none _,HBWA.out.trans (HB1.out.mono HBWA.out.size)⟩
 have HZ:=zq z0;have HCG:=zq (show chainGo t l train s 8 []=CL from by rw[<-HCL.out];unfold chainL;rw[if_pos z0]);rw[z0];clear z0 HCL;go_wp2_with fail;refine(oolof_any l train A n c w1 (HS.out w1 HB1.out) (by have:=HNB.out;omega)).mono ?_;rintro e_ w2 ⟨X0,k0,x0,rfl,ho,hb2⟩;have HKB:Hid (k0<=100):=zq (by have h0_:=ho.1.1;have h1_:=HL.out;have h2_:=HNB.out;have h3_:(ofL l train).length<=l.length:=List.length_filter_le _ _;omega);have HB2:=tB HB1 hb2;obtain⟨O,hO⟩:=geZ (ofL l train);rw[hO]at ho;have HOL:=zq hO;have HO2:=zq ho.1;clear ho hb2 hO HB1;go_upto_region 6 with fail;obtain⟨u1,hu1⟩: ∃u,w2.alloc (.cells #[.slice none 0 0] 35)=u:=⟨_,rfl⟩
 rw[hu1];have hH1:Has u1 w2.heap.size 35 #[.slice none 0 0]:=by rw[<-hu1];exact Has.made _ _ _
 have hbu1:Below w2.heap.size w2 u1:=by rw[<-hu1];exact bA
 have hsz1:u1.heap.size=w2.heap.size+1:=by rw[<-hu1];simp
 clear hu1;obtain⟨gp,hgp⟩: ∃g,w2.heap.size=g:=⟨_,rfl⟩
 rw[hgp]at hH1 hsz1;simp only[hgp];have HGE:=zq hgp;clear hgp;have hm_:Has (u1.alloc (.cells #[.nilFunc] 84)) (gp+1) 84 #[.nilFunc]:=has_at11 hsz1;have HM:=zq hm_;obtain⟨u2,hu2⟩: ∃u,(u1.alloc (.cells #[.nilFunc] 84)).setRow (gp+1) #[.func (.func 41) #[] #[.pointer (some ⟨w.heap.size+1,0,none⟩)]]=u:=⟨_,rfl⟩
 have hbu2:Below w2.heap.size w2 u2:=by rw[<-hu2];exact below_row (g:=gp+1) (hbu1.alloc hbu1.size _) (by have:=hbu1.size;omega) _
 have HGF:=zq (show Has u2 (gp+1) 84 #[.func (.func 41) #[] #[.pointer (some ⟨w.heap.size+1,0,none⟩)]]from by rw[<-hu2];exact has_row11 hm_ _);have HPB:=zq (show Has u2 gp 35 #[.slice none 0 0]from by rw[<-hu2];exact has_rowo11 (hH1.beside _) (by omega) _);have HSZ:=zq (show u2.heap.size=gp+2/\w2.heap.size<=gp from by rw[<-hu2];refine⟨by simp;omega,by have:=HGE.out;omega⟩);have HU2:=zq hu2;have HBU:=zq (show Below wa.heap.size wa u2/\Below w2.heap.size w2 u2/\u2.heap.size<=u2.heap.size from⟨bu HB2.out hbu2,hbu2,Nat.le_refl _⟩);have HG0:=zq (show w.heap.size+1<w2.heap.size from by have h1_:=HBZ.out;have h2_:=HB2.out.size;have h3_:=(H1.out wa (Below.refl _ _)).lt;omega);clear hu2 hbu2 hm_ hbu1 hH1;go_upto_region 7 with(with_reducible refine wpList_store_cell17 (o:=⟨none,_,_,_,_,_⟩) rfl 84 _ _ rfl (gp+1) 0 (.func (.func 41) #[] #[.pointer (some ⟨w.heap.size+1,0,none⟩)]) rfl rfl 84 #[.nilFunc] HM.out (Nat.le_of_ble_eq_true rfl) (by kernel_rfl) rfl #[.func (.func 41) #[] #[.pointer (some ⟨w.heap.size+1,0,none⟩)]] rfl ?_)
 rw[HU2.out];clear HU2 HM hsz1;obtain⟨gf,hgf⟩: ∃g,gp+1=g:=⟨_,rfl⟩
 rw[hgf]at HGF;simp only[hgf];have HGP:=zq hgf;clear hgf
 try simp only[Act.put]
 go_loopg [10] 8 (fun kk v10 wl=> ∃(k:Nat) (X:Option Addr) (x:Nat) (out:List Lc3) (PX:Option Addr) (pn px:Nat),k<=8/\8-k<=kk/\v10= .slice X k x/\Hid (chainGo t l train s (8-k) out=CL)/\Hid (ChainP t l train s out)/\Hid (OwR lcC 3 73 u2.heap.size wl X k x out)/\Hid (Has wl gp 35 #[.slice PX pn px])/\Hid (OwR stC 2 30 u2.heap.size wl PX pn px (wayC t out))/\Hid (FitsR17 wl t out gf (w.heap.size+1) gp)/\Hid (Below wa.heap.size wa wl/\Below w2.heap.size w2 wl/\u2.heap.size<=wl.heap.size))
 case atStart=>exact⟨0,none,0,[],none,0,0,by omega,by omega,rfl,HCG,zq .nil,zq (OwR.nil _ _ _ _ _),HPB,zq (OwR.nil _ _ _ _ _),zq ⟨fun _=>HGF.out,fun h=>absurd rfl h⟩,HBU⟩
 clear HCG HPB HGF HBU;obtain⟨k,X,x,out,PX,pn,px,hk,hkk,rfl,HCG,HCP,HOC,HPB,HPO,HFT,HBU⟩:=hrel;obtain⟨k1,hk1⟩: ∃k1,k1=gk:=⟨_,rfl⟩
 subst hk1;obtain⟨wv,hwv⟩: ∃wv,wv=wr:=⟨_,rfl⟩
 subst hwv;have HK8:=zq (show k<=8/\8-k<=k1 from⟨hk,hkk⟩);have HB:=zq HBU.out.1;by_cases z1:k<8;rotate_left
 ·have z1': ¬(k:Int)<8:=by omega
  have HF:=zq (show out=CL from by have h_:=HCG.out;rw[chain_stop17 (.inl z1)]at h_;exact h_);clear hk hkk;go_wp2;go_ret
  have hl_:CL.length=k:=by rw[<-HF.out];exact HOC.out.2
  rw[hl_,<-HF.out];exact⟨X,x,rfl,LkT.of_own HOC.out,HBWA.out.trans (HB.out.mono HBWA.out.size)⟩
 have z1':(k:Int)<8:=by omega
 have HK1:=zq z1;clear z1;have HFD:=zq (find_own17 HZ.out HCP.out);rw[HOL.out]at HFD;obtain⟨pw,hpw⟩: ∃p,wayC t out=p:=⟨_,rfl⟩
 have HPW:=zq hpw;have HPF:=zq (show pn<=800 from by have h1_:=way_few17 HLT.out out;have h2_:=HPO.out.2;have h3_:=HOC.out.2;omega);have HPO1:=zq (show OwR stC 2 30 u2.heap.size wv PX pn px pw from by rw[<-hpw];exact HPO.out);have HIX:=zq (oix_c2 (fun y=>fitsO t s out (pathR t y.route)) O X0 k0 x0 gf (w.heap.size) wv (HO2.out.under HBU.out.2.1) (by have:=HKB.out;omega) (zq fun y W hW=>opc2_any t a out s y gf (w.heap.size) (w.heap.size+1) gp PX pn px W (HT.out W (bu HB.out hW)) HLT.out (HFT.out.under hW) (H0.out W (bu HB.out hW)) (H1.out W (bu HB.out hW)) (HPB.out.u hW) ((HPO.out.under hW).sl) (by have:=HPF.out;omega)));clear hpw
 rcases idxA_spec (fun y=>fitsO t s out (pathR t y.route)) O 0 with⟨h1,h2⟩|⟨i,y,h1,h2,h3,h4⟩
 ·have hfn:l.find? (okC t train s out)=none:=by rw[HFD.out,List.find?_eq_none];intro z hz;obtain⟨j,hj,rfl⟩:=List.getElem_of_mem hz;rw[h2 j _ (List.getElem?_eq_getElem hj)];decide
  rw[show idxL (fun y=>fitsO t s out (pathR t y.route)) O= -1 from h1]at HIX;clear h1 h2;go_upto_region 8 with fail;clear z1';go_wp2_with fail;refine HIX.out.mono ?_;rintro e_ w5 ⟨rfl,hb5⟩;have HOC5:=zq (HOC.out.under hb5);have HB5:=tB HB hb5;clear hb5 HIX;have HF:=zq (show out=CL from by have h_:=HCG.out;rw[chain_stop17 (.inr hfn)]at h_;exact h_);clear hk hkk;go_wp2;go_ret
  have hl_:CL.length=k:=by rw[<-HF.out];exact HOC5.out.2
  rw[hl_,<-HF.out];exact⟨X,x,rfl,LkT.of_own HOC5.out,HBWA.out.trans (HB5.out.mono HBWA.out.size)⟩
 have e0:idxL (fun y=>fitsO t s out (pathR t y.route)) O=(i:Int):=by unfold idxL;rw[h4];congr 1;omega
 rw[e0]at HIX;have HFO:=zq (show l.find? (okC t train s out)=some y from HFD.out.trans (find_some17 h1 h2 h3));have hik:i<k0:=by have h_:=(List.getElem?_eq_some_iff.1 h1).1;have:=HO2.out.1;omega
 have HYI:=zq h1;have HIK:=zq (show i<k0/\k0<=100 from⟨hik,HKB.out⟩);have x1:(i:Int)<k0:=by omega
 have x2:(0:Int)<=i:=by omega
 have x3: ¬(i:Int)<0:=by omega
 clear h1 h2 h3 h4 e0 hik HFD;go_upto_region 8 with fail;clear z1';go_wp2_with fail;refine HIX.out.mono ?_;rintro e_ w5 ⟨rfl,hb5⟩;have HB5:=tB HB hb5;have HU5:=zq (show Below w2.heap.size w2 w5/\u2.heap.size<=w5.heap.size from⟨HBU.out.2.1.trans (hb5.mono HBU.out.2.1.size),Nat.le_trans HBU.out.2.2 hb5.size⟩);have HOC5:=zq (HOC.out.under hb5);have HPO5:=zq (HPO1.out.under hb5);have HPB5:=uH HPB hb5;obtain⟨fv,hfv,hfb⟩:=(HFT.out.under hb5).cell;have HFB:=zq (show noB17 #[fv]=true from by unfold noB17;simp[hfb]);have HFV:=zq hfv;clear hb5 hfv hfb HIX HFT HPB HOC HPO HPO1;obtain⟨bk,off,rfl,d0,d1,d2⟩:=(HO2.out.under HU5.out.1).lock HYI.out;have HLC:=zq (fun W (hW:Below w2.heap.size w2 W)=>(HO2.out.under hW).lockA HYI.out);have HNC:=zq ((chain_next17 HK1.out HFO.out).symm.trans HCG.out);have HNP:=zq (chain_next_p17 HCP.out HFO.out);have HWN:=zq (show wayC t (out++[y])=pw++pathR t y.route from by rw[wayC_app,wayC_one,HPW.out]);have HRT:=zq (okC_rt (List.find?_some HFO.out));obtain⟨kr,kt,kn⟩:=y;dsimp only at d0 d1 d2 HLC HWN HRT;go_upto_region 10 with fail;clear x3;obtain⟨hN,hO,hC,h1,hBD⟩:=pushR (f:=lcC) (k:=3) (e:=73) (w:=w5) 24 ⟨kr,kt,kn⟩ #[.int .i64 kr,.int .i64 kt,.int .i64 kn] rfl rfl (one_lc16 _) HOC5.out HU5.out.2 (by have:=HK8.out;omega) (by omega);have HBW:=zq (show Below wa.heap.size wa (w5.alloc (.cells #[.int .i64 kr,.int .i64 kt,.int .i64 kn] 73))from HB5.out.alloc HB5.out.size _);have HBW2:=zq (show Below w2.heap.size w2 (w5.alloc (.cells #[.int .i64 kr,.int .i64 kt,.int .i64 kn] 73))from HU5.out.1.alloc HU5.out.1.size _);have HLN:=zq HOC5.out.2;go_wp2_with (with_reducible refine wpList_push (o:=⟨some 36,_,_,_,_,_⟩) rfl (.tmp 30) (.tmp 35) 28 rfl u2.heap.size 73 (.agg #[.int .i64 0,.int .i64 0,.int .i64 0]) 3 24 Tryz.underlying28 info_lock16 ?hz (by decide) X (k) x ((out).flatMap lcC) ?hs hO ⟨w5.heap.size,0,none⟩ 1 1 (lcC ⟨kr,kt,kn⟩) ?hx hN hC h1 hBD ?next)
 all_goals try rfl
 intro X2 x2_ w6 ho hg;have HOC6:=zq (OwR.snoc HLN.out ho.out);have HPO6:=zq ((HPO5.out.under ((Below.refl _ _).alloc (Nat.le_refl _) (.cells #[.int .i64 kr,.int .i64 kt,.int .i64 kn] 73))).kept hg.out (OwR.two (HPO5.out.under ((Below.refl _ _).alloc (Nat.le_refl _) (.cells #[.int .i64 kr,.int .i64 kt,.int .i64 kn] 73))) (⟨hO.out,HLN.out⟩:OwR lcC 3 73 u2.heap.size _ X k x out) (by decide)));have hlow: ∀g,g<u2.heap.size->some g≠(Value.slice X k x).ownBlock:=fun g hg_ e_=>by have:=(hO.out.lt g e_.symm).1;omega
 have hgp2:gp<u2.heap.size/\gf<u2.heap.size:=by have h1_:=HSZ.out;have h2_:=HGP.out;omega
 have HPB6:=zq ((HPB5.out.beside (.cells #[.int .i64 kr,.int .i64 kt,.int .i64 kn] 73)).grow hg.out (hlow _ hgp2.1));have HFV6:=zq ((HFV.out.beside (.cells #[.int .i64 kr,.int .i64 kt,.int .i64 kn] 73)).grow hg.out (hlow _ hgp2.2));have HB6:=zq (below_own HBW.out HBW.out.size hO.out (by have h1_:=HSZ.out;have h2_:=HB2.out.size;omega) rfl hg.out);have HU6:=zq (show Below w2.heap.size w2 w6/\u2.heap.size<=w6.heap.size from⟨below_own HBW2.out HBW2.out.size hO.out (by have h1_:=HSZ.out;omega) rfl hg.out,Nat.le_trans (by simpa using Nat.le_succ_of_le HU5.out.2) hg.out.size⟩);clear ho hg hN hO hC h1 hBD HBW HBW2 HLN HOC5 HPO5 HPB5 HFV HB5 HU5 hlow hgp2 d0 d1 d2;obtain⟨k2,hk2⟩: ∃j,k+1=j:=⟨_,rfl⟩
 obtain⟨out2,hout2⟩: ∃o,out++[(⟨kr,kt,kn⟩:Lc3)]=o:=⟨_,rfl⟩
 rw[hk2,hout2]at HOC6;rw[hk2]at HNC;rw[hout2]at HNC HNP HWN;simp only[hk2];have HKK:=zq (show k2<=8/\8-k2<=k1-1/\1<=k1 from by have h1_:=HK8.out;have h2_:=HK1.out;omega);have HON:=zq (show out2≠[]from by rw[<-hout2];simp);clear hk2 hout2 HCG HCP HFO HK8 HK1 hk hkk;have HPA:=zq (fun W (hW:Below wa.heap.size wa W)=>oppath_any t a ⟨kr,kt,kn⟩ W (HT.out W hW) HLT.out);have HR8:=zq (path_some17 HZ.out HRT.out);have HPL:=zq (path_few17 HLT.out kr);unfold lcA at HPA;dsimp only at HPA HRT;obtain⟨rp,hrp⟩: ∃p,pathR t kr=p:=⟨_,rfl⟩
 rw[hrp]at HPA HR8 HPL HWN;obtain⟨rn,hrn⟩: ∃m,rp.length=m:=⟨_,rfl⟩
 rw[hrn]at HPA HR8 HPL;have HRN:=zq hrn;clear hrp hrn;have hg1:w2.heap.size<=gp:=HSZ.out.2;have hg2:gp+1=gf:=HGP.out;have hg3:w.heap.size+1<w2.heap.size:=HG0.out;have hg4:gp+2<=w6.heap.size:=by have h1_:=HSZ.out.1;have h2_:=HU6.out.2;omega
 go_upto_region 11 with fail;go_cut [10] (fun s10 wx=>s10= .slice X2 k2 x2_/\ ∃PX3 px3,Has wx gp 35 #[.slice PX3 (pn+rn) px3]/\OwR stC 2 30 u2.heap.size wx PX3 (pn+rn) px3 (pw++rp)/\OwR lcC 3 73 u2.heap.size wx X2 k2 x2_ out2/\Has wx gf 84 #[fv]/\Below w2.heap.size w2 wx/\Below wa.heap.size wa wx/\u2.heap.size<=wx.heap.size)
 case first=>
  have HS6:=zq (show u2.heap.size<=w6.heap.size from HU6.out.2);refine wp_region_held_drew (S:=(fun W_=>(Has W_ (w.heap.size) 27 (tpC t a))/\(Below w2.heap.size w2 W_))) (by kernel_rfl) ?_ (fun hHeld=>?_)
  ·exact⟨(H0.out _ HB6.out).draw,below_dr11 HU6.out.1⟩
  have HPB6:=zq HPB6.out.draw;have HFV6:=zq HFV6.out.draw;have HPO6:=zq HPO6.out.draw1;have HOC6:=zq HOC6.out.draw1;refine tlZ 1 38 w.heap.size (tpC t a) (fun _ ⟨h_,_⟩=>h_) (h:=?_);simp only[lyZ];refine tkZ 2 39 (h:=?_);simp only[lyZ];refine tkZ 3 40 (h:=?_);simp only[lyZ];refine tkZ 4 41 (h:=?_);simp only[lyZ];refine tkZ 5 42 (hy:=by intro w_ hSw;(try dsimp only at hSw);obtain⟨s0,s1⟩:=hSw;(have q_:=HLC.out w_ s1);obtain⟨q0_,q1_,q2_⟩:=q_;go_simp<;>with_reducible rfl) (h:=?_);simp only[lyZ];refine rdZ [0,6] (acZ (some 37) (fun K hK=>?za2) (acZ (some 43) (fun K hK=>?zb2) AllReadyH.nil))
  case' za2=>
   skip;obtain⟨s0,s1⟩:=hHeld;have q_:=HPB6.out.cell 0;go_simp;clear q_;refine hK.out _ _ ?_ (fun hHeld=>?_)
   ·exact⟨s0,s1⟩
   clear hK K s0 s1
   try simp only[lyZ]
   refine aoZ 6 (some 43) (fun K hK=>?_);go_simp;obtain⟨s0,s1⟩:=hHeld;refine(HPA.out _ (bu HB2.out s1)).mono ?_;rintro e_ q1 ⟨RX,rx,rfl,hsl_,hb_⟩;have HS6:=zq (show u2.heap.size<=q1.heap.size from Nat.le_trans HS6.out hb_.size);have HPB6:=uH HPB6 hb_;have HFV6:=uH HFV6 hb_;have HPO6:=zq (HPO6.out.under hb_);have HOC6:=zq (HOC6.out.under hb_);have HSL:=zq (hsl_);go_wp2_with fail;refine hK.out _ _ ?_ (fun hHeld=>?_)
   ·exact⟨s0.u hb_,bu s1 hb_⟩
  case' zb2=>
   go_simp;obtain⟨s0,s1⟩:=hHeld;refine(HPA.out _ (bu HB2.out s1)).mono ?_;rintro e_ q1 ⟨RX,rx,rfl,hsl_,hb_⟩;have HS6:=zq (show u2.heap.size<=q1.heap.size from Nat.le_trans HS6.out hb_.size);have HPB6:=uH HPB6 hb_;have HFV6:=uH HFV6 hb_;have HPO6:=zq (HPO6.out.under hb_);have HOC6:=zq (HOC6.out.under hb_);have HSL:=zq (hsl_);go_wp2_with fail;refine hK.out _ _ ?_ (fun hHeld=>?_)
   ·exact⟨s0.u hb_,bu s1 hb_⟩
   clear hK K s0 s1
   try simp only[lyZ]
   refine aoZ 0 (some 37) (fun K hK=>?_);skip;obtain⟨s0,s1⟩:=hHeld;have q_:=HPB6.out.cell 0;go_simp;clear q_;refine hK.out _ _ ?_ (fun hHeld=>?_)
   ·exact⟨s0,s1⟩
  all_goals
   clear hK K s0 s1
   try simp only[lyZ]
   refine aoZ 7 (some 44) (fun K hK=>?_);skip;obtain⟨s0,s1⟩:=hHeld;obtain⟨hO,hSL,h1,hBD⟩:=pourR 16 HPO6.out HSL.out one_st17 HS6.out (by have h1_:=HPF.out;have h2_:=HPL.out;omega) (by omega);refine step_pour15 (o:=⟨some 44,_,_,_,_,_⟩) (by rfl) (.tmp 37) (.tmp 43) 35 (by rfl) u2.heap.size 30 (.agg #[.int .i64 0,.bool false]) 2 16 Tryz.underlying35 info_step14 (by rfl) (by decide) PX pn px _ (by rfl) hO RX rn rx _ (by rfl) hSL h1 hBD ?_;intro X3 x3 u3 ho hg;have hlow: ∀g,g<u2.heap.size->some g≠(Value.slice PX pn px).ownBlock:=fun g hg_ e_=>by have:=(hO.out.lt g e_.symm).1;omega
   have HB3:=zq (below_own s1 s1.size hO.out (by have h1_:=HSZ.out;omega) rfl hg.out);have HPB6:=zq (HPB6.out.grow hg.out (hlow _ (by have:=HSZ.out;omega)));have HFV6:=zq (HFV6.out.grow hg.out (hlow _ (by have:=HSZ.out;omega)));have HOC6:=zq (HOC6.out.kept hg.out (OwR.two HOC6.out HPO6.out (by decide)));have HPO6:=zq (OwR.poured HPO6.out.2 HRN.out ho.out);have HS6:=zq (show u2.heap.size<=u3.heap.size from Nat.le_trans HS6.out hg.out.size);have hgt:some (w.heap.size)≠(Value.slice PX pn px).ownBlock:=hlow _ (by have:=HSZ.out;omega);refine hK.out _ _ ?_ (fun hHeld=>?_)
   ·exact⟨s0.grow hg.out hgt,HB3.out⟩
   clear hK K s0 s1
   try simp only[lyZ]
   refine aoZ 8 none (fun K hK=>?_);rw[if_pos (by rfl)];obtain⟨s0,s1⟩:=hHeld;refine wp_store_cell17 35 _ _ rfl (gp) 0 (.slice X3 (pn+rn) x3) (by rfl) (by rfl) 35 #[.slice PX pn px] HPB6.out (Nat.le_of_ble_eq_true rfl) (by kernel_rfl) rfl #[.slice X3 (pn+rn) x3] rfl ?_;have HFV6:=zq (has_rowo11 (g:=gp) HFV6.out (by omega) #[.slice X3 (pn+rn) x3]);have HPO6:=zq (HPO6.out.kept (only_row11 _ _ #[.slice X3 (pn+rn) x3]) (.inr (HPO6.out.apart HPB6.out (by decide))));have HOC6:=zq (HOC6.out.kept (only_row11 _ _ #[.slice X3 (pn+rn) x3]) (.inr (HOC6.out.apart HPB6.out (by decide))));refine hK.out _ _ ?_ (fun hHeld=>?_)
   ·exact⟨has_rowo11 s0 (by omega) _,below_row s1 (by omega) _⟩
   have HPB6:=zq (has_row11 HPB6.out #[.slice X3 (pn+rn) x3]);clear hK K s0 s1
   try simp only[Act.put]
   refine dnZ ?_;go_wp2_with fail;go_meet
   exact⟨rfl,X3,x3,HPB6.out,HPO6.out,HOC6.out,HFV6.out,hHeld.2,HB2.out.trans (hHeld.2.mono HB2.out.size),by have h_:=HS6.out;simpa using h_⟩
 obtain⟨rfl,PX3,px3,hpb_,hpo_,hoc_,hfv_,hb2_,hba_,hu_⟩:=hcut;obtain⟨w7,hw7⟩: ∃u,u=wc:=⟨_,rfl⟩
 subst hw7;obtain⟨pn2,hpn2⟩: ∃m,pn+rn=m:=⟨_,rfl⟩
 obtain⟨pw2,hpw2⟩: ∃p,pw++rp=p:=⟨_,rfl⟩
 rw[hpn2,hpw2]at hpo_;rw[hpn2]at hpb_;rw[hpw2]at HWN;have HPN2:=zq (show 1<=pn2/\pn2<=900 from by have h1_:=HR8.out;have h2_:=HPF.out;have h3_:=HPL.out;omega);obtain⟨gx,hgx,_,_⟩:=hpo_.some (by have:=HPN2.out;omega);subst hgx;have HL2:=zq hpo_.2;obtain⟨ls,hls⟩: ∃s,lastS pw2=s:=⟨_,rfl⟩
 have HLA:=zq (show pw2[pn2-1]?=some ls from by rw[<-hls,<-HL2.out];exact last_at17 (by rw[HL2.out];exact HPN2.out.1));have HLL:=zq hls;have HPO7:=zq hpo_;have HPB7:=zq hpb_;have HOC7:=zq hoc_;have HFV7:=zq hfv_;have HBX:=zq (show Below wa.heap.size wa w7/\Below w2.heap.size w2 w7/\u2.heap.size<=w7.heap.size from⟨hba_,hb2_,hu_⟩);have HLS:=zq (fun W (hW:Below w7.heap.size w7 W)=>cells_last17 (HPO7.out.under hW) HLA.out);have hg5:gp+2<=w7.heap.size:=by have h1_:=HSZ.out.1;omega
 obtain⟨al,hal⟩: ∃l,afterL t ls=l:=⟨_,rfl⟩
 have HAL:=zq hal;obtain⟨an,han⟩: ∃n,al.length=n:=⟨_,rfl⟩
 have HAN:=zq han;have HAF:=zq (show an<=1048576 from by rw[<-han,<-hal];have h1_:=after_few17 (t:=t) ls;have h2_:=(light_nums13 HLT.out).1;omega);obtain⟨le,lr⟩:=ls;dsimp only at HLS;clear hpb_ hpo_ hoc_ hfv_ hb2_ hba_ hu_ hpn2 hpw2 hls hal han HPO6 HPB6 HOC6 HFV6 HB6 HU6 HRN;go_upto_region 12 with fail;have hw1:IntKind.i64.wrap ((pn2:Int)-1)=(pn2:Int)-1:=by rw[IntKind.wrap_i64];have h1_:=HPN2.out;omega
 have hw2:((pn2:Int)-1).toNat=pn2-1:=by omega
 have u1_:(0:Int)<=(pn2:Int)-1:=by have:=HPN2.out;omega
 have u2_:(pn2:Int)-1<pn2:=by omega
 have u3_:(1:Int)<=(pn2:Int):=by have:=HPN2.out;omega
 go_cut [14] (fun s14 wx=> ∃ga A5 c5,w7.heap.size<=ga/\s14= .pointer (some ⟨ga,0,none⟩)/\Has wx ga 35 #[.slice A5 an c5]/\SlO stC 2 wx A5 an c5 al/\Has wx gp 35 #[.slice (some ⟨gx,0,none⟩) pn2 px3]/\OwR stC 2 30 u2.heap.size wx (some ⟨gx,0,none⟩) pn2 px3 pw2/\OwR lcC 3 73 u2.heap.size wx X2 k2 x2_ out2/\Has wx gf 84 #[fv]/\Below w7.heap.size w7 wx)
 case first=>
  refine wp_region_held_drew (S:=(fun W_=>(Has W_ (w.heap.size) 27 (tpC t a))/\(Has W_ (gp) 35 #[.slice (some ⟨gx,0,none⟩) pn2 px3])/\(Below w7.heap.size w7 W_))) (by kernel_rfl) ?_ (fun hHeld=>?_)
  ·exact⟨(H0.out _ HBX.out.1).draw,HPB7.out.draw,below_dr11 (Below.refl _ _)⟩
  have HPO7:=zq HPO7.out.draw1;have HOC7:=zq HOC7.out.draw1;have HFV7:=zq HFV7.out.draw;refine tlZ 0 45 w.heap.size (tpC t a) (fun _ ⟨h_,_,_⟩=>h_) (h:=?_);simp only[lyZ];refine tqZ 1 46 (fun w_ ⟨s0,s1,s2⟩=>(show w_.cell? ⟨gp,0,none⟩=some (.slice (some ⟨gx,0,none⟩) pn2 px3:Value)from s1.cell 0)) (h:=?_);simp only[lyZ];refine tqZ 2 47 (fun w_ ⟨s0,s1,s2⟩=>(show w_.cell? ⟨gp,0,none⟩=some (.slice (some ⟨gx,0,none⟩) pn2 px3:Value)from s1.cell 0)) (h:=?_);simp only[lyZ];refine tkZ 3 48 (h:=?_);simp only[lyZ];refine tkZ 4 49 (h:=?_);simp only[lyZ];refine tkZ 5 50 (h:=?_);simp only[lyZ];refine tqZ 6 51 (fun w_ ⟨s0,s1,s2⟩=>And.intro ((HLS.out w_ s2).1) ((HLS.out w_ s2).2)) (h:=?_);simp only[lyZ];refine rdZ [7,8] (acZ (some 52) (fun K hK=>?za3) (acZ (some 14) (fun K hK=>?zb3) AllReadyH.nil))
  case' za3=>
   go_simp;obtain⟨s0,s1,s2⟩:=hHeld;refine(otp_after t a ⟨le,lr⟩ _ (HT.out _ (HBX.out.1.trans (s2.mono HBX.out.1.size))) HLT.out).mono ?_;rw[HAL.out,HAN.out];rintro e_ q1 ⟨A5,c5,rfl,hs5_,hb_⟩;have HPO7:=zq (HPO7.out.under hb_);have HOC7:=zq (HOC7.out.under hb_);have HFV7:=uH HFV7 hb_;have HSA:=zq (hs5_);go_wp2_with fail;refine hK.out _ _ ?_ (fun hHeld=>?_)
   ·exact⟨s0.u hb_,s1.u hb_,bu s2 hb_⟩
   clear hK K s0 s1 s2
   try simp only[lyZ]
   refine aoZ 8 (some 14) (fun K hK=>?_);go_simp;obtain⟨s0,s1,s2⟩:=hHeld;obtain⟨ga,hga⟩:=geZ (q1.heap.size);have p0_ga:w.heap.size<ga:=by rw[<-hga];exact s0.lt
   have p1_ga:gp<ga:=by rw[<-hga];exact s1.lt
   have p2_ga:w7.heap.size<=ga:=by rw[<-hga];exact s2.size
   rw[hga];refine hK.out _ _ ?_ (fun hHeld=>?_)
   ·exact⟨s0.beside _,s1.beside _,below_al11 s2 _⟩
   have HPO7:=zq (HPO7.out.under ((Below.refl _ _).alloc (Nat.le_refl _) (.cells #[.slice none 0 0] 35)));have HOC7:=zq (HOC7.out.under ((Below.refl _ _).alloc (Nat.le_refl _) (.cells #[.slice none 0 0] 35)));have HFV7:=zq (HFV7.out.beside (.cells #[.slice none 0 0] 35));have HSA:=zq (HSA.out.under ((Below.refl _ _).alloc (Nat.le_refl _) (.cells #[.slice none 0 0] 35)));refine mr3 (fun W_=>(∃o_:Array Value,Has W_ (ga) 35 o_/\o_.size=1/\noB17 o_=true)) ⟨s0.beside _,s1.beside _,below_al11 s2 _,⟨#[.slice none 0 0],(by rw[<-hga];exact Has.made _ _ _),rfl,rfl⟩⟩ (fun h_=>?_);clear hHeld;have hHeld:=h_;clear h_;clear hK K hga s0 s1 s2
  case' zb3=>
   go_simp;obtain⟨s0,s1,s2⟩:=hHeld;obtain⟨ga,hga⟩:=geZ (w7.heap.size);have p0_ga:w.heap.size<ga:=by rw[<-hga];exact s0.lt
   have p1_ga:gp<ga:=by rw[<-hga];exact s1.lt
   have p2_ga:w7.heap.size<=ga:=by rw[<-hga];exact s2.size
   rw[hga];refine hK.out _ _ ?_ (fun hHeld=>?_)
   ·exact⟨s0.beside _,s1.beside _,below_al11 s2 _⟩
   have HPO7:=zq (HPO7.out.under ((Below.refl _ _).alloc (Nat.le_refl _) (.cells #[.slice none 0 0] 35)));have HOC7:=zq (HOC7.out.under ((Below.refl _ _).alloc (Nat.le_refl _) (.cells #[.slice none 0 0] 35)));have HFV7:=zq (HFV7.out.beside (.cells #[.slice none 0 0] 35));refine mr3 (fun W_=>(∃o_:Array Value,Has W_ (ga) 35 o_/\o_.size=1/\noB17 o_=true)) ⟨s0.beside _,s1.beside _,below_al11 s2 _,⟨#[.slice none 0 0],(by rw[<-hga];exact Has.made _ _ _),rfl,rfl⟩⟩ (fun h_=>?_);clear hHeld;have hHeld:=h_;clear h_;clear hK K hga s0 s1 s2
   try simp only[lyZ]
   refine aoZ 7 (some 52) (fun K hK=>?_);go_simp;obtain⟨s0,s1,s2,s3⟩:=hHeld;refine(otp_after t a ⟨le,lr⟩ _ (HT.out _ (HBX.out.1.trans (s2.mono HBX.out.1.size))) HLT.out).mono ?_;rw[HAL.out,HAN.out];rintro e_ q1 ⟨A5,c5,rfl,hs5_,hb_⟩;have HPO7:=zq (HPO7.out.under hb_);have HOC7:=zq (HOC7.out.under hb_);have HFV7:=uH HFV7 hb_;have HSA:=zq (hs5_);go_wp2_with fail;refine hK.out _ _ ?_ (fun hHeld=>?_)
   ·exact⟨s0.u hb_,s1.u hb_,bu s2 hb_,(let ⟨o_,h_,e_⟩:=s3;⟨o_,h_.u hb_,e_⟩)⟩
   clear hK K s0 s1 s2 s3
  all_goals
   try simp only[lyZ]
   refine aoZ 9 none (fun K hK=>?_);rw[if_pos (by rfl)];obtain⟨s0,s1,s2,s3⟩:=hHeld;obtain⟨o_,h_,e_⟩:=s3;refine wp_store_one17 35 _ _ rfl (ga) (.slice A5 an c5) (by rfl) (by rfl) 35 o_ h_ e_.1 (by kernel_rfl) rfl ?_;have HPO7:=zq (HPO7.out.kept (only_row11 _ _ #[.slice A5 an c5]) (.inr (HPO7.out.apart h_ (by decide))));have HOC7:=zq (HOC7.out.kept (only_row11 _ _ #[.slice A5 an c5]) (.inr (HOC7.out.apart h_ (by decide))));have HFV7:=zq (has_rowo11 (g:=ga) HFV7.out (by omega) #[.slice A5 an c5]);have HSA:=zq (HSA.out.rowB17 h_ e_.2 #[.slice A5 an c5]);refine hK.out _ _ ?_ (fun hHeld=>?_)
   ·exact⟨has_rowo11 s0 (by omega) _,has_rowo11 s1 (by omega) _,below_row s2 (by omega) _,⟨_,has_row11 h_ _,rfl,rfl⟩⟩
   refine mr4 (fun W_=>(Has W_ (ga) 35 #[.slice A5 an c5])) ⟨has_rowo11 s0 (by omega) _,has_rowo11 s1 (by omega) _,below_row s2 (by omega) _,⟨_,has_row11 h_ _,rfl,rfl⟩,has_row11 h_ _⟩ (fun h_=>?_);clear hHeld;have hHeld:=h_;clear h_;clear hK K h_ e_ s0 s1 s2
   try simp only[Act.put]
   refine dnZ ?_;go_wp2_with fail;go_meet
   exact⟨ga,A5,c5,by omega,rfl,hHeld.2.2.2.2,HSA.out,hHeld.2.1,HPO7.out,HOC7.out,HFV7.out,hHeld.2.2.1⟩
 obtain⟨ga,A5,c5,hga_,rfl,hga2_,hsa_,hpb_,hpo_,hoc_,hfv_,hb_⟩:=hcut;obtain⟨w8,hw8⟩: ∃u,u=wc:=⟨_,rfl⟩
 subst hw8;have HOC9:=zq (hoc_.kept (only_row11 w8 gf #[.func (.func 46) #[] #[.pointer (some ⟨ga,0,none⟩),.pointer (some ⟨gp,0,none⟩)]]) (.inr (hoc_.apart hfv_ (by decide))));have HPO9:=zq (hpo_.kept (only_row11 w8 gf #[.func (.func 46) #[] #[.pointer (some ⟨ga,0,none⟩),.pointer (some ⟨gp,0,none⟩)]]) (.inr (hpo_.apart hfv_ (by decide))));have HPB9:=zq (has_rowo11 (g:=gf) hpb_ (by omega) #[.func (.func 46) #[] #[.pointer (some ⟨ga,0,none⟩),.pointer (some ⟨gp,0,none⟩)]]);have HFT9:=zq (show FitsR17 (w8.setRow gf #[.func (.func 46) #[] #[.pointer (some ⟨ga,0,none⟩),.pointer (some ⟨gp,0,none⟩)]]) t out2 gf (w.heap.size+1) gp from⟨fun e=>absurd e HON.out,fun _=>⟨ga,A5,an,c5,has_rowo11 (g:=gf) hga2_ (by omega) _,by rw[HWN.out,HLL.out,HAL.out];exact hsa_.rowB17 hfv_ HFB.out _,HAF.out,has_row11 hfv_ _⟩⟩);have HBW:=zq (show Below wa.heap.size wa w8/\Below w2.heap.size w2 w8/\u2.heap.size<=w8.heap.size from⟨HBX.out.1.trans (hb_.mono HBX.out.1.size),HBX.out.2.1.trans (hb_.mono HBX.out.2.1.size),Nat.le_trans HBX.out.2.2 hb_.size⟩);have HBU9:=zq (show Below wa.heap.size wa (w8.setRow gf #[.func (.func 46) #[] #[.pointer (some ⟨ga,0,none⟩),.pointer (some ⟨gp,0,none⟩)]])/\Below w2.heap.size w2 (w8.setRow gf #[.func (.func 46) #[] #[.pointer (some ⟨ga,0,none⟩),.pointer (some ⟨gp,0,none⟩)]])/\u2.heap.size<=(w8.setRow gf #[.func (.func 46) #[] #[.pointer (some ⟨ga,0,none⟩),.pointer (some ⟨gp,0,none⟩)]]).heap.size from⟨below_row HBW.out.1 (by have:=HB2.out.size;omega) _,below_row HBW.out.2.1 (by omega) _,by have h_:=HBW.out.2.2;simpa using h_⟩);have HFV8:=zq hfv_;rw[<-HWN.out]at HPO9;clear hga2_ hsa_ hpb_ hpo_ hoc_ hfv_ hb_ hw1 hw2 u1_ u2_ u3_ HPO7 HPB7 HOC7 HFV7 HBX x1 x2;go_wp2_with (with_reducible refine wpList_store_cell17 (o:=⟨none,_,_,_,_,_⟩) rfl 84 _ _ rfl (gf) 0 (.func (.func 46) #[] #[.pointer (some ⟨ga,0,none⟩),.pointer (some ⟨gp,0,none⟩)]) rfl rfl 84 #[fv] HFV8.out (Nat.le_of_ble_eq_true rfl) (by kernel_rfl) rfl #[.func (.func 46) #[] #[.pointer (some ⟨ga,0,none⟩),.pointer (some ⟨gp,0,none⟩)]] rfl ?_);go_roundg (k1-1)
 case measure=>have:=HKK.out;omega
 case rel=>exact⟨k2,X2,x2_,out2,_,pn2,px3,HKK.out.1,HKK.out.2.1,rfl,HNC,HNP,HOC9,HPB9,HPO9,HFT9,HBU9⟩
end
end Go.Proofs.YtahadmeilajdgaaGreatDoor
