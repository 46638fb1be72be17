/-
  Our own text, joined.
-/
import Derived.Test.YtahadmeilajdgaaGreatDoorMran
import Derived.Test.YtahadmeilajdgaaGreatDoorMrah
import Derived.BigQuiet
import Derived.IntWalk
import Derived.Test.YtahadmeilajdgaaGreatDoorMraj
import Derived.Test.YtahadmeilajdgaaGreatDoorMram
import Derived.Test.YtahadmeilajdgaaGreatDoorMraa
namespace Go.Proofs.YtahadmeilajdgaaGreatDoor
set_option maxRecDepth 100000
set_option maxHeartbeats 40000000
section
open Go.RowKit
open Go.Great
theorem OwR.rowlow17 {α:Type}{f:α->List Value}{k:Nat}{e:TypeId}{base g:Nat}{w:World}{A:Option Addr}{n c:Nat}{l:List α}(h:OwR f k e base w A n c l)(hg:g<base)(cs:Array Value):OwR f k e base (w.setRow g cs) A n c l:=
 h.kept (qaj w g cs) (.inr fun e_=>by
  have:=(h.1.lt g e_).1;omega)
theorem first_at17 {path:List St3}{s x:St3}(h:path[0]?=some x):qcC path s=eqS x s:=by
 cases path with
 |nil=>cases h
 |cons y r=>
  injection h with h
  subst h
  rfl
theorem pathOk_lp17 {t:Tp3}{path:List St3}(h:qdQ t path=true):lenE t path=0/\path.length<=24:=by
 unfold qdQ at h;simp only[Bool.and_eq_true,decide_eq_true_eq]at h;exact⟨h.1,h.2.1⟩
theorem last_top17 {M p:Int}{l:List Sc3}(hp:p<=M)(h: ∀s∈l,s.to_<=M):qbj p l<=M:=by
 induction l generalizing p with
 |nil=>exact hp
 |cons s r ih=>exact ih (h s (List.mem_cons_self ..)) fun x hx=>h x (List.mem_cons_of_mem _ hx)
theorem head_le17 {t:Tp3}{path:List St3}{s:St3}(h:path[0]?=some s)(hp: ∀x∈path,1<=lenAt t x/\lenAt t x<=1000000):lenAt t s<=sumT t path:=by
 cases path with
 |nil=>cases h
 |cons y r=>
  injection h with h
  subst h;have h1:0<=sumT t r:=by
   have h2: ∀x∈r,1<=lenAt t x/\lenAt t x<=1000000:=fun x hx=>hp x (List.mem_cons_of_mem _ hx);clear hp
   induction r with
   |nil=>exact Int.le_refl _
   |cons z q ih=>
    have h3:=h2 z (List.mem_cons_self ..);have h4:=ih fun x hx=>h2 x (List.mem_cons_of_mem _ hx);show 0<=lenAt t z+sumT t q
    omega
  show lenAt t y<=lenAt t y+sumT t r
  omega
theorem may_loc17 {t:Tp3}{m:Ma3}(h:mayM t m=true): ∃x,locE t m.ref m.rev 0=(x,0)/\qa4 t x=true/\qa1 t m=intoP t x/\qax t=0:=by
 have h0:(locE t m.ref m.rev 0).2=0:=by
  by_cases h1:(locE t m.ref m.rev 0).2=0
  ·exact h1
  ·rw[may_no17 h1]at h;cases h
 have h2:locE t m.ref m.rev 0=((locE t m.ref m.rev 0).1,0):=Prod.ext rfl h0;obtain⟨hc,hb,hr,hp⟩:=qcY h2;have hm:=qb4.1 h;have hpl:=hp m rfl rfl;exact⟨_,h2,hr,qcQ hpl hr hm.len (by have h3:=hm.first;rw[hpl]at h3;exact h3),hc⟩
theorem sects_lp17 {l:List Sc3}(h:qdI l=true):0<=qbj 0 l/\1<=l.length/\l.length<=8:=by
 unfold qdI at h;simp only[Bool.and_eq_true,decide_eq_true_eq]at h;exact⟨ris_last h.1,h.2.1,h.2.2⟩
theorem qee (t:Tp3)(a:TpA)(p:Ps3)(w:World)(ht:TopR w t a)(hl:qaJ t=true)(hcj:t.joints.length<=a.cj):
  Calls Tryz.prog 74 #[.agg (tpC t a),.agg (psA p)] w fun r w'=>r= .returned (.int .i64 (onE t [stepP p] p).1)/\Below w.heap.size w w':=by
 obtain⟨pe,pa,pr⟩:=p;unfold psA stepP;dsimp only;obtain⟨wa,hwa,hbwa,HWA,HBWA,h0,h1⟩:=bx2Z w 27 (tpC t a) 51 #[.int .i64 pe,.int .i64 pa,.bool pr];have HT:=zq (fun W (hW:Below wa.heap.size wa W)=>(ht.under hbwa).under hW);have HLT:=zq hl;have HCJ:=zq hcj;have H0:=zH h0;have H1:=zH h1;obtain⟨Rv,hRv⟩: ∃R,onE t [⟨pe,pr⟩] ⟨pe,pa,pr⟩=R:=⟨_,rfl⟩
 have HR:=zq hRv;rw[hRv];have HSO:=zq (fun W=>qcG ⟨pe,pa,pr⟩ W);unfold psA stA13 stepP at HSO;dsimp only at HSO;clear hwa hbwa h0 h1 ht hl hcj hRv;go_enter Tryz.func74,Tryz.ntmps74;go_upto_region 1 with fail;rw[HWA.out];clear HWA;refine wp_region_held_drew (S:=(fun W_=>(Has W_ (w.heap.size) 27 (tpC t a))/\(Has W_ (w.heap.size+1) 51 #[.int .i64 pe,.int .i64 pa,.bool pr])/\(Below wa.heap.size wa W_))) (by kernel_rfl) ?_ (fun hHeld=>?_)
 ·exact⟨(H0.out _ (Below.refl _ _)).draw,(H1.out _ (Below.refl _ _)).draw,qah (Below.refl _ _)⟩
 refine tlZ 0 8 w.heap.size (tpC t a) (fun _ ⟨h_,_,_⟩=>h_) (h:=?_);simp only[lyZ];refine tlZ 1 9 (w.heap.size+1) #[.int .i64 pe,.int .i64 pa,.bool pr] (fun _ ⟨_,h_,_⟩=>h_) (h:=?_);simp only[lyZ];refine tlZ 4 12 (w.heap.size+1) #[.int .i64 pe,.int .i64 pa,.bool pr] (fun _ ⟨_,h_,_⟩=>h_) (h:=?_);simp only[lyZ];refine aoZ 2 (some 10) (fun K hK=>?_);go_simp;obtain⟨s0,s1,s2⟩:=hHeld;refine(HSO.out _).mono ?_;rintro e_ q1 ⟨rfl,hb_⟩;go_wp2_with fail;refine hK.out _ _ ?_ (fun hHeld=>?_)
 ·exact⟨s0.u hb_,s1.u hb_,bu s2 hb_⟩
 clear hK K s0 s1 s2
 try simp only[lyZ]
 refine aoZ 3 (some 11) (fun K hK=>?_);go_simp;obtain⟨s0,s1,s2⟩:=hHeld;obtain⟨gS,hgS⟩:=geZ (q1.heap.size);have p0_gS:w.heap.size<gS:=by rw[<-hgS];exact s0.lt
 have p1_gS:w.heap.size+1<gS:=by rw[<-hgS];exact s1.lt
 have p2_gS:wa.heap.size<=gS:=by rw[<-hgS];exact s2.size
 rw[hgS];refine hK.out _ _ ?_ (fun hHeld=>?_)
 ·exact⟨s0.beside _,s1.beside _,qao s2 _⟩
 refine mr3 (fun W_=>(Has W_ (gS) 30 #[.int .i64 pe,.bool pr])) ⟨s0.beside _,s1.beside _,qao s2 _,(by rw[<-hgS];exact Has.made _ _ _)⟩ (fun h_=>?_);clear hHeld;have hHeld:=h_;clear h_;clear hK K hgS s0 s1 s2
 try simp only[lyZ]
 refine aoZ 5 (some 13) (fun K hK=>?_);go_simp;obtain⟨s0,s1,s2,s3⟩:=hHeld;refine(opl_on t a [⟨pe,pr⟩] (some ⟨gS,0,none⟩) 1 1 ⟨pe,pa,pr⟩ _ (HT.out _ s2) HLT.out HCJ.out ⟨rfl,qa3 s3 rfl⟩ (by omega) (by omega)).mono ?_;rw[HR.out];rintro e_ q2 ⟨rfl,hb2_⟩;go_wp2_with fail;refine hK.out _ _ ?_ (fun hHeld=>?_)
 ·exact⟨s0.u hb2_,s1.u hb2_,bu s2 hb2_,s3.u hb2_⟩
 clear hK K s0 s1 s2 s3
 try simp only[lyZ]
 refine tkZ 6 7 (h:=?_);simp only[lyZ];refine tkZ 7 14 (h:=?_);simp only[lyZ];refine tkZ 8 15 (h:=?_);simp only[lyZ];refine tkZ 9 5 (h:=?_);simp only[lyZ];refine tkZ 10 6 (h:=?_);simp only[lyZ];refine dnZ ?_;have HB1:=zq (HBWA.out.trans (hHeld.2.2.1.mono HBWA.out.size));clear hHeld;go_wp2;go_ret
 exact⟨rfl,HB1.out⟩
theorem opwalked_any (t:Tp3)(a:TpA)(p x:Ps3)(n:Int)(w:World)(ht:TopR w t a)(hl:qaJ t=true)(hcj:t.joints.length<=a.cj)(hw:walkE t p n=(x,0)):
  Calls Tryz.prog 76 #[.agg (tpC t a),.agg (psA p),.int .i64 n] w fun r w'=> ∃X c,r= .returned (.slice X (goneL t p n).length c)/\OwR stC 2 30 w.heap.size w' X (goneL t p n).length c (goneL t p n)/\Below w.heap.size w w':=by
 have HGK:=zq (gone_ok hw);have HOK:=zq (qaD HGK.out.1).1;have HIN:=zq (qcf HOK.out (qaQ.1 HGK.out.2.1).2);have HEN:=zq (qd0 HGK.out.2.1);have HED:=zq (HGK.out.2.2.2.2.1.edges);have HLA:=zq (fun(s:St3) (hs:edgeB t s.edge=true)=>qa2 HOK.out hs);obtain⟨G,hG⟩:=geZ (goneL t p n);have HGP:=zq (show GoneP t p x n G from by rw[<-hG];exact HGK.out.2.2.2.2.1);have HGL:=zq (show G.length<=41 from by rw[<-hG];exact HGK.out.2.2.2.2.2);rw[hG]at HED;obtain⟨I,hI⟩:=geZ (intoP t p);obtain⟨J,hJ⟩:=geZ (I+n);rw[hI]at HIN HEN;have hed:=(qbu.1 (qaQ.1 HGK.out.2.1).2).1;have HL0:=zq (HLA.out (stepP p) hed);have HJB:=zq (show 0<=J/\J<=2000000000000 from by have h1_:=HIN.out;have h2_:=HL0.out;have h3_:=HGK.out.2.2;omega);have hw1:IntKind.i64.wrap (I+n)=J:=by rw[IntKind.wrap_i64];have h1_:=HJB.out;omega
 have HST:=zq (show[]++qbm t 59 (stepP p) (J-lenAt t (stepP p))=G/\sumT t []+J=intoP t p+n from by
  refine⟨?_,by show 0+J=_;rw[hI];omega⟩;rw[<-hG];show qbm t 59 (stepP p) _=qbm t 59 (stepP p) _
  congr 1
  have h1_:intoP t p=lenAt t (stepP p)-qaA t p:=rfl;omega)
 rw[hG];obtain⟨pe,pa,pr⟩:=p;unfold psA;unfold stepP at HEN HST;dsimp only at HEN HST hed⊢;have HEP:=zq hed;obtain⟨wa,hwa,hbwa,HWA,HBWA,h0,h1⟩:=bx2Z w 27 (tpC t a) 51 #[.int .i64 pe,.int .i64 pa,.bool pr];have HT:=zq (fun W (hW:Below wa.heap.size wa W)=>(ht.under hbwa).under hW);have HLT:=zq hl;have HCJ:=zq hcj;have H0:=zH h0;have H1:=zH h1;have HSO:=zq (fun W=>qcG ⟨pe,pa,pr⟩ W);unfold psA stA13 stepP at HSO;dsimp only at HSO;have HEO:=zq (fun W (hW:Below wa.heap.size wa W)=>qee t a ⟨pe,pa,pr⟩ W ((ht.under hbwa).under hW) hl hcj);unfold psA stepP at HEO;dsimp only at HEO;rw[HEN.out]at HEO;have HBZ:=zq hbwa.size;have HIJ:=zq hw1;clear hwa hbwa h0 h1 ht hl hcj hw hG hI hJ hw1 HEN hed;go_enter Tryz.func76,Tryz.ntmps76;go_upto_region 1 with fail;rw[HWA.out];clear HWA;go_cut [7,8] (fun s7 s8 wx=>s8= .int .i64 J/\ ∃gs,wa.heap.size<=gs/\s7= .pointer (some ⟨gs,0,none⟩)/\Has wx gs 30 #[.int .i64 pe,.bool pr]/\Below wa.heap.size wa wx)
 case first=>
  refine wp_region_held_drew (S:=(fun W_=>(Has W_ (w.heap.size) 27 (tpC t a))/\(Has W_ (w.heap.size+1) 51 #[.int .i64 pe,.int .i64 pa,.bool pr])/\(Below wa.heap.size wa W_))) (by kernel_rfl) ?_ (fun hHeld=>?_)
  ·exact⟨(H0.out _ (Below.refl _ _)).draw,(H1.out _ (Below.refl _ _)).draw,qah (Below.refl _ _)⟩
  refine tlZ 0 10 (w.heap.size+1) #[.int .i64 pe,.int .i64 pa,.bool pr] (fun _ ⟨_,h_,_⟩=>h_) (h:=?_);simp only[lyZ];refine tlZ 2 12 w.heap.size (tpC t a) (fun _ ⟨h_,_,_⟩=>h_) (h:=?_);simp only[lyZ];refine tlZ 3 13 (w.heap.size+1) #[.int .i64 pe,.int .i64 pa,.bool pr] (fun _ ⟨_,h_,_⟩=>h_) (h:=?_);simp only[lyZ];refine tkZ 5 15 (h:=?_);simp only[lyZ];refine rdZ [1,7] ?_;refine acZ (some 11) (fun K hK=>?_) ?_
  ·go_simp
   obtain⟨s0,s1,s2⟩:=hHeld;refine(HSO.out _).mono ?_;rintro e_ q1 ⟨rfl,hb_⟩;go_wp2_with fail;refine hK.out _ _ ?_ (fun hHeld=>?_)
   ·exact⟨s0.u hb_,s1.u hb_,bu s2 hb_⟩
   clear hK K s0 s1 s2
   try simp only[lyZ]
   refine rdZ [4,7] (acZ (some 14) (fun K hK=>?za1) (acZ (some 7) (fun K hK=>?zb1) AllReadyH.nil))
   case' za1=>
    go_simp;obtain⟨s0,s1,s2⟩:=hHeld;refine(HEO.out _ s2).mono ?_;rintro e_ q2 ⟨rfl,hb2_⟩;go_wp2_with fail;refine hK.out _ _ ?_ (fun hHeld=>?_)
    ·exact⟨s0.u hb2_,s1.u hb2_,bu s2 hb2_⟩
    clear hK K s0 s1 s2
    try simp only[lyZ]
    refine tqZ 6 16 (fun w_ ⟨s0,s1,s2⟩=>HIJ.out) (h:=?_);simp only[lyZ];refine aoZ 7 (some 7) (fun K hK=>?_);go_simp;obtain⟨s0,s1,s2⟩:=hHeld;obtain⟨gs,hgs⟩:=geZ (q2.heap.size);have p0_gs:w.heap.size<gs:=by rw[<-hgs];exact s0.lt
    have p1_gs:w.heap.size+1<gs:=by rw[<-hgs];exact s1.lt
    have p2_gs:wa.heap.size<=gs:=by rw[<-hgs];exact s2.size
    rw[hgs];refine hK.out _ _ ?_ (fun hHeld=>?_)
    ·exact⟨s0.beside _,s1.beside _,qao s2 _⟩
    refine mr3 (fun W_=>(∃o_:Array Value,Has W_ (gs) 30 o_/\o_.size=2)) ⟨s0.beside _,s1.beside _,qao s2 _,⟨#[.int .i64 0,.bool false],(by rw[<-hgs];exact Has.made _ _ _),rfl⟩⟩ (fun h_=>?_);clear hHeld;have hHeld:=h_;clear h_;clear hK K hgs s0 s1 s2
    try simp only[lyZ]
   case' zb1=>
    go_simp;obtain⟨s0,s1,s2⟩:=hHeld;obtain⟨gs,hgs⟩:=geZ (q1.heap.size);have p0_gs:w.heap.size<gs:=by rw[<-hgs];exact s0.lt
    have p1_gs:w.heap.size+1<gs:=by rw[<-hgs];exact s1.lt
    have p2_gs:wa.heap.size<=gs:=by rw[<-hgs];exact s2.size
    rw[hgs];refine hK.out _ _ ?_ (fun hHeld=>?_)
    ·exact⟨s0.beside _,s1.beside _,qao s2 _⟩
    refine mr3 (fun W_=>(∃o_:Array Value,Has W_ (gs) 30 o_/\o_.size=2)) ⟨s0.beside _,s1.beside _,qao s2 _,⟨#[.int .i64 0,.bool false],(by rw[<-hgs];exact Has.made _ _ _),rfl⟩⟩ (fun h_=>?_);clear hHeld;have hHeld:=h_;clear h_;clear hK K hgs s0 s1 s2
    try simp only[lyZ]
    refine aoZ 4 (some 14) (fun K hK=>?_);go_simp;obtain⟨s0,s1,s2,s3⟩:=hHeld;refine(HEO.out _ s2).mono ?_;rintro e_ q2 ⟨rfl,hb2_⟩;go_wp2_with fail;refine hK.out _ _ ?_ (fun hHeld=>?_)
    ·exact⟨s0.u hb2_,s1.u hb2_,bu s2 hb2_,(let ⟨o_,h_,e_⟩:=s3;⟨o_,h_.u hb2_,e_⟩)⟩
    clear hK K s0 s1 s2 s3
    try simp only[lyZ]
    refine tqZ 6 16 (fun w_ ⟨s0,s1,s2,s3⟩=>HIJ.out) (h:=?_);simp only[lyZ]
   all_goals
    refine aoZ 8 none (fun K hK=>?_);rw[if_pos (by rfl)];obtain⟨s0,s1,s2,s3⟩:=hHeld;obtain⟨o_,h_,e_⟩:=s3;refine wp_store_row 30 _ _ rfl (gs) #[.int .i64 pe,.bool pr] (by rfl) (by rfl) 30 o_ h_.raw11 (by kernel_rfl) e_ (by kernel_rfl) ?_;refine hK.out _ _ ?_ (fun hHeld=>?_)
    ·exact⟨qae s0 (by omega) _,qae s1 (by omega) _,qac s2 (by omega) _,⟨_,qab h_ _,rfl⟩⟩
    refine mr4 (fun W_=>(Has W_ (gs) 30 #[.int .i64 pe,.bool pr])) ⟨qae s0 (by omega) _,qae s1 (by omega) _,qac s2 (by omega) _,⟨_,qab h_ _,rfl⟩,qab h_ _⟩ (fun h_=>?_);clear hHeld;have hHeld:=h_;clear h_;clear hK K h_ e_ s0 s1 s2
    try simp only[Act.put]
    refine tkZ 9 8 (h:=?_);simp only[lyZ];refine dnZ ?_;go_wp2_with fail;go_meet
    exact⟨rfl,gs,by omega,rfl,hHeld.2.2.2.2,hHeld.2.2.1⟩
  refine acZ (some 7) (fun K hK=>?_) ?_
  ·go_simp
   obtain⟨s0,s1,s2⟩:=hHeld;obtain⟨gs,hgs⟩:=geZ (wa.heap.size);have p0_gs:w.heap.size<gs:=by rw[<-hgs];exact s0.lt
   have p1_gs:w.heap.size+1<gs:=by rw[<-hgs];exact s1.lt
   have p2_gs:wa.heap.size<=gs:=by rw[<-hgs];exact s2.size
   rw[hgs];refine hK.out _ _ ?_ (fun hHeld=>?_)
   ·exact⟨s0.beside _,s1.beside _,qao s2 _⟩
   refine mr3 (fun W_=>(∃o_:Array Value,Has W_ (gs) 30 o_/\o_.size=2)) ⟨s0.beside _,s1.beside _,qao s2 _,⟨#[.int .i64 0,.bool false],(by rw[<-hgs];exact Has.made _ _ _),rfl⟩⟩ (fun h_=>?_);clear hHeld;have hHeld:=h_;clear h_;clear hK K hgs s0 s1 s2
   try simp only[lyZ]
   refine aoZ 1 (some 11) (fun K hK=>?_);go_simp;obtain⟨s0,s1,s2,s3⟩:=hHeld;refine(HSO.out _).mono ?_;rintro e_ q1 ⟨rfl,hb_⟩;go_wp2_with fail;refine hK.out _ _ ?_ (fun hHeld=>?_)
   ·exact⟨s0.u hb_,s1.u hb_,bu s2 hb_,(let ⟨o_,h_,e_⟩:=s3;⟨o_,h_.u hb_,e_⟩)⟩
   clear hK K s0 s1 s2 s3
   try simp only[lyZ]
   refine aoZ 4 (some 14) (fun K hK=>?_);go_simp;obtain⟨s0,s1,s2,s3⟩:=hHeld;refine(HEO.out _ s2).mono ?_;rintro e_ q2 ⟨rfl,hb2_⟩;go_wp2_with fail;refine hK.out _ _ ?_ (fun hHeld=>?_)
   ·exact⟨s0.u hb2_,s1.u hb2_,bu s2 hb2_,(let ⟨o_,h_,e_⟩:=s3;⟨o_,h_.u hb2_,e_⟩)⟩
   clear hK K s0 s1 s2 s3
   try simp only[lyZ]
   refine tqZ 6 16 (fun w_ ⟨s0,s1,s2,s3⟩=>HIJ.out) (h:=?_);simp only[lyZ];refine aoZ 8 none (fun K hK=>?_);rw[if_pos (by rfl)];obtain⟨s0,s1,s2,s3⟩:=hHeld;obtain⟨o_,h_,e_⟩:=s3;refine wp_store_row 30 _ _ rfl (gs) #[.int .i64 pe,.bool pr] (by rfl) (by rfl) 30 o_ h_.raw11 (by kernel_rfl) e_ (by kernel_rfl) ?_;refine hK.out _ _ ?_ (fun hHeld=>?_)
   ·exact⟨qae s0 (by omega) _,qae s1 (by omega) _,qac s2 (by omega) _,⟨_,qab h_ _,rfl⟩⟩
   refine mr4 (fun W_=>(Has W_ (gs) 30 #[.int .i64 pe,.bool pr])) ⟨qae s0 (by omega) _,qae s1 (by omega) _,qac s2 (by omega) _,⟨_,qab h_ _,rfl⟩,qab h_ _⟩ (fun h_=>?_);clear hHeld;have hHeld:=h_;clear h_;clear hK K h_ e_ s0 s1 s2
   try simp only[Act.put]
   refine tkZ 9 8 (h:=?_);simp only[lyZ];refine dnZ ?_;go_wp2_with fail;go_meet
   exact⟨rfl,gs,by omega,rfl,hHeld.2.2.2.2,hHeld.2.2.1⟩
  exact AllReadyH.nil
 obtain⟨rfl,gs,hgs_,rfl,hh_,hb_⟩:=hcut;obtain⟨u1,hu1⟩: ∃u1,u1=wc:=⟨_,rfl⟩
 subst hu1;have HH:=zq hh_;have HB:=zq hb_;have HGS:=zq (show wa.heap.size<=gs/\gs<u1.heap.size from⟨hgs_,hh_.lt⟩);clear hh_ hb_ hgs_;go_upto_region 2 with fail;go_upto_region 3 with(with_reducible refine ldZ 17 HH.out ?_)
 obtain⟨u2,hu2⟩:=geZ (u1.alloc (.cells #[.int .i64 pe,.bool pr] 30));rw[hu2];have hb2:Below u1.heap.size u1 u2:=by rw[<-hu2];exact bA
 have HO:=zq (show OwR stC 2 30 u1.heap.size u2 (some ⟨u1.heap.size,0,none⟩) 1 1 [⟨pe,pr⟩]from by rw[<-hu2];exact⟨World.ownsRow_lit (base:=u1.heap.size) (e:=30) (size:=2) u1 #[.int .i64 pe,.bool pr] 1 (Nat.le_refl _) (by unfold maxLen;omega) rfl,rfl⟩);have HH2:=uH HH hb2;have HB2:=tB HB hb2;have HUS:=zq hb2.size;clear hu2 hb2 HH HB;go_loopg [8,9] 41 (fun kk v8 v9 wl=> ∃(k j:Nat) (X:Option Addr) (c:Nat) (q:List St3) (s:St3) (rest:Int),42-k<=kk/\v9= .slice X k c/\v8= .int .i64 rest/\Hid (q.length+1=k)/\Hid (q++qbm t j s (rest-lenAt t s)=G/\sumT t q+rest=J)/\Hid (edgeB t s.edge=true/\ -1000000<=rest/\rest<=2000000000000)/\Hid (Has wl gs 30 #[.int .i64 s.edge,.bool s.rev])/\Hid (OwR stC 2 30 u1.heap.size wl X k c (q++[s]))/\Hid (Below wa.heap.size wa wl/\u1.heap.size<=wl.heap.size))
 case atStart=>exact⟨1,59,_,1,[],⟨pe,pr⟩,J,by omega,rfl,rfl,zq rfl,zq ⟨HST.out.1,by show 0+J=J;omega⟩,zq ⟨HEP.out,by have:=HJB.out;omega,HJB.out.2⟩,HH2,HO,zq ⟨HB2.out,HUS.out⟩⟩
 clear HO HB2 HH2;obtain⟨k,j,X,c,q,s,rest,hkk,rfl,rfl,HQL,HQ,HSB,HH,HO,HBU⟩:=hrel;have HB:=zq HBU.out.1;obtain⟨k1,hk1⟩: ∃k1,k1=gk:=⟨_,rfl⟩
 subst hk1;obtain⟨wv,hwv⟩: ∃wv,wv=wr:=⟨_,rfl⟩
 subst hwv;have hkG:k<=G.length:=by have h1_:=HQ.out.1;have h2_:=HQL.out;obtain⟨r_,hr_⟩:=gone_head t j s (rest-lenAt t s);rw[hr_]at h1_;rw[<-h1_];simp;omega
 have HK:=zq (show 1<=k/\k<=41/\42-k<=k1 from by have h1_:=HQL.out;have h2_:=HGL.out;omega);clear hkG hkk;have HLS:=zq (HLA.out s HSB.out.1);obtain⟨se,sr⟩:=s;dsimp only at HSB HH;have hx2:0<=se/\se<t.edges.length:=by have h_:=HSB.out.1;unfold edgeB at h_;simpa using h_
 obtain⟨e,hse⟩: ∃e:Nat,se=e:=⟨se.toNat,by omega⟩
 subst hse;have hel:e<t.edges.length:=by omega
 obtain⟨ln,hln⟩: ∃q,t.edges.getD e 0=q:=⟨_,rfl⟩
 have hlx:lenAt t ⟨(e:Int),sr⟩=ln:=by unfold lenAt;rw[<-hln];first|rfl|simp
 rw[hlx]at HLS HQ;have HLX:=zq hlx;obtain⟨be,oe,hpa_,ce⟩:=(HT.out wv HB.out).e.edge hel;rw[hln]at ce;have e0:wv.cell? ⟨w.heap.size,0,none⟩=some (.slice (some ⟨be,oe,none⟩) t.edges.length a.ce):=by have h_:=(H0.out wv HB.out).cell 0;rw[<-hpa_];exact h_
 have y2:(0:Int)<=e:=by omega
 have y3:(e:Int)<t.edges.length:=by omega
 have c0:wv.cell? ⟨gs,0,none⟩=some (.int .i64 (e:Int)):=HH.out.cell 0;clear hx2 hel hln hlx hpa_;by_cases z0:ln<rest;rotate_left
 ·have HF:=zq (show q++[⟨(e:Int),sr⟩]=G from by have h_:=HQ.out.1;rw[gone_end17 (by omega)]at h_;exact h_)
  go_wp2;go_ret
  have hl_:G.length=k:=by rw[<-HF.out];exact HO.out.2
  rw[hl_,<-HF.out];exact⟨_,c,rfl,HO.out.to_base (by have h1_:=HBZ.out;have h2_:=HGS.out;omega),HBWA.out.trans (HB.out.mono HBWA.out.size)⟩
 have HNX:=zq (gone_next17 (s:=⟨(e:Int),sr⟩) (k:=j) (left:=rest-ln) (pre:=q) HOK.out HGP.out HQ.out.1 (by rw[HLX.out];have h1_:=HQ.out.2;have h2_:=HST.out.2;have h3_:sumT t ([]:List St3)=0:=rfl;omega) (by omega));obtain⟨y,j2,hj2,hay,hg2,hs2⟩:=HNX.out;have HAY:=zq hay;obtain⟨l2,hl2⟩: ∃d,rest-ln=d:=⟨_,rfl⟩
 rw[hl2]at hg2 hs2;have HG2:=zq (show(q++[⟨(e:Int),sr⟩])++qbm t j2 y (l2-lenAt t y)=G/\sumT t (q++[⟨(e:Int),sr⟩])+l2=J from⟨hg2,by have h2_:=HST.out.2;have h3_:sumT t ([]:List St3)=0:=rfl;omega⟩);have hye:edgeB t y.edge=true:=(qbw.1 (by rw[hay];exact List.mem_cons_self ..)).2.1;have HYE:=zq hye;have HL2:=zq (show 0<l2/\l2<=2000000000000 from by have h1_:=HSB.out;have h2_:=HLS.out;omega);have hw1:wrap64 (rest-ln)=l2:=by rw[IntWalk.wrap64_in _ (by have h1_:=HL2.out;omega)];exact hl2
 have hw2:IntKind.i64.wrap (rest-ln)=l2:=by rw[IntKind.wrap_i64];have h1_:=HL2.out;omega
 clear hj2 hay hg2 hs2 hl2 hye HNX;go_upto_region 5 with fail;clear e0 ce z0 hw1 hw2 c0;obtain⟨ye,yr⟩:=y;dsimp only at HYE;go_wp2_with (first|(with_reducible refine ldZ 35 (H0.out wv HB.out) ?_)|(with_reducible refine ldZ 36 HH.out ?_));refine(qdh t a ⟨(e:Int),sr⟩ wv (HT.out wv HB.out) HLT.out).mono ?_;rw[HAY.out];rintro e_ w5 ⟨A5,c5,rfl,hs5,hb5⟩;obtain⟨b1,o1,rfl,d0,d1⟩:=hs5.step (j:=0) (x:=⟨ye,yr⟩) rfl;rw[Nat.zero_mul,Nat.add_zero]at d0 d1;dsimp only at d0 d1;have HH5:=uH HH hb5;have HO5:=zq (HO.out.under hb5);have HB5:=tB HB hb5;have HU5:=zq (Nat.le_trans HBU.out.2 hb5.size);clear hb5 hs5 HH HO HB;obtain⟨w6,hw6⟩:=geZ (w5.setRow gs #[.int .i64 ye,.bool yr]);have HH6:=zq (show Has w6 gs 30 #[.int .i64 ye,.bool yr]from by rw[<-hw6];exact qab HH5.out _);have HO6:=zq (show OwR stC 2 30 u1.heap.size w6 X k c (q++[⟨(e:Int),sr⟩])from by rw[<-hw6];exact HO5.out.rowlow17 HGS.out.2 _);have HB6:=zq (show Below wa.heap.size wa w6 from by rw[<-hw6];exact qac (g:=gs) HB5.out HGS.out.1 _);have HU6:=zq (show u1.heap.size<=w6.heap.size from by rw[<-hw6];simpa using HU5.out);have HW6:=zq hw6;clear hw6;go_upto_region 6 with(with_reducible refine stZ #[.int .i64 ye,.bool yr] HH5.out ?_)
 rw[HW6.out];clear HW6 HH5 HO5 HB5 d0 d1;obtain⟨q2,hq2⟩:=geZ (q++[(⟨(e:Int),sr⟩:St3)]);rw[hq2]at HO6 HG2;have HQ2:=zq (show q2.length=k from by rw[<-hq2,List.length_append];exact HQL.out);clear hq2;skip;obtain⟨hN,hO,hC,h1,hBD⟩:=pushR (f:=stC) (k:=2) (e:=30) (w:=w6) 16 ⟨ye,yr⟩ #[.int .i64 ye,.bool yr] rfl rfl (qed _) HO6.out HU6.out (by have h1_:=HK.out;omega) (by omega);have HBW:=zq (show Below wa.heap.size wa (w6.alloc (.cells #[.int .i64 ye,.bool yr] 30))from HB6.out.alloc HB6.out.size _);have HLN:=zq HO6.out.2;go_wp2_with (first|(with_reducible refine ldZ 41 HH6.out ?_)|(with_reducible refine qaZ (o:=⟨some 43,_,_,_,_,_⟩) rfl (.tmp 40) (.tmp 42) 35 rfl u1.heap.size 30 (.agg #[.int .i64 0,.bool false]) 2 16 Tryz.underlying35 qce ?hz (by decide) X (k) c ((q2).flatMap stC) ?hs hO ⟨w6.heap.size,0,none⟩ 1 1 (stC ⟨ye,yr⟩) ?hx hN hC h1 hBD ?next))
 all_goals try rfl
 intro X3 c3 u3 ho hg;have HO3:=zq (OwR.snoc HLN.out ho.out);have HB3:=zq (qas HBW.out HBW.out.size hO.out (by have h1_:=HBU.out;have h2_:=HGS.out;omega) rfl hg.out);have HU3:=zq (show u1.heap.size<=u3.heap.size from Nat.le_trans (by simpa using Nat.le_succ_of_le HU6.out) hg.out.size);have HH3:=zq (show Has u3 gs 30 #[.int .i64 ye,.bool yr]from(HH6.out.beside _).grow hg.out (fun e_=>by have:=((hO.out).lt gs e_.symm).1;have h2_:=HGS.out;omega));clear ho hg hN hO hC h1 hBD HO6 HB6 HH6 HBW HLN HBU HU6;go_wp2;go_roundg (k1-1)
 case measure=>have h1_:=HK.out;omega
 case rel=>exact⟨k+1,j2,X3,c3,q2,⟨ye,yr⟩,l2,by have h1_:=HK.out;omega,rfl,rfl,zq (by rw[HQ2.out]),HG2,zq ⟨HYE.out,by have:=HL2.out;omega,HL2.out.2⟩,HH3,HO3,zq ⟨HB3.out,HU3.out⟩⟩
theorem opn_may (t:Tp3)(a:TpA)(m:Ma3)(b:MaA)(w:World)(ht:TopR w t a)(hl:qaJ t=true)(hcj:t.joints.length<=a.cj)(hm:MaR w m b)(hn:m.path.length<=100)(hk:m.sects.length<=100):Calls Tryz.prog 26 #[.agg (tpC t a),.agg (maC m b)] w fun r w'=>r= .returned (.bool (mayM t m))/\Below w.heap.size w w':=by
 obtain⟨mr,mv,mp,ms,mg⟩:=m;obtain⟨AP,PC,AQ,CS⟩:=b;have hmP:=hm.path;have hmS:=hm.sects;have hcP:=hm.capP;have hcS:=hm.capS;have htop:=hm.top;unfold maC;dsimp only at hmP hmS hcP hcS htop hn hk⊢;have HTOP:=zq (show qbj 0 ms<=9223372036854775807 from last_top17 (by decide) htop);clear htop;have HEM:=zq (fun(W:World) (hs_:SlO scC17 2 W AQ ms.length CS ms) (h1_:1<=ms.length)=>opend_any ⟨mr,mv,mp,ms,mg⟩ ⟨AP,PC,AQ,CS⟩ W hs_ h1_ (by show ms.length<=1048576;omega));unfold maC at HEM;dsimp only at HEM;obtain⟨pn,hpn⟩: ∃n,mp.length=n:=⟨_,rfl⟩
 obtain⟨sn,hsn⟩: ∃n,ms.length=n:=⟨_,rfl⟩
 rw[hpn]at hmP hcP hn HEM⊢;rw[hsn]at hmS hcS hk HEM⊢;have HPN:=zq hpn;have HSN:=zq hsn;have HPC:=zq hcP;have HSC:=zq hcS;have HNK:=zq (show pn<=100/\sn<=100 from⟨hn,hk⟩);clear hpn hsn hcP hcS hn hk hm;obtain⟨wa,hwa,hbwa,HWA,HBWA,h0,h1⟩:=bx2Z w 27 (tpC t a) 38 #[.int .i64 mr,.bool mv,.slice AP pn PC,.slice AQ sn CS,.int .i64 mg];have HT:=zq (fun W (hW:Below wa.heap.size wa W)=>(ht.under hbwa).under hW);have HLT:=zq hl;have HCJ:=zq hcj;have H0:=zH h0;have H1:=zH h1;have HP:=zq (fun W (hW:Below wa.heap.size wa W)=>(hmP.under hbwa).under hW);have HS:=zq (fun W (hW:Below wa.heap.size wa W)=>(hmS.under hbwa).under hW);obtain⟨R,hR⟩:=geZ (mayM t (⟨mr,mv,mp,ms,mg⟩:Ma3));have HR:=zq hR;rw[hR];obtain⟨x,e,hloc⟩: ∃x e,locE t mr mv 0=(x,e):=⟨_,_,rfl⟩
 have HLOC:=zq hloc;have HC:=zq (qcg t a mr mv 0 wa (ht.under hbwa) hl hcj);rw[hloc]at HC;have m0:wa.cell? ⟨w.heap.size+1,0,none⟩=some (.int .i64 mr):=h1.cell 0;have m1:wa.cell? ⟨w.heap.size+1,1,none⟩=some (.bool mv):=h1.cell 1;have HSO:=zq (fun W=>qcG x W);have HEO:=zq (fun W (hW:Below wa.heap.size wa W)=>qee t a x W ((ht.under hbwa).under hW) hl hcj);clear hwa hbwa h0 h1 ht hl hcj hmP hmS hR hloc;obtain⟨pe,pa,pr⟩:=x;unfold psA stA13 stepP at HSO;dsimp only at HSO;unfold psA at HC HEO;dsimp only at HC HEO;go_enter Tryz.func26,Tryz.ntmps26;go_upto_region 1 with fail;rw[HWA.out];clear HWA;go_wp2_with (with_reducible refine ldZ 9 (H0.out wa (Below.refl _ _)) ?_);refine HC.out.mono ?_;rintro e_ w1 ⟨rfl,hb1⟩;have HB1:=zq hb1;clear hb1 HC m0 m1;go_upto_region 2 with fail;obtain⟨wb,hwb⟩:=geZ (w1.alloc (.cells #[.int .i64 pe,.int .i64 pa,.bool pr] 51));rw[hwb];have HBB:=zq (show Below wa.heap.size wa wb from by rw[<-hwb];exact HB1.out.alloc HB1.out.size _);have hH:Has wb w1.heap.size 51 #[.int .i64 pe,.int .i64 pa,.bool pr]:=by rw[<-hwb];exact Has.made _ _ _
 obtain⟨gP,hgP⟩: ∃g,w1.heap.size=g:=⟨_,rfl⟩
 rw[hgP]at hH;simp only[hgP];have HH:=zH hH;have HX:=zq (fun W (hW:Below wb.heap.size wb W)=>HBB.out.trans (hW.mono HBB.out.size));clear hwb hH hgP HB1;by_cases z0:e=0;rotate_left
 ·have q0:(e !=0)=true:=by simp[z0]
  obtain rfl:R=false:=by rw[<-HR.out];exact may_no17 (by show(locE t mr mv 0).2≠0;rw[HLOC.out];exact z0)
  clear z0;go_quiet (fail);go_wp2;go_ret
  exact⟨rfl,qaa (HBWA.out.trans (HBB.out.mono HBWA.out.size)) _⟩
 subst z0;have q0:((0:Int) !=0)=false:=rfl;have HMO:=zq ((may_own17 (t:=t) (m:=(⟨mr,mv,mp,ms,mg⟩:Ma3)) HLOC.out).symm.trans HR.out);have HLP:=zq (qcY HLOC.out);unfold stepP at HMO HEO;dsimp only at HMO HEO;obtain⟨pk,hpk⟩: ∃b,qdQ t mp=b:=⟨_,rfl⟩
 rw[hpk]at HMO;have HPK:=zq hpk;clear hpk
 cases pk with
 |false=>
  obtain rfl:R=false:=by rw[<-HMO.out];rfl
  refine wp_region_held_drew (S:=(fun W_=>(Has W_ (w.heap.size) 27 (tpC t a))/\(Has W_ (w.heap.size+1) 38 #[.int .i64 mr,.bool mv,.slice AP pn PC,.slice AQ sn CS,.int .i64 mg])/\(Has W_ (gP) 51 #[.int .i64 pe,.int .i64 pa,.bool pr])/\(Below wb.heap.size wb W_))) (by kernel_rfl) ?_ (fun hHeld=>?_)
  ·exact⟨(H0.out _ HBB.out).draw,(H1.out _ HBB.out).draw,(HH.out _ (Below.refl _ _)).draw,qah (Below.refl _ _)⟩
  refine tkZ 0 17 (h:=?_);simp only[lyZ];refine tkZ 1 18 (h:=?_);simp only[lyZ];refine tkZ 2 19 (h:=?_);simp only[lyZ];refine tlZ 3 20 w.heap.size (tpC t a) (fun _ ⟨h_,_,_,_⟩=>h_) (h:=?_);simp only[lyZ];refine tkZ 4 21 (h:=?_);simp only[lyZ];refine tqZ 5 22 (fun w_ ⟨s0,s1,s2,s3⟩=>(show w_.cell? ⟨w.heap.size+1,2,none⟩=some (.slice AP pn PC:Value)from s1.cell 2)) (h:=?_);simp only[lyZ];refine aoZ 6 (some 23) (fun K hK=>?_);go_simp;obtain⟨s0,s1,s2,s3⟩:=hHeld;refine(qdf t a mp AP pn PC _ (HT.out _ (HX.out _ s3)) HLT.out (HP.out _ (HX.out _ s3)) (by have:=HNK.out;omega) HPC.out).mono ?_;rw[HPK.out];rintro e_ q1 ⟨rfl,hb_⟩;go_wp2_with fail;refine hK.out _ _ ?_ (fun hHeld=>?_)
  ·exact⟨s0.u hb_,s1.u hb_,s2.u hb_,bu s3 hb_⟩
  clear hK K s0 s1 s2 s3
  try simp only[lyZ]
  refine tkZ 7 24 (h:=?_);simp only[lyZ];refine tkZ 8 25 (h:=?_);simp only[lyZ];refine tkZ 9 26 (h:=?_);simp only[lyZ];refine skZ 10 27 (h:=?_);simp only[lyZ];refine skZ 11 28 (h:=?_);simp only[lyZ];refine skZ 12 29 (h:=?_);simp only[lyZ];refine skZ 13 30 (h:=?_);simp only[lyZ];refine skZ 14 31 (h:=?_);simp only[lyZ];refine skZ 15 32 (h:=?_);simp only[lyZ];refine skZ 16 33 (h:=?_);simp only[lyZ];refine tkZ 17 34 (h:=?_);simp only[lyZ];refine tkZ 18 35 (h:=?_);simp only[lyZ];refine skZ 19 36 (h:=?_);simp only[lyZ];refine skZ 20 37 (h:=?_);simp only[lyZ];refine skZ 21 38 (h:=?_);simp only[lyZ];refine skZ 22 39 (h:=?_);simp only[lyZ];refine tkZ 23 40 (h:=?_);simp only[lyZ];refine dnZ ?_;have HBZ:=zq (HBWA.out.trans ((HX.out _ hHeld.2.2.2).mono HBWA.out.size));clear hHeld;go_wp2;go_ret
  exact⟨rfl,HBZ.out⟩
 |true=>
  have HLE:=zq (pathOk_lp17 HPK.out);have hlo:=qd8 HLE.out.1;have hp1:1<=pn:=by rw[<-HPN.out];exact List.length_pos_iff.2 hlo.1
  obtain⟨y,hy⟩:=glZ mp (0) (by rw[HPN.out];omega);rw[first_at17 hy]at HMO;obtain⟨bp,op_,rfl,d0,d1⟩:=(HP.out wb HBB.out).step hy;rw[Nat.zero_mul,Nat.add_zero]at d0 d1;have HYC:=zq (fun W (hW:Below wb.heap.size wb W)=>And.intro ((hW.cell (qag d0)).trans d0) ((hW.cell (qag d1)).trans d1));have HNQ:=zq (fun W=>neq_st13 y ⟨pe,pr⟩ W);obtain⟨fb,hfb⟩: ∃b,eqS y ⟨pe,pr⟩=b:=⟨_,rfl⟩
  rw[hfb]at HMO HNQ;have HYX:=zq hy;have HFB:=zq hfb;obtain⟨ye,yr⟩:=y;unfold stA13 at HNQ;dsimp only at HYC HNQ;have HEB:=zq (show∀s∈mp,edgeB t s.edge=true from hlo.2.2.1);have x1:(0:Int)<pn:=by omega
  have x2:0<pn:=by omega
  clear hlo hp1 hy d0 d1 hfb
  cases fb with
  |false=>
   obtain rfl:R=false:=by rw[<-HMO.out];rfl
   refine wp_region_held_drew (S:=(fun W_=>(Has W_ (w.heap.size) 27 (tpC t a))/\(Has W_ (w.heap.size+1) 38 #[.int .i64 mr,.bool mv,.slice (some ⟨bp,op_,none⟩) pn PC,.slice AQ sn CS,.int .i64 mg])/\(Has W_ (gP) 51 #[.int .i64 pe,.int .i64 pa,.bool pr])/\(Below wb.heap.size wb W_))) (by kernel_rfl) ?_ (fun hHeld=>?_)
   ·exact⟨(H0.out _ HBB.out).draw,(H1.out _ HBB.out).draw,(HH.out _ (Below.refl _ _)).draw,qah (Below.refl _ _)⟩
   refine tkZ 0 17 (h:=?_);simp only[lyZ];refine tkZ 1 18 (h:=?_);simp only[lyZ];refine tkZ 2 19 (h:=?_);simp only[lyZ];refine tlZ 3 20 w.heap.size (tpC t a) (fun _ ⟨h_,_,_,_⟩=>h_) (h:=?_);simp only[lyZ];refine tkZ 4 21 (h:=?_);simp only[lyZ];refine tqZ 5 22 (fun w_ ⟨s0,s1,s2,s3⟩=>(show w_.cell? ⟨w.heap.size+1,2,none⟩=some (.slice (some ⟨bp,op_,none⟩) pn PC:Value)from s1.cell 2)) (h:=?_);simp only[lyZ];refine aoZ 6 (some 23) (fun K hK=>?_);go_simp;obtain⟨s0,s1,s2,s3⟩:=hHeld;refine(qdf t a mp (some ⟨bp,op_,none⟩) pn PC _ (HT.out _ (HX.out _ s3)) HLT.out (HP.out _ (HX.out _ s3)) (by have:=HNK.out;omega) HPC.out).mono ?_;rw[HPK.out];rintro e_ q1 ⟨rfl,hb_⟩;go_wp2_with fail;refine hK.out _ _ ?_ (fun hHeld=>?_)
   ·exact⟨s0.u hb_,s1.u hb_,s2.u hb_,bu s3 hb_⟩
   clear hK K s0 s1 s2 s3
   try simp only[lyZ]
   refine tkZ 7 24 (h:=?_);simp only[lyZ];refine tkZ 8 25 (h:=?_);simp only[lyZ];refine tkZ 9 26 (h:=?_);simp only[lyZ];refine tkZ 10 27 (h:=?_);simp only[lyZ];refine tqZ 11 28 (fun w_ ⟨s0,s1,s2,s3⟩=>(show w_.cell? ⟨w.heap.size+1,2,none⟩=some (.slice (some ⟨bp,op_,none⟩) pn PC:Value)from s1.cell 2)) (h:=?_);simp only[lyZ];refine tkZ 12 29 (h:=?_);simp only[lyZ];refine tqZ 13 30 (fun w_ ⟨s0,s1,s2,s3⟩=>And.intro ((HYC.out w_ s3).1) ((HYC.out w_ s3).2)) (h:=?_);simp only[lyZ];refine tlZ 14 31 gP #[.int .i64 pe,.int .i64 pa,.bool pr] (fun _ ⟨_,_,h_,_⟩=>h_) (h:=?_);simp only[lyZ];refine aoZ 15 (some 32) (fun K hK=>?_);go_simp;obtain⟨s0,s1,s2,s3⟩:=hHeld;refine(HSO.out _).mono ?_;rintro e_ q2 ⟨rfl,hb2_⟩;go_wp2_with fail;refine hK.out _ _ ?_ (fun hHeld=>?_)
   ·exact⟨s0.u hb2_,s1.u hb2_,s2.u hb2_,bu s3 hb2_⟩
   clear hK K s0 s1 s2 s3
   try simp only[lyZ]
   refine wpAnyH_take (i:=16) (oi:=⟨some 33,_,_,_,_,_⟩) (v:=_) rfl (by kernel_rfl) (by kernel_rfl) (by kernel_rfl) (fun _ _ _ h=>h) (qbo .neq 30 _ _ _ rfl _ _ rfl rfl qcH _ HNQ.out (by rfl)) (by assumption) ?_;simp only[lyZ];refine tkZ 17 34 (h:=?_);simp only[lyZ];refine tkZ 18 35 (h:=?_);simp only[lyZ];refine skZ 19 36 (h:=?_);simp only[lyZ];refine skZ 20 37 (h:=?_);simp only[lyZ];refine skZ 21 38 (h:=?_);simp only[lyZ];refine skZ 22 39 (h:=?_);simp only[lyZ];refine tkZ 23 40 (h:=?_);simp only[lyZ];refine dnZ ?_;have HBZ:=zq (HBWA.out.trans ((HX.out _ hHeld.2.2.2).mono HBWA.out.size));clear hHeld;go_wp2;go_ret
   exact⟨rfl,HBZ.out⟩
  |true=>
  obtain⟨sb,hsb⟩: ∃b,qdI ms=b:=⟨_,rfl⟩
  rw[hsb]at HMO;have HSB:=zq hsb;clear hsb;refine wp_region_held_drew (S:=(fun W_=>(Has W_ (w.heap.size) 27 (tpC t a))/\(Has W_ (w.heap.size+1) 38 #[.int .i64 mr,.bool mv,.slice (some ⟨bp,op_,none⟩) pn PC,.slice AQ sn CS,.int .i64 mg])/\(Has W_ (gP) 51 #[.int .i64 pe,.int .i64 pa,.bool pr])/\(Below wb.heap.size wb W_))) (by kernel_rfl) ?_ (fun hHeld=>?_)
  ·exact⟨(H0.out _ HBB.out).draw,(H1.out _ HBB.out).draw,(HH.out _ (Below.refl _ _)).draw,qah (Below.refl _ _)⟩
  refine tkZ 0 17 (h:=?_);simp only[lyZ];refine tkZ 1 18 (h:=?_);simp only[lyZ];refine tkZ 2 19 (h:=?_);simp only[lyZ];refine tlZ 3 20 w.heap.size (tpC t a) (fun _ ⟨h_,_,_,_⟩=>h_) (h:=?_);simp only[lyZ];refine tkZ 4 21 (h:=?_);simp only[lyZ];refine tqZ 5 22 (fun w_ ⟨s0,s1,s2,s3⟩=>(show w_.cell? ⟨w.heap.size+1,2,none⟩=some (.slice (some ⟨bp,op_,none⟩) pn PC:Value)from s1.cell 2)) (h:=?_);simp only[lyZ];refine aoZ 6 (some 23) (fun K hK=>?_);go_simp;obtain⟨s0,s1,s2,s3⟩:=hHeld;refine(qdf t a mp (some ⟨bp,op_,none⟩) pn PC _ (HT.out _ (HX.out _ s3)) HLT.out (HP.out _ (HX.out _ s3)) (by have:=HNK.out;omega) HPC.out).mono ?_;rw[HPK.out];rintro e_ q1 ⟨rfl,hb_⟩;go_wp2_with fail;refine hK.out _ _ ?_ (fun hHeld=>?_)
  ·exact⟨s0.u hb_,s1.u hb_,s2.u hb_,bu s3 hb_⟩
  clear hK K s0 s1 s2 s3
  try simp only[lyZ]
  refine tkZ 7 24 (h:=?_);simp only[lyZ];refine tkZ 8 25 (h:=?_);simp only[lyZ];refine tkZ 9 26 (h:=?_);simp only[lyZ];refine tkZ 10 27 (h:=?_);simp only[lyZ];refine tqZ 11 28 (fun w_ ⟨s0,s1,s2,s3⟩=>(show w_.cell? ⟨w.heap.size+1,2,none⟩=some (.slice (some ⟨bp,op_,none⟩) pn PC:Value)from s1.cell 2)) (h:=?_);simp only[lyZ];refine tkZ 12 29 (h:=?_);simp only[lyZ];refine tqZ 13 30 (fun w_ ⟨s0,s1,s2,s3⟩=>And.intro ((HYC.out w_ s3).1) ((HYC.out w_ s3).2)) (h:=?_);simp only[lyZ];refine tlZ 14 31 gP #[.int .i64 pe,.int .i64 pa,.bool pr] (fun _ ⟨_,_,h_,_⟩=>h_) (h:=?_);simp only[lyZ];refine aoZ 15 (some 32) (fun K hK=>?_);go_simp;obtain⟨s0,s1,s2,s3⟩:=hHeld;refine(HSO.out _).mono ?_;rintro e_ q2 ⟨rfl,hb2_⟩;go_wp2_with fail;refine hK.out _ _ ?_ (fun hHeld=>?_)
  ·exact⟨s0.u hb2_,s1.u hb2_,s2.u hb2_,bu s3 hb2_⟩
  clear hK K s0 s1 s2 s3
  try simp only[lyZ]
  refine wpAnyH_take (i:=16) (oi:=⟨some 33,_,_,_,_,_⟩) (v:=_) rfl (by kernel_rfl) (by kernel_rfl) (by kernel_rfl) (fun _ _ _ h=>h) (qbo .neq 30 _ _ _ rfl _ _ rfl rfl qcH _ HNQ.out (by rfl)) (by assumption) ?_;simp only[lyZ];refine tkZ 17 34 (h:=?_);simp only[lyZ];refine tkZ 18 35 (h:=?_);simp only[lyZ];refine tkZ 19 36 (h:=?_);simp only[lyZ];refine tqZ 20 37 (fun w_ ⟨s0,s1,s2,s3⟩=>(show w_.cell? ⟨w.heap.size+1,3,none⟩=some (.slice AQ sn CS:Value)from s1.cell 3)) (h:=?_);simp only[lyZ];refine aoZ 21 (some 38) (fun K hK=>?_);go_simp;obtain⟨s0,s1,s2,s3⟩:=hHeld;refine(opsects_any ms AQ sn CS _ (HS.out _ (HX.out _ s3)) (by have:=HNK.out;omega)).mono ?_;rw[HSB.out];rintro e_ q3 ⟨rfl,hb3_⟩;go_wp2_with fail;refine hK.out _ _ ?_ (fun hHeld=>?_)
  ·exact⟨s0.u hb3_,s1.u hb3_,s2.u hb3_,bu s3 hb3_⟩
  clear hK K s0 s1 s2 s3
  try simp only[lyZ]
  refine tkZ 22 39 (h:=?_);simp only[lyZ];refine tkZ 23 40 (h:=?_);simp only[lyZ];refine dnZ ?_;obtain⟨w3,hw3⟩: ∃w,w=q3:=⟨_,rfl⟩
  subst hw3;have HB3:=zq hHeld.2.2.2;clear hHeld HNQ HYC HSO x1 x2
  cases sb with
  |false=>
   obtain rfl:R=false:=by rw[<-HMO.out];rfl
   go_wp2;go_ret
   exact⟨rfl,HBWA.out.trans ((HX.out _ HB3.out).mono HBWA.out.size)⟩
  |true=>
  have HSL:=zq (sects_lp17 HSB.out);have HOK:=zq (qaD HLP.out.1).1;have HIN:=zq (qcf HOK.out (qaQ.1 HLP.out.2.2.1).2);have HEN:=zq (qd0 HLP.out.2.2.1);have HLI:=zq (qa2 HOK.out (s:=stepP ⟨pe,pa,pr⟩) (qbu.1 (qaQ.1 HLP.out.2.2.1).2).1);unfold stepP at HEN;dsimp only at HEN;rw[HEN.out]at HEO;have HSM:=zq (qcw HOK.out HEB.out);obtain⟨I,hI⟩:=geZ (intoP t ⟨pe,pa,pr⟩);rw[hI]at HIN HEO HMO;obtain⟨S,hS⟩:=geZ (sumT t mp);rw[hS]at HSM HMO;have HSE:=zq hS;obtain⟨E,hE⟩:=geZ (endM (⟨mr,mv,mp,ms,mg⟩:Ma3));have HEL:=zq (show qbj 0 ms=E from hE);rw[hE]at HEM HMO;obtain⟨D,hD⟩:=geZ (S-I);have hy0:mp[0]?=some ⟨pe,pr⟩:=by rw[HYX.out,(qaI _ _).1 HFB.out]
  have hle:=head_le17 (t:=t) hy0 (fun s hs=>qa2 HOK.out (HEB.out s hs));rw[HSE.out]at hle;have hin:=HIN.out;have HDB:=zq (show 0<=D/\D<=24000000 from by have h1_:=HSM.out;have h4_:=HLE.out.2;have h5_:lenAt t (stepP ⟨pe,pa,pr⟩)=lenAt t ⟨pe,pr⟩:=rfl;omega);clear hy0 hle hin;have hw1:IntKind.i64.wrap (S-I)=D:=by rw[IntKind.wrap_i64];have h1_:=HDB.out;omega
  have HW1:=zq hw1;rw[hD]at HMO;clear hI hS hE hD hw1 HSB HPK;go_upto_region 4 with fail;refine wp_region_held_drew (S:=(fun W_=>(Has W_ (w.heap.size) 27 (tpC t a))/\(Has W_ (w.heap.size+1) 38 #[.int .i64 mr,.bool mv,.slice (some ⟨bp,op_,none⟩) pn PC,.slice AQ sn CS,.int .i64 mg])/\(Has W_ (gP) 51 #[.int .i64 pe,.int .i64 pa,.bool pr])/\(Below w3.heap.size w3 W_))) (by kernel_rfl) ?_ (fun hHeld=>?_)
  ·exact⟨(H0.out _ (HX.out _ HB3.out)).draw,(H1.out _ (HX.out _ HB3.out)).draw,(HH.out _ HB3.out).draw,qah (Below.refl _ _)⟩
  refine tlZ 0 41 w.heap.size (tpC t a) (fun _ ⟨h_,_,_,_⟩=>h_) (h:=?_);simp only[lyZ];refine tkZ 1 42 (h:=?_);simp only[lyZ];refine tqZ 2 43 (fun w_ ⟨s0,s1,s2,s3⟩=>(show w_.cell? ⟨w.heap.size+1,2,none⟩=some (.slice (some ⟨bp,op_,none⟩) pn PC:Value)from s1.cell 2)) (h:=?_);simp only[lyZ];refine tlZ 4 45 w.heap.size (tpC t a) (fun _ ⟨h_,_,_,_⟩=>h_) (h:=?_);simp only[lyZ];refine tlZ 5 46 gP #[.int .i64 pe,.int .i64 pa,.bool pr] (fun _ ⟨_,_,h_,_⟩=>h_) (h:=?_);simp only[lyZ];refine aoZ 3 (some 44) (fun K hK=>?_);go_simp;obtain⟨s0,s1,s2,s3⟩:=hHeld;refine(qfu t a mp (some ⟨bp,op_,none⟩) pn PC _ (HT.out _ (HX.out _ (bu HB3.out s3))) (HP.out _ (HX.out _ (bu HB3.out s3))) (by have:=HNK.out;omega) HOK.out HEB.out).mono ?_;rw[HSE.out];rintro e_ q4 ⟨rfl,hb4_⟩;go_wp2_with fail;refine hK.out _ _ ?_ (fun hHeld=>?_)
  ·exact⟨s0.u hb4_,s1.u hb4_,s2.u hb4_,bu s3 hb4_⟩
  clear hK K s0 s1 s2 s3
  try simp only[lyZ]
  refine aoZ 6 (some 47) (fun K hK=>?_);go_simp;obtain⟨s0,s1,s2,s3⟩:=hHeld;refine(HEO.out _ (HX.out _ (bu HB3.out s3))).mono ?_;rintro e_ q5 ⟨rfl,hb5_⟩;go_wp2_with fail;refine hK.out _ _ ?_ (fun hHeld=>?_)
  ·exact⟨s0.u hb5_,s1.u hb5_,s2.u hb5_,bu s3 hb5_⟩
  clear hK K s0 s1 s2 s3
  try simp only[lyZ]
  refine tqZ 7 48 (fun w_ ⟨s0,s1,s2,s3⟩=>HW1.out) (h:=?_);simp only[lyZ];refine tkZ 8 7 (h:=?_);simp only[lyZ];refine dnZ ?_;obtain⟨w4,hw4⟩: ∃w,w=q5:=⟨_,rfl⟩
  subst hw4;have HB4:=zq (HB3.out.trans (hHeld.2.2.2.mono HB3.out.size));clear hHeld HW1;by_cases z1:0<=mg;rotate_left
  ·obtain rfl:R=false:=by rw[<-HMO.out,decide_eq_false z1];simp
   have z2:decide (0<=mg)=false:=decide_eq_false z1;have z3:decide (mg≥0)=false:=decide_eq_false z1;have m4:w4.cell? ⟨w.heap.size+1,4,none⟩=some (.int .i64 mg):=(H1.out w4 (HX.out _ HB4.out)).cell 4;go_upto_region 5 with fail;go_quiet (fail);go_wp2;go_ret
   exact⟨rfl,qaa (HBWA.out.trans ((HX.out _ HB4.out).mono HBWA.out.size)) _⟩
  have z2:decide (0<=mg)=true:=decide_eq_true z1;have z3:decide (mg≥0)=true:=decide_eq_true z1;obtain⟨F,hF⟩:=geZ (D-E);have HEH:=zq (show 0<=E from by rw[<-HEL.out];exact HSL.out.1);skip;have hwf:IntKind.i64.wrap (D-E)=F:=by rw[IntKind.wrap_i64];have h1_:=HDB.out;have h2_:=HEH.out;have h3_:=HTOP.out;have h4_:=HEL.out;omega
  have HWF:=zq hwf;clear hwf;have hqe:decide (mg<=F)=R:=by rw[<-HMO.out,hF,z2];simp
  have HQE:=zq hqe;clear hqe HMO hF;go_upto_region 5 with fail;refine wp_region_held_drew (S:=(fun W_=>(Has W_ (w.heap.size) 27 (tpC t a))/\(Has W_ (w.heap.size+1) 38 #[.int .i64 mr,.bool mv,.slice (some ⟨bp,op_,none⟩) pn PC,.slice AQ sn CS,.int .i64 mg])/\(Below w4.heap.size w4 W_))) (by kernel_rfl) ?_ (fun hHeld=>?_)
  ·exact⟨(H0.out _ (HX.out _ HB4.out)).draw,(H1.out _ (HX.out _ HB4.out)).draw,qah (Below.refl _ _)⟩
  refine tkZ 0 49 (h:=?_);simp only[lyZ];refine tqZ 1 50 (fun w_ ⟨s0,s1,s2⟩=>(show w_.cell? ⟨w.heap.size+1,4,none⟩=some (.int .i64 mg:Value)from s1.cell 4)) (h:=?_);simp only[lyZ];refine tkZ 2 51 (h:=?_);simp only[lyZ];refine tkZ 3 52 (h:=?_);simp only[lyZ];refine tkZ 4 53 (h:=?_);simp only[lyZ];refine tqZ 5 54 (fun w_ ⟨s0,s1,s2⟩=>(show w_.cell? ⟨w.heap.size+1,4,none⟩=some (.int .i64 mg:Value)from s1.cell 4)) (h:=?_);simp only[lyZ];refine tkZ 6 55 (h:=?_);simp only[lyZ];refine tlZ 7 56 (w.heap.size+1) #[.int .i64 mr,.bool mv,.slice (some ⟨bp,op_,none⟩) pn PC,.slice AQ sn CS,.int .i64 mg] (fun _ ⟨_,h_,_⟩=>h_) (h:=?_);simp only[lyZ];refine aoZ 8 (some 57) (fun K hK=>?_);go_simp;obtain⟨s0,s1,s2⟩:=hHeld;refine(HEM.out _ (HS.out _ (HX.out _ (bu HB4.out s2))) (by have h1_:=HSL.out.2.1;have h2_:=HSN.out;omega)).mono ?_;rintro e_ q6 ⟨rfl,hb6_⟩;go_wp2_with fail;refine hK.out _ _ ?_ (fun hHeld=>?_)
  ·exact⟨s0.u hb6_,s1.u hb6_,bu s2 hb6_⟩
  clear hK K s0 s1 s2
  try simp only[lyZ]
  refine tqZ 9 58 (fun w_ ⟨s0,s1,s2⟩=>HWF.out) (h:=?_);simp only[lyZ];refine tkZ 10 59 (h:=?_);simp only[lyZ];refine tkZ 11 60 (h:=?_);simp only[lyZ];refine tkZ 12 4 (h:=?_);simp only[lyZ];refine dnZ ?_;have HBZ:=zq (HBWA.out.trans ((HX.out _ (HB4.out.trans (hHeld.2.2.mono HB4.out.size))).mono HBWA.out.size));clear hHeld;go_wp2;go_ret
  exact⟨by show Ending.returned (.bool (decide (mg<=F)))=_;rw[HQE.out],HBZ.out⟩
end
end Go.Proofs.YtahadmeilajdgaaGreatDoor
