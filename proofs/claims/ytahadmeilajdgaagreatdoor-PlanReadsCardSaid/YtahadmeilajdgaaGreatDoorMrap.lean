/-
  Our own text, joined.
-/
import Derived.Test.YtahadmeilajdgaaGreatDoorMrao
import Derived.Test.YtahadmeilajdgaaGreatDoorMrak
import Derived.BigQuiet
import Derived.IntWalk
import Derived.Test.YtahadmeilajdgaaGreatDoorMraa
namespace Go.Proofs.YtahadmeilajdgaaGreatDoor
set_option maxRecDepth 100000
set_option maxHeartbeats 80000000
section
open Go.RowKit
open Go.Great
theorem OwR.draw1 {α:Type}{f:α->List Value}{k:Nat}{e:TypeId}{base:Nat}{w:World}{A:Option Addr}{n c:Nat}{l:List α}(h:OwR f k e base w A n c l):OwR f k e base w.drew A n c l:=h
theorem SlO.draw1 {α:Type}{f:α->List Value}{k:Nat}{w:World}{A:Option Addr}{n c:Nat}{l:List α}(h:SlO f k w A n c l):SlO f k w.drew A n c l:=h
theorem qaN {P:Program}{o:Oper}{a:Act}{w:World}{K:Act->World->Prop}{Q:Exit->Act->World->Prop}(ty:TypeId)(x y:Operand)(ho:o.op= .store ty x y)
  (g i:Nat) (v:Value) (hx:a.eval x= .pointer (some ⟨g,i,none⟩)) (hy:a.eval y=v) (t:TypeId) (old:Array Value) (hg:Has w g t old) (hio:i<old.size) (hi:(P.info? ty).map (·.size)=some 1)
  (h1:v.oneCell'=true) (new:Array Value) (hn:(old.toList.take i++[v]++old.toList.drop (i+1)).toArray=new) (h:K (a.put o.dst undef) (w.setRow g new)):o.wp P a w K Q:=by
 have hc:v.cells=#[v]:=by cases v<;>first|rfl|cases h1
 have hst:=run_storeCells_at P g i t [v] 0 old w hg (by simp;omega) (fun u hu=>by simp at hu;subst hu;exact h1);have hrun:(storeVar ty ⟨g,i,none⟩ v).run P w= .ok () (w.setRow g new):=by
  cases hq:P.info? ty with
  |none=>simp[hq]at hi
  |some j=>
   have hs:j.size=1:=by simpa[hq]using hi
   simp only[Nat.add_zero,List.length_singleton]at hst;rw[hn]at hst;simp[storeVar,sizeOf,typeInfo,hq,hc,hs,hst]
 unfold Oper.wp execOp;simp only[ho,hx,hy,Instr.storeAt,Instr.sureAddr,Sem.run_bind,Sem.run_pure,Result.andThen_ok,hrun];exact h
theorem qfS {P:Program}{o:Oper}{a:Act}{w:World}{K:Act->World->Prop}{Q:Exit->Act->World->Prop}(ty:TypeId)(x y:Operand)(ho:o.op= .store ty x y)
  (g:Nat) (v:Value) (hx:a.eval x= .pointer (some ⟨g,0,none⟩)) (hy:a.eval y=v) (t:TypeId) (old:Array Value) (hg:Has w g t old) (hold:old.size=1) (hi:(P.info? ty).map (·.size)=some 1)
  (h1:v.oneCell'=true) (h:K (a.put o.dst undef) (w.setRow g #[v])):o.wp P a w K Q:=
 qaN ty x y ho g 0 v hx hy t old hg (by omega) hi h1 #[v] (by
  have:old.toList.length=1:=by simpa using hold
  obtain⟨u,hu⟩:=List.length_eq_one_iff.1 this;rw[hu]
  rfl) h
theorem qal {P:Program}{ops:Array Oper}{rest:List Oper}{o:Oper}{a:Act}{w:World}{Q:Exit->Act->World->Prop}(hgd:o.guard=none)(ty:TypeId)(x y:Operand)(ho:o.op= .store ty x y)
  (g i:Nat) (v:Value) (hx:a.eval x= .pointer (some ⟨g,i,none⟩)) (hy:a.eval y=v) (t:TypeId) (old:Array Value) (hg:Has w g t old) (hio:i<old.size) (hi:(P.info? ty).map (·.size)=some 1)
  (h1:v.oneCell'=true) (new:Array Value) (hn:(old.toList.take i++[v]++old.toList.drop (i+1)).toArray=new) (h:wpList P ops Q rest (a.put o.dst undef) (w.setRow g new)):wpList P ops Q (o::rest) a w:=
 wpList_plain hgd fun _ hK=>qaN ty x y ho g i v hx hy t old hg hio hi h1 new hn (hK _ _ h)
theorem opc1_any (route:List St3)(s:St3)(A:Option Addr)(n c:Nat)(g:Nat)(w:World)(hg:Has w g 30 (stA13 s))(hs:SlO stC 2 w A n c route)(hn:n<=1048576):
  Calls Tryz.prog 41 #[.slice A n c,.pointer (some ⟨g,0,none⟩)] w fun r w'=>r= .returned (.bool (qbV route s))/\Below w.heap.size w w':=by
 have H:=zq (qfq route s A n c w hs hn);have HG:=zq hg;generalize qbV route s=R at*;clear hg hs;go_enter Tryz.func41,Tryz.ntmps41;go_wp2_with (with_reducible refine ldZ 5 HG.out ?_);refine H.out.mono ?_;rintro e_ w1 ⟨rfl,hb1⟩;have HB1:=zq hb1;clear hb1 H HG;go_wp2;go_ret
 exact⟨rfl,HB1.out⟩
theorem opc3_any (route steps path:List St3)(A B C:Option Addr)(n c m d k x:Nat)(ga gp:Nat)(w:World)(ha:Has w ga 35 #[.slice B m d])(hp:Has w gp 35 #[.slice C k x])(hr:SlO stC 2 w A n c route)(hs:SlO stC 2 w B m d steps)(hq:SlO stC 2 w C k x path)(hn:n<=1048576)(hm:m<=1048576)(hk:k<=1048576):
  Calls Tryz.prog 46 #[.slice A n c,.pointer (some ⟨ga,0,none⟩),.pointer (some ⟨gp,0,none⟩)] w fun r w'=>r= .returned (.bool (qc6 route steps &&!qeW route path))/\Below w.heap.size w w':=by
 have a0:w.cell? ⟨ga,0,none⟩=some (.slice B m d):=ha.cell 0;have HP:=zq hp;have H:=zq (opbegins_any route steps A B n c m d w hr hs hm);have HM:=zq (fun W (hW:Below w.heap.size w W)=>opmeets_any route path A C n c k x W (hr.under hW) (hq.under hW) hn hk);generalize qc6 route steps=b1 at*;generalize qeW route path=b2 at*;clear ha hp hr hs hq;go_enter Tryz.func46,Tryz.ntmps46;go_wp2_with fail;refine H.out.mono ?_;rintro e_ w1 ⟨rfl,hb1⟩;have HB1:=zq hb1;have p0:w1.cell? ⟨gp,0,none⟩=some (.slice C k x):=(HP.out.u hb1).cell 0;have HM1:=zq (HM.out w1 hb1);clear hb1 a0 H HM HP
 cases b1 with
 |false=>
  go_wp2;go_ret
  exact⟨rfl,HB1.out⟩
 |true=>
  go_wp2_with fail;refine HM1.out.mono ?_;rintro e_ w2 ⟨rfl,hb2⟩;have HB2:=tB HB1 hb2;clear hb2 p0;go_wp2;go_ret
  exact⟨by simp,HB2.out⟩
theorem opc2a_any (t:Tp3)(a:TpA)(k:Lc3)(s:St3)(gs:Nat)(gf gt:Nat)(w:World)(ht:TopR w t a)(hl:qaJ t=true)(hF:Has w gf 84 #[.func (.func 41) #[] #[.pointer (some ⟨gs,0,none⟩)]])(hT:Has w gt 27 (tpC t a))(hS:Has w gs 30 (stA13 s)):
  Calls Tryz.prog 44 #[.agg (lcA k),.pointer (some ⟨gf,0,none⟩),.pointer (some ⟨gt,0,none⟩)] w fun r w'=>r= .returned (.bool (qbV (pathR t k.route) s))/\Below w.heap.size w w':=by
 obtain⟨kr,kt,kn⟩:=k;have HPO:=zq (fun W (hW:Below w.heap.size w W)=>qez t a ⟨kr,kt,kn⟩ W (ht.under hW) hl);have HPF:=zq (qbI hl kr);unfold lcA at HPO⊢;dsimp only at HPO⊢;obtain⟨rp,hrp⟩: ∃p,pathR t kr=p:=⟨_,rfl⟩
 rw[hrp]at HPO HPF⊢;clear hrp;obtain⟨wa,hwa,hbwa,HWA,HBWA,h0⟩:=bx1Z w 73 #[.int .i64 kr,.int .i64 kt,.int .i64 kn];have HF:=zq (hF.u hbwa);have HTT:=zq (hT.u hbwa);have HL0:=zq h0;have HSS:=zq (hS.u hbwa);clear hS;clear hwa hbwa h0 hF hT ht hl;go_enter Tryz.func44,Tryz.ntmps44;go_upto_region 1 with fail;rw[HWA.out];clear HWA;refine wp_region_held_drew (S:=(fun W_=>(Has W_ (gf) 84 #[.func (.func 41) #[] #[.pointer (some ⟨gs,0,none⟩)]])/\(Has W_ (gt) 27 (tpC t a))/\(Has W_ (w.heap.size) 73 #[.int .i64 kr,.int .i64 kt,.int .i64 kn])/\(Below wa.heap.size wa W_)/\(Has W_ (gs) 30 (stA13 s)))) (by kernel_rfl) ?_ (fun hHeld=>?_)
 ·exact⟨HF.out.draw,HTT.out.draw,HL0.out.draw,qah (Below.refl _ _),HSS.out.draw⟩
 refine tqZ 0 5 (fun w_ ⟨s0,s1,s2,s3,s4⟩=>(show w_.cell? ⟨gf,0,none⟩=some (.func (.func 41) #[] #[.pointer (some ⟨gs,0,none⟩)]:Value)from s0.cell 0)) (h:=?_);simp only[lyZ];refine tlZ 1 6 gt (tpC t a) (fun _ ⟨_,h_,_,_,_⟩=>h_) (h:=?_);simp only[lyZ];refine tlZ 2 7 w.heap.size #[.int .i64 kr,.int .i64 kt,.int .i64 kn] (fun _ ⟨_,_,h_,_,_⟩=>h_) (h:=?_);simp only[lyZ];refine aoZ 3 (some 8) (fun K hK=>?_);go_simp;obtain⟨s0,s1,s2,s3,s4⟩:=hHeld;refine(HPO.out _ (bu HBWA.out s3)).mono ?_;rintro e_ q1 ⟨X,x,rfl,hsl_,hb_⟩;have HSL:=zq (hsl_);go_wp2_with fail;refine hK.out _ _ ?_ (fun hHeld=>?_)
 ·exact⟨s0.u hb_,s1.u hb_,s2.u hb_,bu s3 hb_,s4.u hb_⟩
 clear hK K s0 s1 s2 s3 s4
 try simp only[lyZ]
 refine aoZ 4 (some 9) (fun K hK=>?_);go_simp;obtain⟨s0,s1,s2,s3,s4⟩:=hHeld;refine(opc1_any rp s X _ x gs _ s4 HSL.out (by have:=HPF.out;omega)).mono ?_;rintro e_ q2 ⟨rfl,hb2_⟩;have HSL:=zq (HSL.out.under hb2_);go_wp2_with fail;refine hK.out _ _ ?_ (fun hHeld=>?_)
 ·exact⟨s0.u hb2_,s1.u hb2_,s2.u hb2_,bu s3 hb2_,s4.u hb2_⟩
 clear hK K s0 s1 s2 s3 s4
 try simp only[lyZ]
 refine tkZ 5 4 (h:=?_);simp only[lyZ];refine dnZ ?_;have HB1:=zq (HBWA.out.trans (hHeld.2.2.2.1.mono HBWA.out.size));clear hHeld;go_wp2;go_ret
 exact⟨rfl,HB1.out⟩
theorem opc2b_any (t:Tp3)(a:TpA)(k:Lc3)(steps path:List St3)(B C:Option Addr)(m d j x:Nat)(ga gp:Nat)(gf gt:Nat)(w:World)(ht:TopR w t a)(hl:qaJ t=true)(hF:Has w gf 84 #[.func (.func 46) #[] #[.pointer (some ⟨ga,0,none⟩),.pointer (some ⟨gp,0,none⟩)]])(hT:Has w gt 27 (tpC t a))(ha:Has w ga 35 #[.slice B m d])(hp:Has w gp 35 #[.slice C j x])(hs:SlO stC 2 w B m d steps)(hq:SlO stC 2 w C j x path)(hm:m<=1048576)(hj:j<=1048576):
  Calls Tryz.prog 44 #[.agg (lcA k),.pointer (some ⟨gf,0,none⟩),.pointer (some ⟨gt,0,none⟩)] w fun r w'=>r= .returned (.bool (qc6 (pathR t k.route) steps &&!qeW (pathR t k.route) path))/\Below w.heap.size w w':=by
 obtain⟨kr,kt,kn⟩:=k;have HPO:=zq (fun W (hW:Below w.heap.size w W)=>qez t a ⟨kr,kt,kn⟩ W (ht.under hW) hl);have HPF:=zq (qbI hl kr);unfold lcA at HPO⊢;dsimp only at HPO⊢;obtain⟨rp,hrp⟩: ∃p,pathR t kr=p:=⟨_,rfl⟩
 rw[hrp]at HPO HPF⊢;clear hrp;obtain⟨wa,hwa,hbwa,HWA,HBWA,h0⟩:=bx1Z w 73 #[.int .i64 kr,.int .i64 kt,.int .i64 kn];have HF:=zq (hF.u hbwa);have HTT:=zq (hT.u hbwa);have HL0:=zq h0;have HA:=zq (ha.u hbwa);have HP:=zq (hp.u hbwa);have HS:=zq (fun W (hW:Below w.heap.size w W)=>hs.under hW);have HQ:=zq (fun W (hW:Below w.heap.size w W)=>hq.under hW);clear ha hp hs hq;clear hwa hbwa h0 hF hT ht hl;go_enter Tryz.func44,Tryz.ntmps44;go_upto_region 1 with fail;rw[HWA.out];clear HWA;refine wp_region_held_drew (S:=(fun W_=>(Has W_ (gf) 84 #[.func (.func 46) #[] #[.pointer (some ⟨ga,0,none⟩),.pointer (some ⟨gp,0,none⟩)]])/\(Has W_ (gt) 27 (tpC t a))/\(Has W_ (w.heap.size) 73 #[.int .i64 kr,.int .i64 kt,.int .i64 kn])/\(Below wa.heap.size wa W_)/\(Has W_ (ga) 35 #[.slice B m d])/\(Has W_ (gp) 35 #[.slice C j x]))) (by kernel_rfl) ?_ (fun hHeld=>?_)
 ·exact⟨HF.out.draw,HTT.out.draw,HL0.out.draw,qah (Below.refl _ _),HA.out.draw,HP.out.draw⟩
 refine tqZ 0 5 (fun w_ ⟨s0,s1,s2,s3,s4,s5⟩=>(show w_.cell? ⟨gf,0,none⟩=some (.func (.func 46) #[] #[.pointer (some ⟨ga,0,none⟩),.pointer (some ⟨gp,0,none⟩)]:Value)from s0.cell 0)) (h:=?_);simp only[lyZ];refine tlZ 1 6 gt (tpC t a) (fun _ ⟨_,h_,_,_,_,_⟩=>h_) (h:=?_);simp only[lyZ];refine tlZ 2 7 w.heap.size #[.int .i64 kr,.int .i64 kt,.int .i64 kn] (fun _ ⟨_,_,h_,_,_,_⟩=>h_) (h:=?_);simp only[lyZ];refine aoZ 3 (some 8) (fun K hK=>?_);go_simp;obtain⟨s0,s1,s2,s3,s4,s5⟩:=hHeld;refine(HPO.out _ (bu HBWA.out s3)).mono ?_;rintro e_ q1 ⟨X,x_,rfl,hsl_,hb_⟩;have HSL:=zq (hsl_);go_wp2_with fail;refine hK.out _ _ ?_ (fun hHeld=>?_)
 ·exact⟨s0.u hb_,s1.u hb_,s2.u hb_,bu s3 hb_,s4.u hb_,s5.u hb_⟩
 clear hK K s0 s1 s2 s3 s4 s5
 try simp only[lyZ]
 refine aoZ 4 (some 9) (fun K hK=>?_);go_simp;obtain⟨s0,s1,s2,s3,s4,s5⟩:=hHeld;refine(opc3_any rp steps path X B C _ x_ m d j x ga gp _ s4 s5 HSL.out (HS.out _ (bu HBWA.out s3)) (HQ.out _ (bu HBWA.out s3)) (by have:=HPF.out;omega) hm hj).mono ?_;rintro e_ q2 ⟨rfl,hb2_⟩;have HSL:=zq (HSL.out.under hb2_);go_wp2_with fail;refine hK.out _ _ ?_ (fun hHeld=>?_)
 ·exact⟨s0.u hb2_,s1.u hb2_,s2.u hb2_,bu s3 hb2_,s4.u hb2_,s5.u hb2_⟩
 clear hK K s0 s1 s2 s3 s4 s5
 try simp only[lyZ]
 refine tkZ 5 4 (h:=?_);simp only[lyZ];refine dnZ ?_;have HB1:=zq (HBWA.out.trans (hHeld.2.2.2.1.mono HBWA.out.size));clear hHeld;go_wp2;go_ret
 exact⟨rfl,HB1.out⟩
theorem oix_c2 (p:Lc3->Bool)(l:List Lc3)(A:Option Addr)(n c:Nat)(gf gt:Nat)(w:World)(hs:SlO lcC 3 w A n c l)(hbig:n<=1048576)
  (HE:Hid (∀(x:Lc3) W,Below w.heap.size w W->Calls Tryz.prog 44 #[.agg (lcA x),.pointer (some ⟨gf,0,none⟩),.pointer (some ⟨gt,0,none⟩)] W fun e w'=>e= .returned (.bool (p x))/\Below W.heap.size W w')):
  Calls Tryz.prog 43 #[.slice A n c,.func (.func 44) #[] #[.pointer (some ⟨gf,0,none⟩),.pointer (some ⟨gt,0,none⟩)]] w fun e w'=>e= .returned (.int .i64 (idxL p l))/\Below w.heap.size w w':=by
 try unfold lcA at HE
 have HN:Hid (l.length=n):=zq hs.len13;have HW:=zq hs;clear hs;have x0:(0:Int)<=n:=by omega
 obtain⟨R,hR⟩:=geZ (idxL p l);have HR:=zq hR;rw[hR];clear hR;go_enter Tryz.func43,Tryz.ntmps43;go_wp2;go_loopg [8] n (fun kk v wl=> ∃j:Nat,j<=n/\n-j<=kk/\v= .int .i64 j/\Hid (∀i x,i<j->l[i]?=some x->p x=false)/\Hid (Below w.heap.size w wl))
 case atStart=>exact⟨0,by omega,by omega,rfl,zq fun i x h=>absurd h (by omega),zq (Below.refl _ _)⟩
 obtain⟨j,hj,hjk,rfl,HNO,HBL⟩:=hrel;by_cases hlt:j<n
 ·obtain⟨x,hx⟩:=glZ l (j) (by rw[HN.out];omega)
  obtain⟨bk,off,rfl,d0,d1,d2⟩:=(HW.out.under HBL.out).lock hx;have HX:=zq hx;have y0:(0:Int)<=j:=by omega
  have y1:(j:Int)<n:=by omega
  have HC:=zq (HE.out x wr HBL.out);clear hx;generalize hb:p x=b at*;have HBE:=zq hb;clear hb
  cases b with
  |true=>
   have HF:Hid (R=j):=zq (by rw[<-HR.out];exact qbC HX.out HBE.out HNO.out);go_upto_region 4 with fail;go_wp2_with fail;refine HC.out.mono ?_;rintro e w1 ⟨rfl,hb1⟩;have HB1:=tB HBL hb1;clear hb1 d0 d1 d2 HBE HNO;go_wp2;go_ret
   exact⟨by rw[HF.out];rfl,HB1.out⟩
  |false=>
   go_upto_region 4 with fail;go_wp2_with fail;refine HC.out.mono ?_;rintro e w1 ⟨rfl,hb1⟩;have HB1:=tB HBL hb1;have HN2:Hid (∀i y,i<j+1->l[i]?=some y->p y=false):=zq fun i y hi hy=>by
    by_cases h:i=j
    ·subst h;rw[HX.out]at hy;cases hy;exact HBE.out
    ·exact HNO.out i y (by omega) hy
   clear hb1 d0 d1 d2 HBE HNO;go_wp2;go_roundg (gk-1)
   case measure=>omega
   case rel=>exact⟨j+1,by omega,by omega,by go_num,HN2,HB1⟩
 ·have y1: ¬(j:Int)<n:=by omega
  have HF:Hid (R= -1):=zq (by rw[<-HR.out];exact qbg fun i y hi hy=>HNO.out i y (by have:=HN.out;omega) hy);go_wp2;go_ret
  exact⟨by rw[HF.out];rfl,HBL.out⟩
theorem after_few17 {t:Tp3}(s:St3):(qaC t s).length<=2*t.edges.length:=by
 unfold qaC;split
 ·have h: ∀L:List Nat,(L.flatMap (qcy t s)).length<=2*L.length:=fun L=>by
   induction L with
   |nil=>simp
   |cons x r ih=>
    rw[List.flatMap_cons,List.length_append,List.length_cons];have h1:(qcy t s x).length<=2:=by
     unfold qcy;rw[List.length_append];split<;>split<;>simp
    omega
  have h2:=h (List.range t.edges.length);rw[List.length_range]at h2;exact h2
 ·simp
structure FitsR17 (W:World) (t:Tp3) (out:List Lc3) (gf gs gp:Nat):Prop where
 first:out=[]->Has W gf 84 #[.func (.func 41) #[] #[.pointer (some ⟨gs,0,none⟩)]]
 next:out≠[]-> ∃ga B m d,Has W ga 35 #[.slice B m d]/\SlO stC 2 W B m d (qaC t (lastS (wayC t out)))/\m<=1048576/\Has W gf 84 #[.func (.func 46) #[] #[.pointer (some ⟨ga,0,none⟩),.pointer (some ⟨gp,0,none⟩)]]
theorem FitsR17.under {W W':World}{t:Tp3}{out:List Lc3}{gf gs gp:Nat}(h:FitsR17 W t out gf gs gp)(hb:Below W.heap.size W W'):FitsR17 W' t out gf gs gp:=
 ⟨fun e=>(h.first e).under hb (h.first e).lt,fun e=>by
  obtain⟨ga,B,m,d,h1,h2,h3,h4⟩:=h.next e;exact⟨ga,B,m,d,h1.u hb,h2.under hb,h3,h4.u hb⟩⟩
theorem FitsR17.cell {W:World}{t:Tp3}{out:List Lc3}{gf gs gp:Nat}(h:FitsR17 W t out gf gs gp): ∃v,Has W gf 84 #[v]/\isBool17 v=false:=by
 by_cases e:out=[]
 ·exact⟨_,h.first e,rfl⟩
 ·obtain⟨ga,B,m,d,h1,h2,h3,h4⟩:=h.next e
  exact⟨_,h4,rfl⟩
theorem opc2_any (t:Tp3)(a:TpA)(out:List Lc3)(s:St3)(k:Lc3)(gf gt gs gp:Nat)(PX:Option Addr)(pn px:Nat)(w:World)(ht:TopR w t a)(hl:qaJ t=true)(hF:FitsR17 w t out gf gs gp)(hT:Has w gt 27 (tpC t a))(hS:Has w gs 30 (stA13 s))(hp:Has w gp 35 #[.slice PX pn px])(hq:SlO stC 2 w PX pn px (wayC t out))(hpn:pn<=1048576):
  Calls Tryz.prog 44 #[.agg (lcA k),.pointer (some ⟨gf,0,none⟩),.pointer (some ⟨gt,0,none⟩)] w fun r w'=>r= .returned (.bool (fitsO t s out (pathR t k.route)))/\Below w.heap.size w w':=by
 by_cases e:out=[]
 ·have h:=opc2a_any t a k s gs gf gt w ht hl (hF.first e) hT hS
  unfold fitsO;rw[if_pos (by rw[e];rfl)];exact h
 ·obtain⟨ga,B,m,d,h1,h2,h3,h4⟩:=hF.next e
  have h:=opc2b_any t a k _ (wayC t out) B PX m d pn px ga gp gf gt w ht hl h4 hT h1 hp h2 hq h3 hpn;unfold fitsO;rw[if_neg (by cases out with|nil=>exact absurd rfl e|cons _ _=>simp)];exact h
theorem SlO.lockA {w:World}{b off n c:Nat}{l:List Lc3}(h:SlO lcC 3 w (some ⟨b,off,none⟩) n c l){j:Nat}{x:Lc3}(hx:l[j]?=some x):w.cell? ⟨b,off+j*3,none⟩=some (.int .i64 x.route)/\w.cell? ⟨b,off+j*3+1,none⟩=some (.int .i64 x.train)/\w.cell? ⟨b,off+j*3+2,none⟩=some (.int .i64 x.no):=by
 obtain⟨b',o',e,h1,h2,h3⟩:=h.lock hx;injection e with e
 injection e with e1 e2 _
 subst e1 e2;exact⟨h1,h2,h3⟩
theorem opn_chain (t:Tp3)(a:TpA)(l:List Lc3)(train:Int)(s:St3)(A:Option Addr)(n c:Nat)(w:World)(ht:TopR w t a)(hl:qaJ t=true)(hcj:t.joints.length<=a.cj)(hs:SlO lcC 3 w A n c l)(_:n<=c)(hn:n<=100):Calls Tryz.prog 12 #[.agg (tpC t a),.slice A n c,.int .i64 train,.agg (stA13 s)] w fun r w'=> ∃X x,r= .returned (.slice X (qc3 t l train s).length x)/\LkT w' X (qc3 t l train s).length x (qc3 t l train s)/\Below w.heap.size w w':=by
 obtain⟨wa,hwa,hbwa,HWA,HBWA,h0,h1⟩:=bx2Z w 27 (tpC t a) 30 (stA13 s);have HT:=zq (fun W (hW:Below wa.heap.size wa W)=>(ht.under hbwa).under hW);have H0:=zH h0;have H1:=zH h1;have HLT:=zq hl;have HCJ:=zq hcj;have HS:=zq (fun W (hW:Below wa.heap.size wa W)=>(hs.under hbwa).under hW);have HL:=zq hs.1;have HNB:=zq hn;have HBZ:=zq hbwa.size;obtain⟨CL,hCL⟩: ∃L,qc3 t l train s=L:=⟨_,rfl⟩
 rw[hCL];have HCL:=zq hCL;clear hwa hbwa h0 h1 ht hl hcj hs hn hCL;go_enter Tryz.func12,Tryz.ntmps12;go_upto_region 1 with fail;rw[HWA.out];clear HWA;go_wp2_with (with_reducible refine ldZ 15 (H0.out wa (Below.refl _ _)) ?_);refine(qfw t a wa (HT.out _ (Below.refl _ _)) HLT.out HCJ.out).mono ?_;rintro e_ w1 ⟨rfl,hb1⟩;have HB1:=zq hb1;clear hb1;by_cases z0:qax t=0;rotate_left
 ·have q0:(qax t !=0)=true:=by simp[z0]
  obtain rfl:CL=[]:=by rw[<-HCL.out];unfold qc3;rw[if_neg z0]
  go_wp2;go_ret
  exact⟨none,0,rfl,LkT.none _,HBWA.out.trans (HB1.out.mono HBWA.out.size)⟩
 have HZ:=zq z0;have HCG:=zq (show qbZ t l train s 8 []=CL from by rw[<-HCL.out];unfold qc3;rw[if_pos z0]);rw[z0];clear z0 HCL;go_wp2_with fail;refine(oolof_any l train A n c w1 (HS.out w1 HB1.out) (by have:=HNB.out;omega)).mono ?_;rintro e_ w2 ⟨X0,k0,x0,rfl,ho,hb2⟩;have HKB:Hid (k0<=100):=zq (by have h0_:=ho.1.1;have h1_:=HL.out;have h2_:=HNB.out;have h3_:(ofL l train).length<=l.length:=List.length_filter_le _ _;omega);have HB2:=tB HB1 hb2;obtain⟨O,hO⟩:=geZ (ofL l train);rw[hO]at ho;have HOL:=zq hO;have HO2:=zq ho.1;clear ho hb2 hO HB1;go_upto_region 6 with fail;obtain⟨u1,hu1⟩: ∃u,w2.alloc (.cells #[.slice none 0 0] 35)=u:=⟨_,rfl⟩
 rw[hu1];have hH1:Has u1 w2.heap.size 35 #[.slice none 0 0]:=by rw[<-hu1];exact Has.made _ _ _
 have hbu1:Below w2.heap.size w2 u1:=by rw[<-hu1];exact bA
 have hsz1:u1.heap.size=w2.heap.size+1:=by rw[<-hu1];simp
 clear hu1;obtain⟨gp,hgp⟩: ∃g,w2.heap.size=g:=⟨_,rfl⟩
 rw[hgp]at hH1 hsz1;simp only[hgp];have HGE:=zq hgp;clear hgp;have hm_:Has (u1.alloc (.cells #[.nilFunc] 84)) (gp+1) 84 #[.nilFunc]:=qbS hsz1;have HM:=zq hm_;obtain⟨u2,hu2⟩: ∃u,(u1.alloc (.cells #[.nilFunc] 84)).setRow (gp+1) #[.func (.func 41) #[] #[.pointer (some ⟨w.heap.size+1,0,none⟩)]]=u:=⟨_,rfl⟩
 have hbu2:Below w2.heap.size w2 u2:=by rw[<-hu2];exact qac (g:=gp+1) (hbu1.alloc hbu1.size _) (by have:=hbu1.size;omega) _
 have HGF:=zq (show Has u2 (gp+1) 84 #[.func (.func 41) #[] #[.pointer (some ⟨w.heap.size+1,0,none⟩)]]from by rw[<-hu2];exact qab hm_ _);have HPB:=zq (show Has u2 gp 35 #[.slice none 0 0]from by rw[<-hu2];exact qae (hH1.beside _) (by omega) _);have HSZ:=zq (show u2.heap.size=gp+2/\w2.heap.size<=gp from by rw[<-hu2];refine⟨by simp;omega,by have:=HGE.out;omega⟩);have HU2:=zq hu2;have HBU:=zq (show Below wa.heap.size wa u2/\Below w2.heap.size w2 u2/\u2.heap.size<=u2.heap.size from⟨bu HB2.out hbu2,hbu2,Nat.le_refl _⟩);have HG0:=zq (show w.heap.size+1<w2.heap.size from by have h1_:=HBZ.out;have h2_:=HB2.out.size;have h3_:=(H1.out wa (Below.refl _ _)).lt;omega);clear hu2 hbu2 hm_ hbu1 hH1;go_upto_region 7 with(with_reducible refine qal (o:=⟨none,_,_,_,_,_⟩) rfl 84 _ _ rfl (gp+1) 0 (.func (.func 41) #[] #[.pointer (some ⟨w.heap.size+1,0,none⟩)]) rfl rfl 84 #[.nilFunc] HM.out (Nat.le_of_ble_eq_true rfl) (by kernel_rfl) rfl #[.func (.func 41) #[] #[.pointer (some ⟨w.heap.size+1,0,none⟩)]] rfl ?_)
 rw[HU2.out];clear HU2 HM hsz1;obtain⟨gf,hgf⟩: ∃g,gp+1=g:=⟨_,rfl⟩
 rw[hgf]at HGF;simp only[hgf];have HGP:=zq hgf;clear hgf
 try simp only[Act.put]
 go_loopg [10] 8 (fun kk v10 wl=> ∃(k:Nat) (X:Option Addr) (x:Nat) (out:List Lc3) (PX:Option Addr) (pn px:Nat),k<=8/\8-k<=kk/\v10= .slice X k x/\Hid (qbZ t l train s (8-k) out=CL)/\Hid (ChainP t l train s out)/\Hid (OwR lcC 3 73 u2.heap.size wl X k x out)/\Hid (Has wl gp 35 #[.slice PX pn px])/\Hid (OwR stC 2 30 u2.heap.size wl PX pn px (wayC t out))/\Hid (FitsR17 wl t out gf (w.heap.size+1) gp)/\Hid (Below wa.heap.size wa wl/\Below w2.heap.size w2 wl/\u2.heap.size<=wl.heap.size))
 case atStart=>exact⟨0,none,0,[],none,0,0,by omega,by omega,rfl,HCG,zq .nil,zq (OwR.nil _ _ _ _ _),HPB,zq (OwR.nil _ _ _ _ _),zq ⟨fun _=>HGF.out,fun h=>absurd rfl h⟩,HBU⟩
 clear HCG HPB HGF HBU;obtain⟨k,X,x,out,PX,pn,px,hk,hkk,rfl,HCG,HCP,HOC,HPB,HPO,HFT,HBU⟩:=hrel;obtain⟨k1,hk1⟩: ∃k1,k1=gk:=⟨_,rfl⟩
 subst hk1;obtain⟨wv,hwv⟩: ∃wv,wv=wr:=⟨_,rfl⟩
 subst hwv;have HK8:=zq (show k<=8/\8-k<=k1 from⟨hk,hkk⟩);have HB:=zq HBU.out.1;by_cases z1:k<8;rotate_left
 ·have z1': ¬(k:Int)<8:=by omega
  have HF:=zq (show out=CL from by have h_:=HCG.out;rw[qeP (.inl z1)]at h_;exact h_);clear hk hkk;go_wp2;go_ret
  have hl_:CL.length=k:=by rw[<-HF.out];exact HOC.out.2
  rw[hl_,<-HF.out];exact⟨X,x,rfl,LkT.of_own HOC.out,HBWA.out.trans (HB.out.mono HBWA.out.size)⟩
 have z1':(k:Int)<8:=by omega
 have HK1:=zq z1;clear z1;have HFD:=zq (find_own17 HZ.out HCP.out);rw[HOL.out]at HFD;obtain⟨pw,hpw⟩: ∃p,wayC t out=p:=⟨_,rfl⟩
 have HPW:=zq hpw;have HPF:=zq (show pn<=800 from by have h1_:=way_few17 HLT.out out;have h2_:=HPO.out.2;have h3_:=HOC.out.2;omega);have HPO1:=zq (show OwR stC 2 30 u2.heap.size wv PX pn px pw from by rw[<-hpw];exact HPO.out);have HIX:=zq (oix_c2 (fun y=>fitsO t s out (pathR t y.route)) O X0 k0 x0 gf (w.heap.size) wv (HO2.out.under HBU.out.2.1) (by have:=HKB.out;omega) (zq fun y W hW=>opc2_any t a out s y gf (w.heap.size) (w.heap.size+1) gp PX pn px W (HT.out W (bu HB.out hW)) HLT.out (HFT.out.under hW) (H0.out W (bu HB.out hW)) (H1.out W (bu HB.out hW)) (HPB.out.u hW) ((HPO.out.under hW).sl) (by have:=HPF.out;omega)));clear hpw
 rcases qbK (fun y=>fitsO t s out (pathR t y.route)) O 0 with⟨h1,h2⟩|⟨i,y,h1,h2,h3,h4⟩
 ·have hfn:l.find? (okC t train s out)=none:=by rw[HFD.out,List.find?_eq_none];intro z hz;obtain⟨j,hj,rfl⟩:=List.getElem_of_mem hz;rw[h2 j _ (List.getElem?_eq_getElem hj)];decide
  rw[show idxL (fun y=>fitsO t s out (pathR t y.route)) O= -1 from h1]at HIX;clear h1 h2;go_upto_region 8 with fail;clear z1';go_wp2_with fail;refine HIX.out.mono ?_;rintro e_ w5 ⟨rfl,hb5⟩;have HOC5:=zq (HOC.out.under hb5);have HB5:=tB HB hb5;clear hb5 HIX;have HF:=zq (show out=CL from by have h_:=HCG.out;rw[qeP (.inr hfn)]at h_;exact h_);clear hk hkk;go_wp2;go_ret
  have hl_:CL.length=k:=by rw[<-HF.out];exact HOC5.out.2
  rw[hl_,<-HF.out];exact⟨X,x,rfl,LkT.of_own HOC5.out,HBWA.out.trans (HB5.out.mono HBWA.out.size)⟩
 have e0:idxL (fun y=>fitsO t s out (pathR t y.route)) O=(i:Int):=by unfold idxL;rw[h4];congr 1;omega
 rw[e0]at HIX;have HFO:=zq (show l.find? (okC t train s out)=some y from HFD.out.trans (qff h1 h2 h3));have hik:i<k0:=by have h_:=(List.getElem?_eq_some_iff.1 h1).1;have:=HO2.out.1;omega
 have HYI:=zq h1;have HIK:=zq (show i<k0/\k0<=100 from⟨hik,HKB.out⟩);have x1:(i:Int)<k0:=by omega
 have x2:(0:Int)<=i:=by omega
 have x3: ¬(i:Int)<0:=by omega
 clear h1 h2 h3 h4 e0 hik HFD;go_upto_region 8 with fail;clear z1';go_wp2_with fail;refine HIX.out.mono ?_;rintro e_ w5 ⟨rfl,hb5⟩;have HB5:=tB HB hb5;have HU5:=zq (show Below w2.heap.size w2 w5/\u2.heap.size<=w5.heap.size from⟨HBU.out.2.1.trans (hb5.mono HBU.out.2.1.size),Nat.le_trans HBU.out.2.2 hb5.size⟩);have HOC5:=zq (HOC.out.under hb5);have HPO5:=zq (HPO1.out.under hb5);have HPB5:=uH HPB hb5;obtain⟨fv,hfv,hfb⟩:=(HFT.out.under hb5).cell;have HFB:=zq (show noB17 #[fv]=true from by unfold noB17;simp[hfb]);have HFV:=zq hfv;clear hb5 hfv hfb HIX HFT HPB HOC HPO HPO1;obtain⟨bk,off,rfl,d0,d1,d2⟩:=(HO2.out.under HU5.out.1).lock HYI.out;have HLC:=zq (fun W (hW:Below w2.heap.size w2 W)=>(HO2.out.under hW).lockA HYI.out);have HNC:=zq ((chain_next17 HK1.out HFO.out).symm.trans HCG.out);have HNP:=zq (qfO HCP.out HFO.out);have HWN:=zq (show wayC t (out++[y])=pw++pathR t y.route from by rw[wayC_app,wayC_one,HPW.out]);have HRT:=zq (okC_rt (List.find?_some HFO.out));obtain⟨kr,kt,kn⟩:=y;dsimp only at d0 d1 d2 HLC HWN HRT;go_upto_region 10 with fail;clear x3;obtain⟨hN,hO,hC,h1,hBD⟩:=pushR (f:=lcC) (k:=3) (e:=73) (w:=w5) 24 ⟨kr,kt,kn⟩ #[.int .i64 kr,.int .i64 kt,.int .i64 kn] rfl rfl (one_lc16 _) HOC5.out HU5.out.2 (by have:=HK8.out;omega) (by omega);have HBW:=zq (show Below wa.heap.size wa (w5.alloc (.cells #[.int .i64 kr,.int .i64 kt,.int .i64 kn] 73))from HB5.out.alloc HB5.out.size _);have HBW2:=zq (show Below w2.heap.size w2 (w5.alloc (.cells #[.int .i64 kr,.int .i64 kt,.int .i64 kn] 73))from HU5.out.1.alloc HU5.out.1.size _);have HLN:=zq HOC5.out.2;go_wp2_with (with_reducible refine qaZ (o:=⟨some 36,_,_,_,_,_⟩) rfl (.tmp 30) (.tmp 35) 28 rfl u2.heap.size 73 (.agg #[.int .i64 0,.int .i64 0,.int .i64 0]) 3 24 Tryz.underlying28 qdL ?hz (by decide) X (k) x ((out).flatMap lcC) ?hs hO ⟨w5.heap.size,0,none⟩ 1 1 (lcC ⟨kr,kt,kn⟩) ?hx hN hC h1 hBD ?next)
 all_goals try rfl
 intro X2 x2_ w6 ho hg;have HOC6:=zq (OwR.snoc HLN.out ho.out);have HPO6:=zq ((HPO5.out.under ((Below.refl _ _).alloc (Nat.le_refl _) (.cells #[.int .i64 kr,.int .i64 kt,.int .i64 kn] 73))).kept hg.out (OwR.two (HPO5.out.under ((Below.refl _ _).alloc (Nat.le_refl _) (.cells #[.int .i64 kr,.int .i64 kt,.int .i64 kn] 73))) (⟨hO.out,HLN.out⟩:OwR lcC 3 73 u2.heap.size _ X k x out) (by decide)));have hlow: ∀g,g<u2.heap.size->some g≠(Value.slice X k x).ownBlock:=fun g hg_ e_=>by have:=(hO.out.lt g e_.symm).1;omega
 have hgp2:gp<u2.heap.size/\gf<u2.heap.size:=by have h1_:=HSZ.out;have h2_:=HGP.out;omega
 have HPB6:=zq ((HPB5.out.beside (.cells #[.int .i64 kr,.int .i64 kt,.int .i64 kn] 73)).grow hg.out (hlow _ hgp2.1));have HFV6:=zq ((HFV.out.beside (.cells #[.int .i64 kr,.int .i64 kt,.int .i64 kn] 73)).grow hg.out (hlow _ hgp2.2));have HB6:=zq (qas HBW.out HBW.out.size hO.out (by have h1_:=HSZ.out;have h2_:=HB2.out.size;omega) rfl hg.out);have HU6:=zq (show Below w2.heap.size w2 w6/\u2.heap.size<=w6.heap.size from⟨qas HBW2.out HBW2.out.size hO.out (by have h1_:=HSZ.out;omega) rfl hg.out,Nat.le_trans (by simpa using Nat.le_succ_of_le HU5.out.2) hg.out.size⟩);clear ho hg hN hO hC h1 hBD HBW HBW2 HLN HOC5 HPO5 HPB5 HFV HB5 HU5 hlow hgp2 d0 d1 d2;obtain⟨k2,hk2⟩: ∃j,k+1=j:=⟨_,rfl⟩
 obtain⟨out2,hout2⟩: ∃o,out++[(⟨kr,kt,kn⟩:Lc3)]=o:=⟨_,rfl⟩
 rw[hk2,hout2]at HOC6;rw[hk2]at HNC;rw[hout2]at HNC HNP HWN;simp only[hk2];have HKK:=zq (show k2<=8/\8-k2<=k1-1/\1<=k1 from by have h1_:=HK8.out;have h2_:=HK1.out;omega);have HON:=zq (show out2≠[]from by rw[<-hout2];simp);clear hk2 hout2 HCG HCP HFO HK8 HK1 hk hkk;have HPA:=zq (fun W (hW:Below wa.heap.size wa W)=>qez t a ⟨kr,kt,kn⟩ W (HT.out W hW) HLT.out);have HR8:=zq (path_some17 HZ.out HRT.out);have HPL:=zq (qbI HLT.out kr);unfold lcA at HPA;dsimp only at HPA HRT;obtain⟨rp,hrp⟩: ∃p,pathR t kr=p:=⟨_,rfl⟩
 rw[hrp]at HPA HR8 HPL HWN;obtain⟨rn,hrn⟩: ∃m,rp.length=m:=⟨_,rfl⟩
 rw[hrn]at HPA HR8 HPL;have HRN:=zq hrn;clear hrp hrn;have hg1:w2.heap.size<=gp:=HSZ.out.2;have hg2:gp+1=gf:=HGP.out;have hg3:w.heap.size+1<w2.heap.size:=HG0.out;have hg4:gp+2<=w6.heap.size:=by have h1_:=HSZ.out.1;have h2_:=HU6.out.2;omega
 go_upto_region 11 with fail;go_cut [10] (fun s10 wx=>s10= .slice X2 k2 x2_/\ ∃PX3 px3,Has wx gp 35 #[.slice PX3 (pn+rn) px3]/\OwR stC 2 30 u2.heap.size wx PX3 (pn+rn) px3 (pw++rp)/\OwR lcC 3 73 u2.heap.size wx X2 k2 x2_ out2/\Has wx gf 84 #[fv]/\Below w2.heap.size w2 wx/\Below wa.heap.size wa wx/\u2.heap.size<=wx.heap.size)
 case first=>
  have HS6:=zq (show u2.heap.size<=w6.heap.size from HU6.out.2);refine wp_region_held_drew (S:=(fun W_=>(Has W_ (w.heap.size) 27 (tpC t a))/\(Below w2.heap.size w2 W_))) (by kernel_rfl) ?_ (fun hHeld=>?_)
  ·exact⟨(H0.out _ HB6.out).draw,qah HU6.out.1⟩
  have HPB6:=zq HPB6.out.draw;have HFV6:=zq HFV6.out.draw;have HPO6:=zq HPO6.out.draw1;have HOC6:=zq HOC6.out.draw1;refine tlZ 1 38 w.heap.size (tpC t a) (fun _ ⟨h_,_⟩=>h_) (h:=?_);simp only[lyZ];refine tkZ 2 39 (h:=?_);simp only[lyZ];refine tkZ 3 40 (h:=?_);simp only[lyZ];refine tkZ 4 41 (h:=?_);simp only[lyZ];refine tkZ 5 42 (hy:=by intro w_ hSw;(try dsimp only at hSw);obtain⟨s0,s1⟩:=hSw;(have q_:=HLC.out w_ s1);obtain⟨q0_,q1_,q2_⟩:=q_;go_simp<;>with_reducible rfl) (h:=?_);simp only[lyZ];refine rdZ [0,6] (acZ (some 37) (fun K hK=>?za2) (acZ (some 43) (fun K hK=>?zb2) AllReadyH.nil))
  case' za2=>
   skip;obtain⟨s0,s1⟩:=hHeld;have q_:=HPB6.out.cell 0;go_simp;clear q_;refine hK.out _ _ ?_ (fun hHeld=>?_)
   ·exact⟨s0,s1⟩
   clear hK K s0 s1
   try simp only[lyZ]
   refine aoZ 6 (some 43) (fun K hK=>?_);go_simp;obtain⟨s0,s1⟩:=hHeld;refine(HPA.out _ (bu HB2.out s1)).mono ?_;rintro e_ q1 ⟨RX,rx,rfl,hsl_,hb_⟩;have HS6:=zq (show u2.heap.size<=q1.heap.size from Nat.le_trans HS6.out hb_.size);have HPB6:=uH HPB6 hb_;have HFV6:=uH HFV6 hb_;have HPO6:=zq (HPO6.out.under hb_);have HOC6:=zq (HOC6.out.under hb_);have HSL:=zq (hsl_);go_wp2_with fail;refine hK.out _ _ ?_ (fun hHeld=>?_)
   ·exact⟨s0.u hb_,bu s1 hb_⟩
  case' zb2=>
   go_simp;obtain⟨s0,s1⟩:=hHeld;refine(HPA.out _ (bu HB2.out s1)).mono ?_;rintro e_ q1 ⟨RX,rx,rfl,hsl_,hb_⟩;have HS6:=zq (show u2.heap.size<=q1.heap.size from Nat.le_trans HS6.out hb_.size);have HPB6:=uH HPB6 hb_;have HFV6:=uH HFV6 hb_;have HPO6:=zq (HPO6.out.under hb_);have HOC6:=zq (HOC6.out.under hb_);have HSL:=zq (hsl_);go_wp2_with fail;refine hK.out _ _ ?_ (fun hHeld=>?_)
   ·exact⟨s0.u hb_,bu s1 hb_⟩
   clear hK K s0 s1
   try simp only[lyZ]
   refine aoZ 0 (some 37) (fun K hK=>?_);skip;obtain⟨s0,s1⟩:=hHeld;have q_:=HPB6.out.cell 0;go_simp;clear q_;refine hK.out _ _ ?_ (fun hHeld=>?_)
   ·exact⟨s0,s1⟩
  all_goals
   clear hK K s0 s1
   try simp only[lyZ]
   refine aoZ 7 (some 44) (fun K hK=>?_);skip;obtain⟨s0,s1⟩:=hHeld;obtain⟨hO,hSL,h1,hBD⟩:=pourR 16 HPO6.out HSL.out qed HS6.out (by have h1_:=HPF.out;have h2_:=HPL.out;omega) (by omega);refine step_pour15 (o:=⟨some 44,_,_,_,_,_⟩) (by rfl) (.tmp 37) (.tmp 43) 35 (by rfl) u2.heap.size 30 (.agg #[.int .i64 0,.bool false]) 2 16 Tryz.underlying35 qce (by rfl) (by decide) PX pn px _ (by rfl) hO RX rn rx _ (by rfl) hSL h1 hBD ?_;intro X3 x3 u3 ho hg;have hlow: ∀g,g<u2.heap.size->some g≠(Value.slice PX pn px).ownBlock:=fun g hg_ e_=>by have:=(hO.out.lt g e_.symm).1;omega
   have HB3:=zq (qas s1 s1.size hO.out (by have h1_:=HSZ.out;omega) rfl hg.out);have HPB6:=zq (HPB6.out.grow hg.out (hlow _ (by have:=HSZ.out;omega)));have HFV6:=zq (HFV6.out.grow hg.out (hlow _ (by have:=HSZ.out;omega)));have HOC6:=zq (HOC6.out.kept hg.out (OwR.two HOC6.out HPO6.out (by decide)));have HPO6:=zq (OwR.poured HPO6.out.2 HRN.out ho.out);have HS6:=zq (show u2.heap.size<=u3.heap.size from Nat.le_trans HS6.out hg.out.size);have hgt:some (w.heap.size)≠(Value.slice PX pn px).ownBlock:=hlow _ (by have:=HSZ.out;omega);refine hK.out _ _ ?_ (fun hHeld=>?_)
   ·exact⟨s0.grow hg.out hgt,HB3.out⟩
   clear hK K s0 s1
   try simp only[lyZ]
   refine aoZ 8 none (fun K hK=>?_);rw[if_pos (by rfl)];obtain⟨s0,s1⟩:=hHeld;refine qaN 35 _ _ rfl (gp) 0 (.slice X3 (pn+rn) x3) (by rfl) (by rfl) 35 #[.slice PX pn px] HPB6.out (Nat.le_of_ble_eq_true rfl) (by kernel_rfl) rfl #[.slice X3 (pn+rn) x3] rfl ?_;have HFV6:=zq (qae (g:=gp) HFV6.out (by omega) #[.slice X3 (pn+rn) x3]);have HPO6:=zq (HPO6.out.kept (qaj _ _ #[.slice X3 (pn+rn) x3]) (.inr (HPO6.out.apart HPB6.out (by decide))));have HOC6:=zq (HOC6.out.kept (qaj _ _ #[.slice X3 (pn+rn) x3]) (.inr (HOC6.out.apart HPB6.out (by decide))));refine hK.out _ _ ?_ (fun hHeld=>?_)
   ·exact⟨qae s0 (by omega) _,qac s1 (by omega) _⟩
   have HPB6:=zq (qab HPB6.out #[.slice X3 (pn+rn) x3]);clear hK K s0 s1
   try simp only[Act.put]
   refine dnZ ?_;go_wp2_with fail;go_meet
   exact⟨rfl,X3,x3,HPB6.out,HPO6.out,HOC6.out,HFV6.out,hHeld.2,HB2.out.trans (hHeld.2.mono HB2.out.size),by have h_:=HS6.out;simpa using h_⟩
 obtain⟨rfl,PX3,px3,hpb_,hpo_,hoc_,hfv_,hb2_,hba_,hu_⟩:=hcut;obtain⟨w7,hw7⟩: ∃u,u=wc:=⟨_,rfl⟩
 subst hw7;obtain⟨pn2,hpn2⟩: ∃m,pn+rn=m:=⟨_,rfl⟩
 obtain⟨pw2,hpw2⟩: ∃p,pw++rp=p:=⟨_,rfl⟩
 rw[hpn2,hpw2]at hpo_;rw[hpn2]at hpb_;rw[hpw2]at HWN;have HPN2:=zq (show 1<=pn2/\pn2<=900 from by have h1_:=HR8.out;have h2_:=HPF.out;have h3_:=HPL.out;omega);obtain⟨gx,hgx,_,_⟩:=hpo_.some (by have:=HPN2.out;omega);subst hgx;have HL2:=zq hpo_.2;obtain⟨ls,hls⟩: ∃s,lastS pw2=s:=⟨_,rfl⟩
 have HLA:=zq (show pw2[pn2-1]?=some ls from by rw[<-hls,<-HL2.out];exact last_at17 (by rw[HL2.out];exact HPN2.out.1));have HLL:=zq hls;have HPO7:=zq hpo_;have HPB7:=zq hpb_;have HOC7:=zq hoc_;have HFV7:=zq hfv_;have HBX:=zq (show Below wa.heap.size wa w7/\Below w2.heap.size w2 w7/\u2.heap.size<=w7.heap.size from⟨hba_,hb2_,hu_⟩);have HLS:=zq (fun W (hW:Below w7.heap.size w7 W)=>qeN (HPO7.out.under hW) HLA.out);have hg5:gp+2<=w7.heap.size:=by have h1_:=HSZ.out.1;omega
 obtain⟨al,hal⟩: ∃l,qaC t ls=l:=⟨_,rfl⟩
 have HAL:=zq hal;obtain⟨an,han⟩: ∃n,al.length=n:=⟨_,rfl⟩
 have HAN:=zq han;have HAF:=zq (show an<=1048576 from by rw[<-han,<-hal];have h1_:=after_few17 (t:=t) ls;have h2_:=(qav HLT.out).1;omega);obtain⟨le,lr⟩:=ls;dsimp only at HLS;clear hpb_ hpo_ hoc_ hfv_ hb2_ hba_ hu_ hpn2 hpw2 hls hal han HPO6 HPB6 HOC6 HFV6 HB6 HU6 HRN;go_upto_region 12 with fail;have hw1:IntKind.i64.wrap ((pn2:Int)-1)=(pn2:Int)-1:=by rw[IntKind.wrap_i64];have h1_:=HPN2.out;omega
 have hw2:((pn2:Int)-1).toNat=pn2-1:=by omega
 have u1_:(0:Int)<=(pn2:Int)-1:=by have:=HPN2.out;omega
 have u2_:(pn2:Int)-1<pn2:=by omega
 have u3_:(1:Int)<=(pn2:Int):=by have:=HPN2.out;omega
 go_cut [14] (fun s14 wx=> ∃ga A5 c5,w7.heap.size<=ga/\s14= .pointer (some ⟨ga,0,none⟩)/\Has wx ga 35 #[.slice A5 an c5]/\SlO stC 2 wx A5 an c5 al/\Has wx gp 35 #[.slice (some ⟨gx,0,none⟩) pn2 px3]/\OwR stC 2 30 u2.heap.size wx (some ⟨gx,0,none⟩) pn2 px3 pw2/\OwR lcC 3 73 u2.heap.size wx X2 k2 x2_ out2/\Has wx gf 84 #[fv]/\Below w7.heap.size w7 wx)
 case first=>
  refine wp_region_held_drew (S:=(fun W_=>(Has W_ (w.heap.size) 27 (tpC t a))/\(Has W_ (gp) 35 #[.slice (some ⟨gx,0,none⟩) pn2 px3])/\(Below w7.heap.size w7 W_))) (by kernel_rfl) ?_ (fun hHeld=>?_)
  ·exact⟨(H0.out _ HBX.out.1).draw,HPB7.out.draw,qah (Below.refl _ _)⟩
  have HPO7:=zq HPO7.out.draw1;have HOC7:=zq HOC7.out.draw1;have HFV7:=zq HFV7.out.draw;refine tlZ 0 45 w.heap.size (tpC t a) (fun _ ⟨h_,_,_⟩=>h_) (h:=?_);simp only[lyZ];refine tqZ 1 46 (fun w_ ⟨s0,s1,s2⟩=>(show w_.cell? ⟨gp,0,none⟩=some (.slice (some ⟨gx,0,none⟩) pn2 px3:Value)from s1.cell 0)) (h:=?_);simp only[lyZ];refine tqZ 2 47 (fun w_ ⟨s0,s1,s2⟩=>(show w_.cell? ⟨gp,0,none⟩=some (.slice (some ⟨gx,0,none⟩) pn2 px3:Value)from s1.cell 0)) (h:=?_);simp only[lyZ];refine tkZ 3 48 (h:=?_);simp only[lyZ];refine tkZ 4 49 (h:=?_);simp only[lyZ];refine tkZ 5 50 (h:=?_);simp only[lyZ];refine tqZ 6 51 (fun w_ ⟨s0,s1,s2⟩=>And.intro ((HLS.out w_ s2).1) ((HLS.out w_ s2).2)) (h:=?_);simp only[lyZ];refine rdZ [7,8] (acZ (some 52) (fun K hK=>?za3) (acZ (some 14) (fun K hK=>?zb3) AllReadyH.nil))
  case' za3=>
   go_simp;obtain⟨s0,s1,s2⟩:=hHeld;refine(qdh t a ⟨le,lr⟩ _ (HT.out _ (HBX.out.1.trans (s2.mono HBX.out.1.size))) HLT.out).mono ?_;rw[HAL.out,HAN.out];rintro e_ q1 ⟨A5,c5,rfl,hs5_,hb_⟩;have HPO7:=zq (HPO7.out.under hb_);have HOC7:=zq (HOC7.out.under hb_);have HFV7:=uH HFV7 hb_;have HSA:=zq (hs5_);go_wp2_with fail;refine hK.out _ _ ?_ (fun hHeld=>?_)
   ·exact⟨s0.u hb_,s1.u hb_,bu s2 hb_⟩
   clear hK K s0 s1 s2
   try simp only[lyZ]
   refine aoZ 8 (some 14) (fun K hK=>?_);go_simp;obtain⟨s0,s1,s2⟩:=hHeld;obtain⟨ga,hga⟩:=geZ (q1.heap.size);have p0_ga:w.heap.size<ga:=by rw[<-hga];exact s0.lt
   have p1_ga:gp<ga:=by rw[<-hga];exact s1.lt
   have p2_ga:w7.heap.size<=ga:=by rw[<-hga];exact s2.size
   rw[hga];refine hK.out _ _ ?_ (fun hHeld=>?_)
   ·exact⟨s0.beside _,s1.beside _,qao s2 _⟩
   have HPO7:=zq (HPO7.out.under ((Below.refl _ _).alloc (Nat.le_refl _) (.cells #[.slice none 0 0] 35)));have HOC7:=zq (HOC7.out.under ((Below.refl _ _).alloc (Nat.le_refl _) (.cells #[.slice none 0 0] 35)));have HFV7:=zq (HFV7.out.beside (.cells #[.slice none 0 0] 35));have HSA:=zq (HSA.out.under ((Below.refl _ _).alloc (Nat.le_refl _) (.cells #[.slice none 0 0] 35)));refine mr3 (fun W_=>(∃o_:Array Value,Has W_ (ga) 35 o_/\o_.size=1/\noB17 o_=true)) ⟨s0.beside _,s1.beside _,qao s2 _,⟨#[.slice none 0 0],(by rw[<-hga];exact Has.made _ _ _),rfl,rfl⟩⟩ (fun h_=>?_);clear hHeld;have hHeld:=h_;clear h_;clear hK K hga s0 s1 s2
  case' zb3=>
   go_simp;obtain⟨s0,s1,s2⟩:=hHeld;obtain⟨ga,hga⟩:=geZ (w7.heap.size);have p0_ga:w.heap.size<ga:=by rw[<-hga];exact s0.lt
   have p1_ga:gp<ga:=by rw[<-hga];exact s1.lt
   have p2_ga:w7.heap.size<=ga:=by rw[<-hga];exact s2.size
   rw[hga];refine hK.out _ _ ?_ (fun hHeld=>?_)
   ·exact⟨s0.beside _,s1.beside _,qao s2 _⟩
   have HPO7:=zq (HPO7.out.under ((Below.refl _ _).alloc (Nat.le_refl _) (.cells #[.slice none 0 0] 35)));have HOC7:=zq (HOC7.out.under ((Below.refl _ _).alloc (Nat.le_refl _) (.cells #[.slice none 0 0] 35)));have HFV7:=zq (HFV7.out.beside (.cells #[.slice none 0 0] 35));refine mr3 (fun W_=>(∃o_:Array Value,Has W_ (ga) 35 o_/\o_.size=1/\noB17 o_=true)) ⟨s0.beside _,s1.beside _,qao s2 _,⟨#[.slice none 0 0],(by rw[<-hga];exact Has.made _ _ _),rfl,rfl⟩⟩ (fun h_=>?_);clear hHeld;have hHeld:=h_;clear h_;clear hK K hga s0 s1 s2
   try simp only[lyZ]
   refine aoZ 7 (some 52) (fun K hK=>?_);go_simp;obtain⟨s0,s1,s2,s3⟩:=hHeld;refine(qdh t a ⟨le,lr⟩ _ (HT.out _ (HBX.out.1.trans (s2.mono HBX.out.1.size))) HLT.out).mono ?_;rw[HAL.out,HAN.out];rintro e_ q1 ⟨A5,c5,rfl,hs5_,hb_⟩;have HPO7:=zq (HPO7.out.under hb_);have HOC7:=zq (HOC7.out.under hb_);have HFV7:=uH HFV7 hb_;have HSA:=zq (hs5_);go_wp2_with fail;refine hK.out _ _ ?_ (fun hHeld=>?_)
   ·exact⟨s0.u hb_,s1.u hb_,bu s2 hb_,(let ⟨o_,h_,e_⟩:=s3;⟨o_,h_.u hb_,e_⟩)⟩
   clear hK K s0 s1 s2 s3
  all_goals
   try simp only[lyZ]
   refine aoZ 9 none (fun K hK=>?_);rw[if_pos (by rfl)];obtain⟨s0,s1,s2,s3⟩:=hHeld;obtain⟨o_,h_,e_⟩:=s3;refine qfS 35 _ _ rfl (ga) (.slice A5 an c5) (by rfl) (by rfl) 35 o_ h_ e_.1 (by kernel_rfl) rfl ?_;have HPO7:=zq (HPO7.out.kept (qaj _ _ #[.slice A5 an c5]) (.inr (HPO7.out.apart h_ (by decide))));have HOC7:=zq (HOC7.out.kept (qaj _ _ #[.slice A5 an c5]) (.inr (HOC7.out.apart h_ (by decide))));have HFV7:=zq (qae (g:=ga) HFV7.out (by omega) #[.slice A5 an c5]);have HSA:=zq (HSA.out.rowB17 h_ e_.2 #[.slice A5 an c5]);refine hK.out _ _ ?_ (fun hHeld=>?_)
   ·exact⟨qae s0 (by omega) _,qae s1 (by omega) _,qac s2 (by omega) _,⟨_,qab h_ _,rfl,rfl⟩⟩
   refine mr4 (fun W_=>(Has W_ (ga) 35 #[.slice A5 an c5])) ⟨qae s0 (by omega) _,qae s1 (by omega) _,qac s2 (by omega) _,⟨_,qab h_ _,rfl,rfl⟩,qab h_ _⟩ (fun h_=>?_);clear hHeld;have hHeld:=h_;clear h_;clear hK K h_ e_ s0 s1 s2
   try simp only[Act.put]
   refine dnZ ?_;go_wp2_with fail;go_meet
   exact⟨ga,A5,c5,by omega,rfl,hHeld.2.2.2.2,HSA.out,hHeld.2.1,HPO7.out,HOC7.out,HFV7.out,hHeld.2.2.1⟩
 obtain⟨ga,A5,c5,hga_,rfl,hga2_,hsa_,hpb_,hpo_,hoc_,hfv_,hb_⟩:=hcut;obtain⟨w8,hw8⟩: ∃u,u=wc:=⟨_,rfl⟩
 subst hw8;have HOC9:=zq (hoc_.kept (qaj w8 gf #[.func (.func 46) #[] #[.pointer (some ⟨ga,0,none⟩),.pointer (some ⟨gp,0,none⟩)]]) (.inr (hoc_.apart hfv_ (by decide))));have HPO9:=zq (hpo_.kept (qaj w8 gf #[.func (.func 46) #[] #[.pointer (some ⟨ga,0,none⟩),.pointer (some ⟨gp,0,none⟩)]]) (.inr (hpo_.apart hfv_ (by decide))));have HPB9:=zq (qae (g:=gf) hpb_ (by omega) #[.func (.func 46) #[] #[.pointer (some ⟨ga,0,none⟩),.pointer (some ⟨gp,0,none⟩)]]);have HFT9:=zq (show FitsR17 (w8.setRow gf #[.func (.func 46) #[] #[.pointer (some ⟨ga,0,none⟩),.pointer (some ⟨gp,0,none⟩)]]) t out2 gf (w.heap.size+1) gp from⟨fun e=>absurd e HON.out,fun _=>⟨ga,A5,an,c5,qae (g:=gf) hga2_ (by omega) _,by rw[HWN.out,HLL.out,HAL.out];exact hsa_.rowB17 hfv_ HFB.out _,HAF.out,qab hfv_ _⟩⟩);have HBW:=zq (show Below wa.heap.size wa w8/\Below w2.heap.size w2 w8/\u2.heap.size<=w8.heap.size from⟨HBX.out.1.trans (hb_.mono HBX.out.1.size),HBX.out.2.1.trans (hb_.mono HBX.out.2.1.size),Nat.le_trans HBX.out.2.2 hb_.size⟩);have HBU9:=zq (show Below wa.heap.size wa (w8.setRow gf #[.func (.func 46) #[] #[.pointer (some ⟨ga,0,none⟩),.pointer (some ⟨gp,0,none⟩)]])/\Below w2.heap.size w2 (w8.setRow gf #[.func (.func 46) #[] #[.pointer (some ⟨ga,0,none⟩),.pointer (some ⟨gp,0,none⟩)]])/\u2.heap.size<=(w8.setRow gf #[.func (.func 46) #[] #[.pointer (some ⟨ga,0,none⟩),.pointer (some ⟨gp,0,none⟩)]]).heap.size from⟨qac HBW.out.1 (by have:=HB2.out.size;omega) _,qac HBW.out.2.1 (by omega) _,by have h_:=HBW.out.2.2;simpa using h_⟩);have HFV8:=zq hfv_;rw[<-HWN.out]at HPO9;clear hga2_ hsa_ hpb_ hpo_ hoc_ hfv_ hb_ hw1 hw2 u1_ u2_ u3_ HPO7 HPB7 HOC7 HFV7 HBX x1 x2;go_wp2_with (with_reducible refine qal (o:=⟨none,_,_,_,_,_⟩) rfl 84 _ _ rfl (gf) 0 (.func (.func 46) #[] #[.pointer (some ⟨ga,0,none⟩),.pointer (some ⟨gp,0,none⟩)]) rfl rfl 84 #[fv] HFV8.out (Nat.le_of_ble_eq_true rfl) (by kernel_rfl) rfl #[.func (.func 46) #[] #[.pointer (some ⟨ga,0,none⟩),.pointer (some ⟨gp,0,none⟩)]] rfl ?_);go_roundg (k1-1)
 case measure=>have:=HKK.out;omega
 case rel=>exact⟨k2,X2,x2_,out2,_,pn2,px3,HKK.out.1,HKK.out.2.1,rfl,HNC,HNP,HOC9,HPB9,HPO9,HFT9,HBU9⟩
end
end Go.Proofs.YtahadmeilajdgaaGreatDoor
